/-
  What ValueChanges keeps while it walks; Lent, Still, Get, With, Without each with one contract; conditions: the form's own reach.
-/
import Derived.Test.YtgkmdjmigehmeaaGreatDoorR12
import Derived.Test.YtgkmdjmigehmeaaGreatDoorR21
import Derived.Test.YtgkmdjmigehmeaaGreatDoorR02
import Derived.Shelf.SlSortCmp.WholeK
import Derived.Shelf.SlGeneric
import Derived.Shelf.SlLaysF0
import Derived.Ground.SlsfProg
import Derived.Test.YtgkmdjmigehmeaaGreatDoorR11
import Derived.Shelf.SlSortCmp.NoneTotal
import Derived.Laws.OwnMore
import Derived.Test.YtgkmdjmigehmeaaGreatDoorR13
namespace Go.Proofs.YtgkmdjmigehmeaaGreatDoor
set_option linter.unusedVariables false
set_option linter.unusedSimpArgs false
set_option maxRecDepth 100000
set_option maxHeartbeats 16000000
open Go.RowKit
def zeroVl : Vl := .mk 0 0 ⟨#[]⟩ [] []
theorem zero_isQ (w : World) (P : Nat → Prop) : IsQ w P zeroVl (.agg #[.int .i64 0, .int .i64 0, .string ⟨#[]⟩, .slice none 0 0, .slice none 0 0]) :=
 ⟨IsP.of (V := fun _ => []) ⟨by omega, by omega, by decide, fun _ => ⟨rfl, rfl⟩, fun _ => ⟨rfl, rfl⟩, Nat.le_refl _, Nat.le_refl _, by decide, by decide, by decide, fun a ha => by (cases ha), fun i hi => by (simp at hi), fun a ha => by (cases ha), fun t ht => by (cases ht)⟩ (fun i y hy => by simp at hy), Ty.leaf ⟨0, 0, ⟨#[]⟩, rfl⟩ _⟩
theorem shape9 {w : World} {P : Nat → Prop} {v : Vl} {x : Value} (h : IsP w P v x) : ∃ p0 p1 p2 p3 p4 p5 p6 p7 p8, x = .agg #[.int .i64 p0, .int .i64 p1, .string p2, .slice p3 p4 p5, .slice p6 p7 p8] := by
 obtain ⟨k, n, s, l, ks, al, ak, cl, ck, _, e⟩ := h.shape
 exact ⟨_, _, _, _, _, _, _, _, _, e⟩
theorem getQ_any (v : Vl) (vv : Value) (B : Nat) (key : ByteArray) (w : World) (hv : IsV w B v vv) (hBs : B ≤ w.heap.size) :
  Calls Tryz.prog 108 #[vv, .string key] w fun e w' => ∃ x', e = .returned (.tuple #[x', .bool (getR v key).isSome]) ∧ Below w.heap.size w w' ∧ IsQ w' (fun b => w.heap.size ≤ b ∧ b < w'.heap.size) ((getR v key).getD zeroVl) x' := by
 cases h : getR v key with
 | none =>
  refine (get_no v vv B w hv hBs key h).mono ?_
  rintro e w' ⟨rfl, b⟩
  exact ⟨_, rfl, b, zero_isQ _ _⟩
 | some y =>
  refine (get_is v vv B w hv hBs key y h).mono ?_
  rintro e w' ⟨x', rfl, b, q⟩
  exact ⟨x', rfl, b, q⟩
def wiV (v : Vl) (key : ByteArray) (x : Vl) : Vl := if withE v key x = 0 then withV v.l v.ks key x else zeroVl
theorem withQ_any (v x : Vl) (vv xx : Value) (B : Nat) (key : ByteArray) (w : World) (hv : IsV w B v vv) (hx : IsV w B x xx) (hBs : B ≤ w.heap.size) :
  Calls Tryz.prog 111 #[vv, .string key, xx] w fun e w' => ∃ x', e = .returned (.tuple #[x', .int .i64 (withE v key x)]) ∧ Below w.heap.size w w' ∧ IsQ w' (fun b => w.heap.size ≤ b ∧ b < w'.heap.size) (wiV v key x) x' := by
 refine (with_any v x vv xx B key w hv hx hBs).mono ?_
 rintro e w' ⟨x', rfl, b, q1, q2⟩
 refine ⟨x', rfl, b, ?_⟩
 unfold wiV
 by_cases h : withE v key x = 0
 ·rw [if_pos h]; exact q1 h
 ·rw [if_neg h, q2 h]; exact zero_isQ _ _
def woV (v : Vl) (key : ByteArray) : Vl := if withoutC v key = 0 then (match placeK v.ks key with | some I => .mk 5 0 ⟨#[]⟩ (v.l.eraseIdx I) (v.ks.eraseIdx I) | none => zeroVl) else zeroVl
theorem right_plain {n : Int} {s : ByteArray} {l : List Vl} {ks : List ByteArray} (h : rightB (.mk 5 n s l ks) = true) : n = 0 ∧ s = ⟨#[]⟩ := by
 have h1 := (right_wt h).1
 rw [show (8 : Nat) = 7 + 1 from rfl, okB, Bool.and_eq_true] at h1
 have h2 := h1.1
 unfold formB formM at h2
 simp at h2
 have hs : s.toList = (⟨#[]⟩ : ByteArray).toList := by
  have := h2.1.1.2
  simpa using this
 exact ⟨h2.1.1.1, (bytes_beq s ⟨#[]⟩).1 (by rw [hs]; simp)⟩
theorem withoutQ_any (v : Vl) (vv : Value) (B : Nat) (key : ByteArray) (w : World) (hv : IsV w B v vv) (hBs : B ≤ w.heap.size) :
  Calls Tryz.prog 112 #[vv, .string key] w fun e w' => ∃ x', e = .returned (.tuple #[x', .int .i64 (withoutC v key)]) ∧ Below w.heap.size w w' ∧ IsQ w' (fun b => w.heap.size ≤ b ∧ b < w'.heap.size) (woV v key) x' := by
 refine (without_any v vv B key w hv hBs).mono ?_
 rintro e w' ⟨x', rfl, b, q1, q2⟩
 refine ⟨x', rfl, b, ?_⟩
 unfold woV
 by_cases h : withoutC v key = 0
 ·rw [if_pos h]
  obtain ⟨h1, h2, I, hI⟩ := withoutC_zero h
  have q := q1 I h hI
  rw [hI]
  obtain ⟨k, n, s, l, ks⟩ := v
  have h2' : k = 5 := h2
  subst h2'
  obtain ⟨e1, e2⟩ := right_plain h1
  subst e1
  subst e2
  exact q
 ·rw [if_neg h, q2 h]; exact zero_isQ _ _
section
variable {w u u1 : World} {g : Nat} {L : List (Nat × Array Value)} {VS DS : List (Vl × Value)} {LS : List (Nat × Nat × Vl × Value × Value)} {QS : List (Nat × Nat × Vl × Value)}
end
abbrev En := ByteArray × Vl
structure EsF (w : World) (P : Nat → Prop) (es : List En) (al : Option Addr) (cl : Nat) (V : Nat → List Value) : Prop where
 nl : al = none → es.length = 0 ∧ cl = 0
 ll : es.length ≤ cl
 bl : 96 * es.length ≤ 140737488351232
 hl : ∀ a, al = some a → ∀ i e, es[i]? = some e → P a.block ∧ ∀ j v, (Value.string e.1 :: V i)[j]? = some v → w.cell? ((a.add (i * 6)).add j) = some v
 bt : ∀ e ∈ es, e.1.size ≤ 140737488351232
 hv : ∀ i e, es[i]? = some e → (V i).length = 5 ∧ IsP w P e.2 (.agg (V i).toArray)
def IsE (w : World) (P : Nat → Prop) (es : List En) (al : Option Addr) (cl : Nat) : Prop := ∃ V, EsF w P es al cl V
open Go.RowKit Go.Shelf Go.Lib Go.Sort
def sortEnt_ren : Go.Shelf.Ren := ⟨fun | 6 => 129 | 15 => 152 | 14 => 151 | 28 => 177 | 29 => 178 | 20 => 169 | 21 => 170 | 22 => 171 | 23 => 172 | 24 => 173 | 25 => 174 | 26 => 175 | 27 => 176 | 46 => 186 | 47 => 187 | 48 => 188 | 49 => 189 | 50 => 190 | 57 => 194 | n => n, fun | 22 => 63 | 24 => 65 | 25 => 125 | 3 => 3 | 39 => 131 | 0 => 0 | 53 => 110 | 55 => 114 | 4 => 4 | 46 => 158 | 45 => 157 | 50 => 107 | 5 => 5 | 9 => 9 | 66 => 169 | 70 => 173 | 76 => 178 | 77 => 76 | n => n, fun | n => n⟩
theorem sortEnt : Go.Proofs.SlLaysF0.n6 Tryz.prog sortEnt_ren := {
 mixed := by kernel_rfl
 f6 := ⟨Tryz.f129.name, by decide, Tryz.func129.trans (congrArg some (by kernel_rfl))⟩
 f14 := ⟨Tryz.f151.name, by decide, Tryz.func151.trans (congrArg some (by kernel_rfl))⟩
 f15 := Tryz.func152.trans (congrArg some (by kernel_rfl))
 f20 := ⟨Tryz.f169.name, by decide, Tryz.func169.trans (congrArg some (by kernel_rfl))⟩
 f21 := ⟨Tryz.f170.name, by decide, Tryz.func170.trans (congrArg some (by kernel_rfl))⟩
 f22 := ⟨Tryz.f171.name, by decide, Tryz.func171.trans (congrArg some (by kernel_rfl))⟩
 f23 := ⟨Tryz.f172.name, by decide, Tryz.func172.trans (congrArg some (by kernel_rfl))⟩
 f24 := ⟨Tryz.f173.name, by decide, Tryz.func173.trans (congrArg some (by kernel_rfl))⟩
 f25 := ⟨Tryz.f174.name, by decide, Tryz.func174.trans (congrArg some (by kernel_rfl))⟩
 f26 := ⟨Tryz.f175.name, by decide, Tryz.func175.trans (congrArg some (by kernel_rfl))⟩
 f27 := ⟨Tryz.f176.name, by decide, Tryz.func176.trans (congrArg some (by kernel_rfl))⟩
 f28 := Tryz.func177.trans (congrArg some (by kernel_rfl))
 f29 := Tryz.func178.trans (congrArg some (by kernel_rfl))
 f46 := ⟨Tryz.f186.name, by decide, Tryz.func186.trans (congrArg some (by kernel_rfl))⟩
 f47 := Tryz.func187.trans (congrArg some (by kernel_rfl))
 f48 := Tryz.func188.trans (congrArg some (by kernel_rfl))
 f49 := ⟨Tryz.f189.name, by decide, Tryz.func189.trans (congrArg some (by kernel_rfl))⟩
 f50 := ⟨Tryz.f190.name, by decide, Tryz.func190.trans (congrArg some (by kernel_rfl))⟩
 f57 := ⟨Tryz.f194.name, by decide, Tryz.func194.trans (congrArg some (by kernel_rfl))⟩
 t0 := Tryz.underlying0
 a0 := Tryz.isAgg0
 z0 := Tryz.sizeOf0
 v0 := Tryz.zeroValue0
 t3 := Tryz.underlying3
 a3 := Tryz.isAgg3
 z3 := Tryz.sizeOf3
 v3 := Tryz.zeroValue3
 t4 := Tryz.underlying4
 a4 := Tryz.isAgg4
 z4 := Tryz.sizeOf4
 v4 := Tryz.zeroValue4
 t5 := Tryz.underlying5
 a5 := Tryz.isAgg5
 z5 := Tryz.sizeOf5
 v5 := Tryz.zeroValue5
 t9 := Tryz.underlying9
 a9 := Tryz.isAgg9
 z9 := Tryz.sizeOf9
 v9 := Tryz.zeroValue9
 t22 := Tryz.underlying63
 a22 := Tryz.isAgg63
 z22 := Tryz.sizeOf63
 v22 := Tryz.zeroValue63
 t25 := Tryz.underlying125
 a25 := Tryz.isAgg125
 z25 := Tryz.sizeOf125
 v25 := Tryz.zeroValue125
 t39 := Tryz.underlying131
 a39 := Tryz.isAgg131
 z39 := Tryz.sizeOf131
 v39 := Tryz.zeroValue131
 t45 := Tryz.underlying157
 a45 := Tryz.isAgg157
 z45 := Tryz.sizeOf157
 v45 := Tryz.zeroValue157
 t46 := Tryz.underlying158
 a46 := Tryz.isAgg158
 z46 := Tryz.sizeOf158
 v46 := Tryz.zeroValue158
 t50 := Tryz.underlying107
 a50 := Tryz.isAgg107
 z50 := Tryz.sizeOf107
 v50 := Tryz.zeroValue107
 t53 := Tryz.underlying110
 a53 := Tryz.isAgg110
 z53 := Tryz.sizeOf110
 v53 := Tryz.zeroValue110
 t55 := Tryz.underlying114
 a55 := Tryz.isAgg114
 z55 := Tryz.sizeOf114
 v55 := Tryz.zeroValue114
 t66 := Tryz.underlying169
 a66 := Tryz.isAgg169
 z66 := Tryz.sizeOf169
 v66 := Tryz.zeroValue169
 t70 := Tryz.underlying173
 a70 := Tryz.isAgg173
 z70 := Tryz.sizeOf173
 v70 := Tryz.zeroValue173
 t76 := Tryz.underlying178
 a76 := Tryz.isAgg178
 z76 := Tryz.sizeOf178
 v76 := Tryz.zeroValue178
 t77 := Tryz.underlying76
 a77 := Tryz.isAgg76
 z77 := Tryz.sizeOf76
 v77 := Tryz.zeroValue76 }
abbrev Ent := ByteArray × Int × Int × ByteArray × (Option Addr × Nat × Nat) × Option Addr × Nat × Nat
def encE (x : Ent) : List Value := [.string x.1, .int .i64 x.2.1, .int .i64 x.2.2.1, .string x.2.2.2.1, .slice x.2.2.2.2.1.1 x.2.2.2.2.1.2.1 x.2.2.2.2.1.2.2, .slice x.2.2.2.2.2.1 x.2.2.2.2.2.2.1 x.2.2.2.2.2.2.2]
def cmpK (a b : ByteArray) : Int := if bl a b = true then -1 else if bl b a = true then 1 else 0
theorem cmp_K (a b : ByteArray) (w : World) : Calls Tryz.prog 153 #[.string a, .string b] w fun e w' => e = .returned (.int .i64 (cmpK a b)) ∧ w' = w := by
 have hn := bl_not b.toList a.toList
 cases h1 : Op.bytesLess a.toList b.toList with
 | true =>
  have HG : Hid (cmpK a b = -1) := hide (by simp [cmpK, bl, h1])
  clear hn
  go_enter Tryz.func153, Tryz.ntmps153
  go_wp2_with fail
  refine (nanC _ _).mono ?_
  rintro e w' ⟨rfl, rfl⟩
  go_wp2_with fail
  refine (nanC _ _).mono ?_
  rintro e w' ⟨rfl, rfl⟩
  go_wp2_with fail
  go_ret
  exact ⟨by rw [uh HG]; rfl, rfl⟩
 | false =>
  have hg : (Op.bytesLess a.toList b.toList || a.toList == b.toList) = !(Op.bytesLess b.toList a.toList) := by rw [hn, Bool.not_not]
  rw [h1, Bool.false_or] at hg
  cases h2 : Op.bytesLess b.toList a.toList with
  | true =>
   have HG : Hid (cmpK a b = 1) := hide (by simp [cmpK, bl, h1, h2])
   rw [h2] at hg
   have hgt : (!(Op.bytesLess a.toList b.toList || a.toList == b.toList)) = true := by rw [h1, hg]; rfl
   clear hn
   go_enter Tryz.func153, Tryz.ntmps153
   go_wp2_with fail
   refine (nanC _ _).mono ?_
   rintro e w' ⟨rfl, rfl⟩
   go_wp2_with fail
   refine (nanC _ _).mono ?_
   rintro e w' ⟨rfl, rfl⟩
   go_wp2_with fail
   go_ret
   exact ⟨by rw [uh HG]; rfl, rfl⟩
  | false =>
   have HG : Hid (cmpK a b = 0) := hide (by simp [cmpK, bl, h1, h2])
   rw [h2] at hg
   have hgt : (!(Op.bytesLess a.toList b.toList || a.toList == b.toList)) = false := by rw [h1, hg]; rfl
   clear hn
   go_enter Tryz.func153, Tryz.ntmps153
   go_wp2_with fail
   refine (nanC _ _).mono ?_
   rintro e w' ⟨rfl, rfl⟩
   go_wp2_with fail
   refine (nanC _ _).mono ?_
   rintro e w' ⟨rfl, rfl⟩
   go_wp2_with fail
   go_ret
   exact ⟨by rw [uh HG]; rfl, rfl⟩
theorem byKey_any (x y : Ent) (W : World) : Calls Tryz.prog 130 #[.agg (encE x).toArray, .agg (encE y).toArray] W fun e w' => e = .returned (.int .i64 (cmpK x.1 y.1)) ∧ ∃ q os', w' = grow (W.drewN q) os' := by
 have hcon := fun W' => cmp_K x.1 y.1 W'
 generalize cmpK x.1 y.1 = r at hcon ⊢
 unfold encE
 go_enter Tryz.func130, Tryz.ntmps130
 go_wp2_with fail
 refine (hcon _).mono ?_
 rintro e w' ⟨rfl, rfl⟩
 go_wp2_with fail
 go_ret
 exact ⟨rfl, 0, _, by rw [alloc_eq_grow, alloc_eq_grow, grow_grow]; rfl⟩
theorem cmpK_lt (x y : ByteArray) : decide (cmpK x y < 0) = bl x y := by
 unfold cmpK
 cases h1 : bl x y with
 | true => simp
 | false => cases h2 : bl y x <;> simp
theorem ltE (x y : Ent) : ltOf (fun x y : Ent => cmpK x.1 y.1) x y = bl x.1 y.1 := by
 unfold ltOf
 exact cmpK_lt _ _
theorem swoE : SWO (ltOf fun x y : Ent => cmpK x.1 y.1) where
 irrefl x := by rw [ltE]; exact kl_irr _
 trans x y z h1 h2 := by rw [ltE] at *; exact kl_trans h1 h2
 ntrans x y z h1 h2 := by
  rw [ltE] at *
  rcases kl_tri x.1 y.1 with h | h | h
  ·rw [h] at h1; cases h1
  ·rw [h]; exact h2
  ·cases h3 : bl x.1 z.1 with
   | false => rfl
   | true => rw [kl_trans h h3] at h2; cases h2
theorem sortE (blk off cap : Nat) (d : Array Ent) (w : World) (hH : HoldsK encE 6 w blk off d) (hblk : blk < w.heap.size) (hsz : d.size < 4611686018427387904) :
  Calls Tryz.prog 129 #[.slice (some ⟨blk, off, none⟩) d.size cap, .func (.func 130) #[] #[]] w fun e w' => e = .returned (.tuple #[]) ∧ ∃ d' n os, PermIn 0 d.size d d' ∧ SortedIn (ltOf fun x y : Ent => cmpK x.1 y.1) 0 d.size d' ∧ w' = sortWorldK encE 6 w blk off n d' os := by
 have eg : ∀ args w, (callFunc 130 args).run Tryz.prog w = .ok (.enter 130 args) w := enters_of Tryz.func130 (by kernel_rfl) rfl
 exact AnyQ.slices_SortFunc sortEnt 6 Tryz.isAgg65 Tryz.sizeOf65 encE (fun _ => rfl) (fun x v hv => by simp [encE] at hv; rcases hv with rfl | rfl | rfl | rfl | rfl | rfl <;> rfl) (fun x y => cmpK x.1 y.1) swoE 130 #[] blk off cap d w eg (fun _ _ _ _ x y => byKey_any x y _) hH hblk hsz
theorem infoEc : (Tryz.prog.info? 65).map (fun i => (i.zero, i.size, i.bytes)) = some (some (.agg #[.string ⟨#[]⟩, .int .i64 0, .int .i64 0, .string ⟨#[]⟩, .slice none 0 0, .slice none 0 0]), 6, 96) := by kernel_rfl
theorem cloneE (ao : Option Addr) (len cap : Nat) (xs : List Value) (w : World) (h : Shows w ao len cap 6 xs) (hb : len * 96 ≤ 140737488355328) :
  Calls Tryz.prog 128 #[.slice ao len cap] w fun e w' => ∃ v', e = .returned v' ∧ w'.ownsRow w.heap.size 65 6 v' len xs ∧ Below w.heap.size w w' := by
 cases ao with
 | none =>
  obtain ⟨rfl, rfl⟩ := h.none rfl
  obtain rfl : xs = [] := List.eq_nil_of_length_eq_zero (by simpa using h.length)
  clear h
  have he : ∀ w : World, (binOp .eql 63 (.slice none 0 0) (.slice none 0 0)).run Tryz.prog w = .ok (.bool true) w := fun _ => rfl
  go_enter Tryz.func128, Tryz.ntmps128
  go_wp2_with fail
  go_ret
  exact ⟨_, rfl, World.ownsRow_nil _ _ _ _, Below.refl _ _⟩
 | some a =>
  obtain ⟨i0, hi, hz0, hz1, hz2⟩ := info_parts infoEc
  have HI := hide (And.intro hi (And.intro hz0 (And.intro hz1 hz2)))
  have B1 : Below w.heap.size w (w.alloc (.cells #[] 65)) := (Below.refl _ _).alloc (Nat.le_refl _) _
  have HB1 := hide B1
  have HM := hide (made0 w 65 6)
  have HC : Hid (∀ j u, xs[j]? = some u → (w.alloc (.cells #[] 65)).cell? (a.add j) = some u) := hide (fun j u hu => by
   have h1 := h.cells a rfl j u hu
   rw [B1.cell (World.block_lt_of_cell? _ _ (by rw [h1]))]
   exact h1)
  have HX := hide (And.intro h.length h.one)
  have he : ∀ w : World, (binOp .eql 63 (.slice (some a) len cap) (.slice none 0 0)).run Tryz.prog w = .ok (.bool false) w := fun _ => rfl
  clear hi hz0 hz1 hz2 B1 h
  go_enter Tryz.func128, Tryz.ntmps128
  go_wp2_with (first | (at_builtin; refine wpList_append_own _ rfl (.tmp 5) (.tmp 6) 63 rfl w.heap.size 65 i0 (.agg #[.string ⟨#[]⟩, .int .i64 0, .int .i64 0, .string ⟨#[]⟩, .slice none 0 0, .slice none 0 0]) 6 96 Tryz.underlying63 (uh HI).1 (uh HI).2.1 (uh HI).2.2.1 (uh HI).2.2.2 rfl (by omega) _ 0 [] rfl (uh HM) a len cap xs rfl (uh HX).1 (uh HC) (uh HX).2 (by unfold maxLen; omega) (by omega) (by simp) ?_; intro v2 w2 hown2 hgrow2 _; have H2 := hide (And.intro hown2 hgrow2); clear hown2 hgrow2))
  go_ret
  obtain ⟨ho, hg⟩ := uh H2
  refine ⟨_, rfl, by simpa using ho, (uh HB1).grown hg (by simp) (fun k hk => ?_)⟩
  cases hk
  exact Nat.le_refl _
theorem sorted_below (base b n : Nat) (d : Array Ent) (w : World) (os : Array Obj) (hb : base ≤ b) (hbs : b < w.heap.size) : Go.RowKit.Below base w (sortWorldK encE 6 w b 0 n d os) := by
 refine ⟨rfl, rfl, rfl, size_sortWorldK_c encE 6 w b 0 n d os, fun k hk => ?_⟩
 unfold sortWorldK putRowK putRow mapBlock grow Sort.ahead
 simp only
 rw [Array.getElem?_append_left (by rw [Array.size_modify]; omega), Array.getElem?_modify, if_neg (by omega)]
theorem sort_any (base cap : Nat) (ao : Option Addr) (d : Array Ent) (w : World) (ho : w.ownsRow base 65 6 (.slice ao d.size cap) d.size (flatK encE 6 d).toList) (hsz : d.size ≤ 2048) :
  Calls Tryz.prog 129 #[.slice ao d.size cap, .func (.func 130) #[] #[]] w fun e w' => e = .returned (.tuple #[]) ∧ Go.RowKit.Below base w w' ∧ ∃ d' : Array Ent, d'.size = d.size ∧ d'.toList.Perm d.toList ∧ (∀ i j, i < j → j < d.size → bl d'[j]!.1 d'[i]!.1 = false) ∧ Shows w' ao d.size cap 6 (flatK encE 6 d').toList := by
 have hone : ∀ d' : Array Ent, ∀ u ∈ (flatK encE 6 d').toList, u.oneCell' = true := fun d' u hu => by
  obtain ⟨t, ht⟩ := List.getElem?_of_mem hu
  have h1 := (List.getElem?_eq_some_iff.1 ht).1
  rw [Array.length_toList, size_flatK] at h1
  have h2 := get_flatK encE 6 d' t h1
  have h3 : (flatK encE 6 d')[t]! = u := by
   rw [getElem!_pos _ t (by rw [size_flatK]; exact h1)]
   rw [Array.getElem?_toList, Array.getElem?_eq_getElem (by rw [size_flatK]; exact h1)] at ht
   exact Option.some.inj ht
  rw [← h3, h2]
  have hm : t % 6 < 6 := Nat.mod_lt _ (by omega)
  generalize t % 6 = q at hm
  match q, hm with
  | 0, _ => rfl
  | 1, _ => rfl
  | 2, _ => rfl
  | 3, _ => rfl
  | 4, _ => rfl
  | 5, _ => rfl
 generalize hv : Value.slice ao d.size cap = v at ho
 rcases ho.2 with ⟨rfl, h0⟩ | ⟨b, c, cur, rfl, hb, hg, _⟩
 ·simp only [Value.slice.injEq] at hv
  obtain ⟨rfl, _, rfl⟩ := hv
  refine (AnyF.slices_SortFunc_none sortEnt none 0 _ w).mono ?_
  rintro e w' ⟨rfl, rfl⟩
  refine ⟨rfl, Go.RowKit.Below.refl _ _, d, rfl, List.Perm.refl _, fun i j h1 h2 => by omega, ⟨ho.1, fun _ => ⟨h0, rfl⟩, fun a ha => by (cases ha), hone d⟩⟩
 ·cases hv
  have hbs : b < w.heap.size := (ho.lt b rfl).2
  have hH : HoldsK encE 6 w b 0 d := fun j hj => by
   rw [size_flatK] at hj
   rw [Nat.zero_add]
   refine ⟨?_, ho.frozenAt j⟩
   rw [ho.cellAt j hj, Array.getElem?_toList, Array.getElem?_eq_getElem (by rw [size_flatK]; exact hj), getElem!_pos _ j (by rw [size_flatK]; exact hj)]
   rfl
  refine (sortE b 0 cap d w hH hbs (by omega)).mono ?_
  rintro e w' ⟨rfl, d', n, os, hp, hs, rfl⟩
  have hsd := hp.1
  refine ⟨rfl, sorted_below base b n d' w os hb hbs, d', hsd, ?_, fun i j h1 h2 => ?_, ⟨by rw [Array.length_toList, size_flatK, hsd], fun e => by (cases e), fun a ha j u hu => ?_, hone d'⟩⟩
  ·have h1 := hp.2.2
   rw [← hsd, Array.extract_size, hsd, Array.extract_size] at h1
   exact h1
  ·have h3 := hs i j (Nat.zero_le _) h1 h2
   rw [ltE] at h3
   exact h3
  ·cases ha
   have hH' := holdsK_sortWorldK_c encE 6 w b 0 d d' n os hH hbs hsd
   have hj := (List.getElem?_eq_some_iff.1 hu).1
   rw [Array.length_toList] at hj
   have h4 := (hH' j hj).1
   rw [Array.getElem?_toList, Array.getElem?_eq_getElem hj] at hu
   rw [Nat.zero_add, getElem!_pos _ j hj] at h4
   have ea : (⟨b, 0, none⟩ : Addr).add j = ⟨b, j, none⟩ := by unfold Addr.add; split <;> simp_all
   rw [ea, h4, ← hu]
   rfl
def valE (x : Ent) : List Value := [.int .i64 x.2.1, .int .i64 x.2.2.1, .string x.2.2.2.1, .slice x.2.2.2.2.1.1 x.2.2.2.2.1.2.1 x.2.2.2.2.1.2.2, .slice x.2.2.2.2.2.1 x.2.2.2.2.2.2.1 x.2.2.2.2.2.2.2]
def keyR (d : Array Ent) (i : Nat) : List Value := (d.toList.take i).map (fun x => Value.string x.1)
def elR (d : Array Ent) : Nat → List Value := fun c => valE d[c]!
theorem keyR_succ (d : Array Ent) (i : Nat) (h : i < d.size) : keyR d (i + 1) = keyR d i ++ [.string d[i]!.1] := by
 unfold keyR
 rw [List.take_add_one, List.map_append, Array.getElem?_toList, Array.getElem?_eq_getElem h, getElem!_pos d i h]
 rfl
theorem elR_succ (d : Array Ent) (i : Nat) : flat (elR d) (i + 1) = flat (elR d) i ++ valE d[i]! := by
 have hV : ∀ n, ∀ c, c < n → (elR d c).length = 5 := fun n c _ => rfl
 refine flat_ext (hV _) (by rw [List.length_append, flat_len (elR d) i (hV i)]; show i * 5 + 5 = _; omega) (fun c hc j hj => ?_)
 by_cases h : c < i
 ·rw [List.getElem?_append_left (by rw [flat_len (elR d) i (hV i)]; omega)]
  exact flat_get (hV i) c j h hj
 ·have hci : c = i := by omega
  subst hci
  rw [List.getElem?_append_right (by rw [flat_len (elR d) c (hV c)]; omega), flat_len (elR d) c (hV c), show c * 5 + j - c * 5 = j by omega]
  rfl
structure Rq (w u : World) (g gb : Nat) (d : Array Ent) (sa : Option Addr) (sn sc i j : Nat) (Lv Kv : Value) : Prop where
 at0 : u.heap[g]? = some (.cells #[.int .i64 0, .int .i64 0, .string ⟨#[]⟩, .slice none 0 0, .slice none 0 0] 25 (0, 0))
 box : u.heap[gb]? = some (.cells #[.int .i64 5, .int .i64 0, .string ⟨#[]⟩, Lv, Kv] 25 (0, 0))
 low : g < gb
 size : gb + 1 ≤ u.heap.size
 below : Below g w u
 shows : Shows u sa sn sc 6 (Go.Sort.flatK encE 6 d).toList
 sblk : ∀ a, sa = some a → a.block < gb
 keys : u.ownsRow (gb + 1) 9 1 Kv i (keyR d i)
 els : u.ownsRow (gb + 1) 25 5 Lv j (flat (elR d) j)
theorem shows_to {u u1 : World} {sa : Option Addr} {n c k b : Nat} {xs : List Value} (h : Shows u sa n c k xs) (hb : ∀ a, sa = some a → a.block < b) (hu : ∀ q, q < b → u1.heap[q]? = u.heap[q]?) : Shows u1 sa n c k xs :=
 ⟨h.length, h.none, fun a ha j v hj => by
  have h1 := h.cells a ha j v hj
  have hbk : (a.add j).block = a.block := by unfold Addr.add; split <;> rfl
  rw [World.cell?_of_block (hu _ (by rw [hbk]; exact hb a ha))]
  exact h1, h.one⟩
theorem rq_later {w u u1 : World} {g gb : Nat} {d : Array Ent} {sa : Option Addr} {sn sc i j : Nat} {Lv Kv : Value} (h : Rq w u g gb d sa sn sc i j Lv Kv) (hu : Below u.heap.size u u1) : Rq w u1 g gb d sa sn sc i j Lv Kv := by
 have h1 := h.size
 have h2 := h.low
 exact ⟨(hu.block g (by omega)).trans h.at0, (hu.block gb (by omega)).trans h.box, h.low, Nat.le_trans h.size hu.size, h.below.trans (hu.mono (by omega)), shows_to h.shows h.sblk (fun q hq => hu.block q (by omega)), h.sblk, own_below h.keys hu, own_below h.els hu⟩
theorem rq_key {w u u1 : World} {g gb : Nat} {d : Array Ent} {sa : Option Addr} {sn sc i j : Nat} {Lv Kv Kv' : Value} (h : Rq w u g gb d sa sn sc i j Lv Kv) (ok : u1.ownsRow (gb + 1) 9 1 Kv' (i + 1) (keyR d (i + 1))) (gk : u.grownBy u1 Kv.ownBlock) :
  Rq w (u1.setCell ⟨gb, 4, none⟩ Kv') g gb d sa sn sc (i + 1) j Lv Kv' := by
 have h1 := h.size
 have h2 := h.low
 have hB : Below (gb + 1) u u1 := (Below.refl _ _).grown gk h.size (fun k e => (h.keys.lt k e).1)
 have hb1 := (hB.block gb (by omega)).trans h.box
 have hS : Below gb u1 (u1.setCell ⟨gb, 4, none⟩ Kv') := (Below.refl _ _).setCell (p := ⟨gb, 4, none⟩) (Nat.le_refl _) _
 have hA : Below gb u (u1.setCell ⟨gb, 4, none⟩ Kv') := (hB.mono (by omega)).trans hS
 refine ⟨(hA.block g h2).trans h.at0, (set_box hb1 _).1, h2, Nat.le_trans h1 hA.size, h.below.trans (hA.mono (by omega)), shows_to h.shows h.sblk (fun q hq => hA.block q hq), h.sblk, own_to5 ok (fun b e => heap_setCell_other _ _ _ _ (by have := (ok.lt b e).1; show b ≠ gb; omega)), ?_⟩
 have e1 := own_to5 h.els (fun b e => gk.block b (h.els.lt b e).2 (own_two h.els h.keys (by decide) e))
 exact own_to5 e1 (fun b e => heap_setCell_other _ _ _ _ (by have := (e1.lt b e).1; show b ≠ gb; omega))
theorem rq_el {w u u1 : World} {g gb : Nat} {d : Array Ent} {sa : Option Addr} {sn sc i j : Nat} {Lv Kv Lv' : Value} (h : Rq w u g gb d sa sn sc i j Lv Kv) (ol : u1.ownsRow (gb + 1) 25 5 Lv' (j + 1) (flat (elR d) (j + 1))) (gl : u.grownBy u1 Lv.ownBlock) :
  Rq w (u1.setCell ⟨gb, 3, none⟩ Lv') g gb d sa sn sc i (j + 1) Lv' Kv := by
 have h1 := h.size
 have h2 := h.low
 have hB : Below (gb + 1) u u1 := (Below.refl _ _).grown gl h.size (fun k e => (h.els.lt k e).1)
 have hb1 := (hB.block gb (by omega)).trans h.box
 have hS : Below gb u1 (u1.setCell ⟨gb, 3, none⟩ Lv') := (Below.refl _ _).setCell (p := ⟨gb, 3, none⟩) (Nat.le_refl _) _
 have hA : Below gb u (u1.setCell ⟨gb, 3, none⟩ Lv') := (hB.mono (by omega)).trans hS
 refine ⟨(hA.block g h2).trans h.at0, (set_box hb1 _).2, h2, Nat.le_trans h1 hA.size, h.below.trans (hA.mono (by omega)), shows_to h.shows h.sblk (fun q hq => hA.block q hq), h.sblk, ?_, own_to5 ol (fun b e => heap_setCell_other _ _ _ _ (by have := (ol.lt b e).1; show b ≠ gb; omega))⟩
 have e1 := own_to5 h.keys (fun b e => gl.block b (h.keys.lt b e).2 (own_two h.keys h.els (by decide) e))
 exact own_to5 e1 (fun b e => heap_setCell_other _ _ _ _ (by have := (e1.lt b e).1; show b ≠ gb; omega))
theorem rq_cells {u : World} {d : Array Ent} {a : Addr} {sn sc i : Nat} (h : Shows u (some a) sn sc 6 (Go.Sort.flatK encE 6 d).toList) (hi : i < d.size) : ∀ j v, (encE d[i]!)[j]? = some v → u.cell? ((a.add (i * 6)).add j) = some v := fun j v hv => by
 have hj : j < 6 := (List.getElem?_eq_some_iff.1 hv).1
 have ha : (a.add (i * 6)).add j = a.add (i * 6 + j) := add_add5 a _ _
 rw [ha]
 refine h.cells a rfl _ v ?_
 have hs : i * 6 + j < (Go.Sort.flatK encE 6 d).size := by rw [Go.Sort.size_flatK]; omega
 have h2 := Go.Sort.get_flatK encE 6 d (i * 6 + j) (by omega)
 rw [show (i * 6 + j) / 6 = i by omega, show (i * 6 + j) % 6 = j by omega, getElem!_pos (Go.Sort.flatK encE 6 d) (i * 6 + j) hs] at h2
 rw [Array.getElem?_toList, Array.getElem?_eq_getElem hs, h2]
 rw [List.getElem!_eq_getElem?_getD, hv]
 rfl
end Go.Proofs.YtgkmdjmigehmeaaGreatDoor
