/-
  Layer 17 (parse): every function of the reader, whatever the tokens; conditions: the reader's state.
-/
import Derived.Test.YtgalfhlclmkbfaaGreatDoorD30
import Derived.Test.YtgalfhlclmkbfaaGreatDoorD31
import Derived.Test.YtgalfhlclmkbfaaGreatDoorD32
import Derived.Test.YtgalfhlclmkbfaaGreatDoorD33
import Derived.Test.YtgalfhlclmkbfaaGreatDoorD34
import Derived.Test.YtgalfhlclmkbfaaGreatDoorD35
import Derived.Test.YtgalfhlclmkbfaaGreatDoorD36
import Derived.Test.YtgalfhlclmkbfaaGreatDoorD37
import Derived.Test.YtgalfhlclmkbfaaGreatDoorD38
import Derived.Test.YtgalfhlclmkbfaaGreatDoorD39
import Derived.Test.YtgalfhlclmkbfaaGreatDoorD40
import Derived.Test.YtgalfhlclmkbfaaGreatDoorD41
import Derived.Test.YtgalfhlclmkbfaaGreatDoorD42
import Derived.Test.YtgalfhlclmkbfaaGreatDoorD43
import Derived.Test.YtgalfhlclmkbfaaGreatDoorD44
set_option linter.unusedVariables false
set_option linter.unusedSimpArgs false
namespace Go.Proofs.YtgalfhlclmkbfaaGreatDoor
open Go.RowKit
set_option linter.unusedVariables false
set_option linter.unusedSimpArgs false
structure AllJ (f : Nat) : Prop where
 expr : ∀ {c : Cx} {l : List Tk} {d : Nat} {w : World} {r : Rs (List Nd)}, PJ f 0 0 [] l d = some r → Rd w c l d → Calls Tryz.prog 22 #[.pointer (some ⟨c.g, 0, none⟩)] w fun e w' => NdP c w d r e w'
 unary : ∀ {c : Cx} {l : List Tk} {d : Nat} {w : World} {r : Rs (List Nd)}, PJ f 1 0 [] l d = some r → Rd w c l d → Calls Tryz.prog 66 #[.pointer (some ⟨c.g, 0, none⟩)] w fun e w' => NdP c w d r e w'
 reached : ∀ {c : Cx} {l : List Tk} {d : Nat} {w : World} {r : Rs (List Nd)}, PJ f 24 0 [] l d = some r → Rd w c l d → Calls Tryz.prog 91 #[.pointer (some ⟨c.g, 0, none⟩)] w fun e w' => NdP c w d r e w'
 operand : ∀ {c : Cx} {l : List Tk} {d : Nat} {w : World} {r : Rs (List Nd)}, PJ f 5 0 [] l d = some r → Rd w c l d → Calls Tryz.prog 111 #[.pointer (some ⟨c.g, 0, none⟩)] w fun e w' => NdP c w d r e w'
 name : ∀ {c : Cx} {l : List Tk} {d : Nat} {w : World} {r : Rs (List Nd)}, PJ f 21 0 [] l d = some r → Rd w c l d → Calls Tryz.prog 125 #[.pointer (some ⟨c.g, 0, none⟩)] w fun e w' => NdP c w d r e w'
 group : ∀ {c : Cx} {l : List Tk} {d : Nat} {w : World} {r : Rs (List Nd)}, PJ f 23 0 [] l d = some r → Rd w c l d → Calls Tryz.prog 129 #[.pointer (some ⟨c.g, 0, none⟩)] w fun e w' => NdP c w d r e w'
 pair : ∀ {c : Cx} {l : List Tk} {d : Nat} {w : World} {r : Rs (List Nd)}, PJ f 8 0 [] l d = some r → Rd w c l d → Calls Tryz.prog 128 #[.pointer (some ⟨c.g, 0, none⟩)] w fun e w' => NdP c w d r e w'
 param : ∀ {c : Cx} {l : List Tk} {d : Nat} {w : World} {r : Rs (List Nd)}, PJ f 25 0 [] l d = some r → Rd w c l d → Calls Tryz.prog 53 #[.pointer (some ⟨c.g, 0, none⟩)] w fun e w' => NdP c w d r e w'
 w1 : ∀ {c : Cx} {l : List Tk} {d : Nat} {w : World} {r : Rs (List Nd)}, PJ f 22 1 [] l d = some r → Rd w c l d → Calls Tryz.prog 127 #[.pointer (some ⟨c.g, 0, none⟩), .int .i64 15, .string (bA [40]), .string (bA [41]), .func (Fn.func 22) #[.pointer (some ⟨c.g, 0, none⟩)] #[]] w fun e w' => NdP c w d r e w'
 w2 : ∀ {c : Cx} {l : List Tk} {d : Nat} {w : World} {r : Rs (List Nd)}, PJ f 22 2 [] l d = some r → Rd w c l d → Calls Tryz.prog 127 #[.pointer (some ⟨c.g, 0, none⟩), .int .i64 18, .string (bA [91]), .string (bA [93]), .func (Fn.func 22) #[.pointer (some ⟨c.g, 0, none⟩)] #[]] w fun e w' => NdP c w d r e w'
 w3 : ∀ {c : Cx} {l : List Tk} {d : Nat} {w : World} {r : Rs (List Nd)}, PJ f 22 3 [] l d = some r → Rd w c l d → Calls Tryz.prog 127 #[.pointer (some ⟨c.g, 0, none⟩), .int .i64 19, .string (bA [123]), .string (bA [125]), .func (Fn.func 128) #[.pointer (some ⟨c.g, 0, none⟩)] #[]] w fun e w' => NdP c w d r e w'
 p0 : ∀ {c : Cx} {l : List Tk} {d : Nat} {w : World} {r : Rs (List Nd)}, PJ f 6 0 [] l d = some r → Rd w c l d → Calls Tryz.prog 52 #[.pointer (some ⟨c.g, 0, none⟩), .string (bA [41]), .func (Fn.func 53) #[.pointer (some ⟨c.g, 0, none⟩)] #[]] w fun e w' => KsP c w d r e w'
 p1 : ∀ {c : Cx} {l : List Tk} {d : Nat} {w : World} {r : Rs (List Nd)}, PJ f 6 1 [] l d = some r → Rd w c l d → Calls Tryz.prog 52 #[.pointer (some ⟨c.g, 0, none⟩), .string (bA [41]), .func (Fn.func 22) #[.pointer (some ⟨c.g, 0, none⟩)] #[]] w fun e w' => KsP c w d r e w'
 p2 : ∀ {c : Cx} {l : List Tk} {d : Nat} {w : World} {r : Rs (List Nd)}, PJ f 6 2 [] l d = some r → Rd w c l d → Calls Tryz.prog 52 #[.pointer (some ⟨c.g, 0, none⟩), .string (bA [93]), .func (Fn.func 22) #[.pointer (some ⟨c.g, 0, none⟩)] #[]] w fun e w' => KsP c w d r e w'
 p3 : ∀ {c : Cx} {l : List Tk} {d : Nat} {w : World} {r : Rs (List Nd)}, PJ f 6 3 [] l d = some r → Rd w c l d → Calls Tryz.prog 52 #[.pointer (some ⟨c.g, 0, none⟩), .string (bA [125]), .func (Fn.func 128) #[.pointer (some ⟨c.g, 0, none⟩)] #[]] w fun e w' => KsP c w d r e w'
 stat : ∀ {c : Cx} {l : List Tk} {d : Nat} {w : World} {r : Rs (List Nd)}, PJ f 9 0 [] l d = some r → Rd w c l d → Calls Tryz.prog 84 #[.pointer (some ⟨c.g, 0, none⟩)] w fun e w' => NdP c w d r e w'
 block : ∀ {c : Cx} {l : List Tk} {d : Nat} {w : World} {r : Rs (List Nd)}, PJ f 10 0 [] l d = some r → Rd w c l d → Calls Tryz.prog 54 #[.pointer (some ⟨c.g, 0, none⟩)] w fun e w' => NdP c w d r e w'
 choice : ∀ {c : Cx} {l : List Tk} {d : Nat} {w : World} {r : Rs (List Nd)}, ¬ (hdT l).k = 0 → PJ f 12 0 [] l d = some r → Rd w c l d → Calls Tryz.prog 101 #[.pointer (some ⟨c.g, 0, none⟩)] w fun e w' => NdP c w d r e w'
 lets : ∀ {c : Cx} {l : List Tk} {d : Nat} {w : World} {r : Rs (List Nd)}, ¬ (hdT l).k = 0 → PJ f 15 0 [] l d = some r → Rd w c l d → Calls Tryz.prog 100 #[.pointer (some ⟨c.g, 0, none⟩)] w fun e w' => NdP c w d r e w'
 sets : ∀ {c : Cx} {l : List Tk} {d : Nat} {w : World} {r : Rs (List Nd)}, PJ f 16 0 [] l d = some r → Rd w c l d → Calls Tryz.prog 99 #[.pointer (some ⟨c.g, 0, none⟩)] w fun e w' => NdP c w d r e w'
 loop : ∀ {c : Cx} {l : List Tk} {d : Nat} {w : World} {r : Rs (List Nd)}, ¬ (hdT l).k = 0 → PJ f 17 0 [] l d = some r → Rd w c l d → Calls Tryz.prog 102 #[.pointer (some ⟨c.g, 0, none⟩)] w fun e w' => NdP c w d r e w'
 give : ∀ {c : Cx} {l : List Tk} {d : Nat} {w : World} {r : Rs (List Nd)}, ¬ (hdT l).k = 0 → PJ f 18 0 [] l d = some r → Rd w c l d → Calls Tryz.prog 103 #[.pointer (some ⟨c.g, 0, none⟩)] w fun e w' => NdP c w d r e w'
 dos : ∀ {c : Cx} {l : List Tk} {d : Nat} {w : World} {r : Rs (List Nd)}, PJ f 19 0 [] l d = some r → Rd w c l d → Calls Tryz.prog 105 #[.pointer (some ⟨c.g, 0, none⟩)] w fun e w' => NdP c w d r e w'
 guard : ∀ {c : Cx} {l : List Tk} {d : Nat} {w : World} {r : Rs (List Nd)}, PJ f 20 0 [] l d = some r → Rd w c l d → Calls Tryz.prog 124 #[.pointer (some ⟨c.g, 0, none⟩)] w fun e w' => KsP c w d r e w'
 wb : ∀ {c : Cx} {l : List Tk} {d : Nat} {w : World} {r : Rs (List Nd)}, ¬ (hdT l).k = 0 → PJ f 26 10 [] l d = some r → Rd w c l d → Calls Tryz.prog 104 #[.pointer (some ⟨c.g, 0, none⟩), .int .i64 10] w fun e w' => NdP c w d r e w'
 wc : ∀ {c : Cx} {l : List Tk} {d : Nat} {w : World} {r : Rs (List Nd)}, ¬ (hdT l).k = 0 → PJ f 26 11 [] l d = some r → Rd w c l d → Calls Tryz.prog 104 #[.pointer (some ⟨c.g, 0, none⟩), .int .i64 11] w fun e w' => NdP c w d r e w'
 funs : ∀ {c : Cx} {l : List Tk} {d : Nat} {w : World} {r : Rs (List Nd)}, PJ f 13 0 [] l d = some r → Rd w c l d → Calls Tryz.prog 30 #[.pointer (some ⟨c.g, 0, none⟩)] w fun e w' => NdP c w d r e w'
 prog : ∀ {c : Cx} {l : List Tk} {d : Nat} {w : World} {r : Rs (List Nd)}, PJ f 27 0 [] l d = some r → Rd w c l d → Calls Tryz.prog 18 #[.pointer (some ⟨c.g, 0, none⟩)] w fun e w' => NdP c w d r e w'
 binary : ∀ {x : Nat} {c : Cx} {l : List Tk} {d : Nat} {w : World} {r : Rs (List Nd)}, 1 ≤ x → x ≤ 6 → PJ f 2 x [] l d = some r → Rd w c l d → Calls Tryz.prog 35 #[.pointer (some ⟨c.g, 0, none⟩), .int .i64 (x : Int)] w fun e w' => NdP c w d r e w'
theorem all_step (f : Nat) (ih : ∀ f1, f1 ≤ f → AllJ f1) : AllJ (f + 1) := by
 have i := ih f (Nat.le_refl f)
 exact {
  expr := fun hJ h => expr_step (f := f) i.binary hJ h
  unary := fun hJ h => unary_step (f := f) i.unary i.reached hJ h
  reached := fun hJ h => reached_step (f := f) i.operand (fun h1 => (ih _ h1).expr) hJ h
  operand := fun hJ h => operand_step (f := f) i.name i.w2 i.w3 i.group hJ h
  name := fun hJ h => name_step (f := f) i.w1 hJ h
  group := fun hJ h => group_step (f := f) i.expr hJ h
  pair := fun hJ h => pair_step (f := f) i.expr hJ h
  param := fun hJ h => param_any (f := f) hJ h
  w1 := fun hJ h => within_step (f := f) (x := 1) _ [40] [41] 15 rfl rfl rfl i.p1 hJ h
  w2 := fun hJ h => within_step (f := f) (x := 2) _ [91] [93] 18 rfl rfl rfl i.p2 hJ h
  w3 := fun hJ h => within_step (f := f) (x := 3) _ [123] [125] 19 rfl rfl rfl i.p3 hJ h
  p0 := fun hJ h => parts_p0 (f := f) (x := 0) [41] rfl (fun h1 => (ih _ h1).param) hJ rfl h
  p1 := fun hJ h => parts_e0 (f := f) (x := 1) [41] rfl (fun h1 => (ih _ h1).expr) hJ rfl h
  p2 := fun hJ h => parts_e0 (f := f) (x := 2) [93] rfl (fun h1 => (ih _ h1).expr) hJ rfl h
  p3 := fun hJ h => parts_r0 (f := f) (x := 3) [125] rfl (fun h1 => (ih _ h1).pair) hJ rfl h
  stat := fun hJ h => stat_step (f := f) i.sets i.lets i.choice i.loop i.give i.wb i.wc i.dos hJ h
  block := fun hJ h => block_step (f := f) (fun h1 => (ih _ h1).stat) hJ h
  choice := fun hk hJ h => choice_step (f := f) i.guard i.choice i.block hk hJ h
  lets := fun hk hJ h => let_step (f := f) i.expr hk hJ h
  sets := fun hJ h => set_step (f := f) i.expr hJ h
  loop := fun hk hJ h => loop_step (f := f) i.guard hk hJ h
  give := fun hk hJ h => give_step (f := f) i.expr hk hJ h
  dos := fun hJ h => do_step (f := f) i.expr hJ h
  guard := fun hJ h => guard_step0 (f := f) i.expr i.block hJ rfl h
  wb := fun hk hJ h => pword_any (f := f) (x := 10) hk hJ h
  wc := fun hk hJ h => pword_any (f := f) (x := 11) hk hJ h
  funs := fun hJ h => fun_step (f := f) i.p0 i.block hJ h
  prog := fun hJ h => prog_step (f := f) (fun h1 => (ih _ h1).funs) hJ h
  binary := fun h1 h6 hJ h => binary_step (f := f) (fun hf => (ih _ hf).binary) i.unary h1 h6 hJ h }
theorem all_J : ∀ n f, f ≤ n → AllJ f
 |n, 0, _ => {
  expr := fun hJ _ => by cases hJ
  unary := fun hJ _ => by cases hJ
  reached := fun hJ _ => by cases hJ
  operand := fun hJ _ => by cases hJ
  name := fun hJ _ => by cases hJ
  group := fun hJ _ => by cases hJ
  pair := fun hJ _ => by cases hJ
  param := fun hJ _ => by cases hJ
  w1 := fun hJ _ => by cases hJ
  w2 := fun hJ _ => by cases hJ
  w3 := fun hJ _ => by cases hJ
  p0 := fun hJ _ => by cases hJ
  p1 := fun hJ _ => by cases hJ
  p2 := fun hJ _ => by cases hJ
  p3 := fun hJ _ => by cases hJ
  stat := fun hJ _ => by cases hJ
  block := fun hJ _ => by cases hJ
  choice := fun _ hJ _ => by cases hJ
  lets := fun _ hJ _ => by cases hJ
  sets := fun hJ _ => by cases hJ
  loop := fun _ hJ _ => by cases hJ
  give := fun _ hJ _ => by cases hJ
  dos := fun hJ _ => by cases hJ
  guard := fun hJ _ => by cases hJ
  wb := fun _ hJ _ => by cases hJ
  wc := fun _ hJ _ => by cases hJ
  funs := fun hJ _ => by cases hJ
  prog := fun hJ _ => by cases hJ
  binary := fun _ _ hJ _ => by cases hJ }
 |0, f + 1, h => by omega
 |n + 1, f + 1, h => all_step f (fun f1 h1 => all_J n f1 (by omega))
end Go.Proofs.YtgalfhlclmkbfaaGreatDoor
