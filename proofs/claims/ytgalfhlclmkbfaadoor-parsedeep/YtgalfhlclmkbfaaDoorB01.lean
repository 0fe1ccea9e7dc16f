/-
  Layer 17 (parse): trees, and what the reader makes of tokens, as functions of lists; plain, no conditions.
-/
import Derived.Test.YtgalfhlclmkbfaaDoorB00
set_option linter.unusedVariables false
set_option linter.unusedSimpArgs false
namespace Go.Proofs.YtgalfhlclmkbfaaDoor

/-- a node of a tree -/
structure Nd where
  mk ::
  k : Nat
  t : List UInt8
  vk : Nat
  vn : Nat
  vs : List UInt8
  f : Bool
  ks : List Nd
  p : Nat

def nd0 (k : Nat) (t : List UInt8) (ks : List Nd) (p : Nat) : Nd := ⟨k, t, 0, 0, [], false, ks, p⟩

/-- what comes of it: a fault and its place, or nodes and the tokens that are left -/
abbrev Rs (α : Type) : Type := Except (Nat × Nat) (α × List Tk)

def hdT (l : List Tk) : Tk := l.headD (endT 0)
def isT (k : Nat) (s : List UInt8) (l : List Tk) : Bool := decide ((hdT l).k = k ∧ (hdT l).t = s)
def isS (s : List UInt8) (l : List Tk) : Bool := isT 5 s l
def isK (s : List UInt8) (l : List Tk) : Bool := isT 2 s l
def pSg (s : List UInt8) (l : List Tk) : Rs Tk := if isS s l = true then .ok (hdT l, l.tail) else .error (170, (hdT l).p)
def pKy (s : List UInt8) (l : List Tk) : Rs Tk := if isK s l = true then .ok (hdT l, l.tail) else .error (170, (hdT l).p)
def pNm (l : List Tk) : Rs Tk := if (hdT l).k = 1 then .ok (hdT l, l.tail) else .error (170, (hdT l).p)
def ent (s : List UInt8) (d : Nat) (l : List Tk) : Rs Tk := if isS s l = true then (if d = 24 then .error (171, (hdT l).p) else .ok (hdT l, l.tail)) else .error (170, (hdT l).p)

def thn {α β : Type} (x : Rs α) (k : α → List Tk → Option (Rs β)) : Option (Rs β) :=
  match x with
  | .error e => some (.error e)
  | .ok (a, l) => k a l
def bnd {α β : Type} (x : Option (Rs α)) (k : α → List Tk → Option (Rs β)) : Option (Rs β) :=
  match x with
  | none => none
  | some y => thn y k
def okN (n : List Nd) (l : List Tk) : Option (Rs (List Nd)) := some (.ok (n, l))

/-- the row of a sign of a Binary -/
def rowS (t : List UInt8) : Nat :=
  if t = [124, 124] then 1 else if t = [38, 38] then 2 else
  if t = [61, 61] ∨ t = [33, 61] ∨ t = [60] ∨ t = [60, 61] ∨ t = [62] ∨ t = [62, 61] then 3 else
  if t = [43] ∨ t = [45] then 4 else if t = [42] ∨ t = [47] ∨ t = [37] then 5 else 0
def rowT (l : List Tk) : Nat := if (hdT l).k = 5 then rowS (hdT l).t else 0

/-- jobs that call jobs: number, what it is about, nodes so far, tokens, how many are open -/
abbrev Jb : Type := Nat → Nat → List Nd → List Tk → Nat → Option (Rs (List Nd))

def opX (x : Nat) : List UInt8 := if x = 2 then [91] else if x = 3 then [123] else [40]
def clX (x : Nat) : List UInt8 := if x = 2 then [93] else if x = 3 then [125] else [41]
def kdX (x : Nat) : Nat := if x = 2 then 18 else if x = 3 then 19 else 15

def jUnary (r : Jb) (l : List Tk) (d : Nat) : Option (Rs (List Nd)) :=
  if isS [45] l = true ∨ isS [33] l = true then thn (ent (hdT l).t d l) (fun t l1 => bnd (r 1 0 [] l1 (d + 1)) (fun ns l2 => okN [nd0 16 t.t ns t.p] l2)) else r 24 0 [] l d
def jBinary (r : Jb) (x : Nat) (l : List Tk) (d : Nat) : Option (Rs (List Nd)) :=
  if 5 < x then r 1 0 [] l d else bnd (r 2 (x + 1) [] l d) (fun ns l1 => r 3 x ns l1 d)
def jBinL (r : Jb) (x : Nat) (acc : List Nd) (l : List Tk) (d : Nat) : Option (Rs (List Nd)) :=
  if rowT l = x then bnd (r 2 (x + 1) [] l.tail d) (fun ns l1 => if x = 3 then okN [nd0 17 (hdT l).t (acc ++ ns) (hdT l).p] l1 else r 3 x [nd0 17 (hdT l).t (acc ++ ns) (hdT l).p] l1 d) else okN acc l
def jReached (r : Jb) (l : List Tk) (d : Nat) : Option (Rs (List Nd)) := bnd (r 5 0 [] l d) (fun ns l1 => r 4 0 ns l1 d)
def jReL (r : Jb) (acc : List Nd) (l : List Tk) (d : Nat) : Option (Rs (List Nd)) :=
  if isS [91] l = true then thn (ent [91] d l) (fun t l1 => bnd (r 0 0 [] l1 (d + 1)) (fun ns l2 => thn (pSg [93] l2) (fun _ l3 => r 4 0 [nd0 21 [] (acc ++ ns) t.p] l3 d)))
  else if isS [46] l = true then thn (pNm l.tail) (fun t l2 => r 4 0 [nd0 22 t.t acc (hdT l).p] l2 d) else okN acc l
def litN (vk vn : Nat) (vs : List UInt8) (l : List Tk) : Option (Rs (List Nd)) := okN [⟨13, [], vk, vn, vs, false, [], (hdT l).p⟩] l.tail
def jOperand (r : Jb) (l : List Tk) (d : Nat) : Option (Rs (List Nd)) :=
  if (hdT l).k = 1 then r 21 0 [] l d else if (hdT l).k = 3 then litN 2 (hdT l).n [] l else if (hdT l).k = 4 then litN 3 0 (hdT l).t l else
  if isK [116, 114, 117, 101] l = true then litN 1 1 [] l else if isK [102, 97, 108, 115, 101] l = true then litN 1 0 [] l else if isK [117, 110, 105, 116] l = true then litN 0 0 [] l else
  if isS [91] l = true then r 22 2 [] l d else if isS [123] l = true then r 22 3 [] l d else r 23 0 [] l d
def jName (r : Jb) (l : List Tk) (d : Nat) : Option (Rs (List Nd)) :=
  thn (pNm l) (fun t l1 => if isS [40] l1 = true then bnd (r 22 1 [] l1 d) (fun ns l2 => okN (ns.map (fun n => ⟨n.k, t.t, n.vk, n.vn, n.vs, n.f, n.ks, t.p⟩)) l2) else okN [nd0 14 t.t [] t.p] l1)
def jWithin (r : Jb) (x : Nat) (l : List Tk) (d : Nat) : Option (Rs (List Nd)) :=
  thn (ent (opX x) d l) (fun t l1 => bnd (r 6 x [] l1 (d + 1)) (fun ns l2 => thn (pSg (clX x) l2) (fun _ l3 => okN [nd0 (kdX x) [] ns t.p] l3)))
def jPart (r : Jb) (x : Nat) (l : List Tk) (d : Nat) : Option (Rs (List Nd)) := if x = 0 then r 25 0 [] l d else if x = 3 then r 8 0 [] l d else r 0 0 [] l d
def jParts (r : Jb) (x : Nat) (l : List Tk) (d : Nat) : Option (Rs (List Nd)) :=
  if isS (clX x) l = true then okN [] l else bnd (jPart r x l d) (fun ns l1 => r 7 x ns l1 d)
def jPaL (r : Jb) (x : Nat) (acc : List Nd) (l : List Tk) (d : Nat) : Option (Rs (List Nd)) :=
  if isS [44] l = true then bnd (jPart r x l.tail d) (fun ns l1 => r 7 x (acc ++ ns) l1 d) else okN acc l
def jParam (l : List Tk) : Option (Rs (List Nd)) := thn (pNm l) (fun t l1 => okN [nd0 3 t.t [] t.p] l1)
def jPair (r : Jb) (l : List Tk) (d : Nat) : Option (Rs (List Nd)) :=
  if ¬ (hdT l).k = 1 ∧ (¬ (hdT l).k = 4 ∨ 32 < (hdT l).t.length) then some (.error (170, (hdT l).p)) else
  thn (pSg [58] l.tail) (fun _ l1 => bnd (r 0 0 [] l1 d) (fun ns l2 => okN [nd0 20 (hdT l).t ns (hdT l).p] l2))
def jGroup (r : Jb) (l : List Tk) (d : Nat) : Option (Rs (List Nd)) :=
  thn (ent [40] d l) (fun _ l1 => bnd (r 0 0 [] l1 (d + 1)) (fun ns l2 => thn (pSg [41] l2) (fun _ l3 => okN ns l3)))
def jStat (r : Jb) (l : List Tk) (d : Nat) : Option (Rs (List Nd)) :=
  if (hdT l).k = 1 ∧ isS [61] l.tail = true then r 16 0 [] l d else
  if isK [108, 101, 116] l = true then r 15 0 [] l d else if isK [105, 102] l = true then r 12 0 [] l d else
  if isK [119, 104, 105, 108, 101] l = true then r 17 0 [] l d else if isK [114, 101, 116, 117, 114, 110] l = true then r 18 0 [] l d else
  if isK [98, 114, 101, 97, 107] l = true then r 26 10 [] l d else if isK [99, 111, 110, 116, 105, 110, 117, 101] l = true then r 26 11 [] l d else r 19 0 [] l d
def jLet (r : Jb) (l : List Tk) (d : Nat) : Option (Rs (List Nd)) :=
  thn (pNm l.tail) (fun t l2 => if isS [61] l2 = true then bnd (r 0 0 [] l2.tail d) (fun ns l3 => thn (pSg [59] l3) (fun _ l4 => okN [nd0 5 t.t ns (hdT l).p] l4)) else thn (pSg [59] l2) (fun _ l4 => okN [nd0 5 t.t [] (hdT l).p] l4))
def jSet (r : Jb) (l : List Tk) (d : Nat) : Option (Rs (List Nd)) :=
  thn (pNm l) (fun t l1 => thn (pSg [61] l1) (fun _ l2 => bnd (r 0 0 [] l2 d) (fun ns l3 => thn (pSg [59] l3) (fun _ l4 => okN [nd0 6 t.t ns t.p] l4))))
def jGuard (r : Jb) (l : List Tk) (d : Nat) : Option (Rs (List Nd)) :=
  thn (pSg [40] l) (fun _ l1 => bnd (r 0 0 [] l1 d) (fun c l2 => thn (pSg [41] l2) (fun _ l3 => bnd (r 10 0 [] l3 d) (fun b l4 => okN (c ++ b) l4))))
def jChoice (r : Jb) (l : List Tk) (d : Nat) : Option (Rs (List Nd)) :=
  bnd (r 20 0 [] l.tail d) (fun ks l1 => if isK [101, 108, 115, 101] l1 = true then
    (if isK [105, 102] l1.tail = true then bnd (r 12 0 [] l1.tail d) (fun x l2 => okN [nd0 7 [] (ks ++ x) (hdT l).p] l2) else bnd (r 10 0 [] l1.tail d) (fun x l2 => okN [nd0 7 [] (ks ++ x) (hdT l).p] l2)) else okN [nd0 7 [] ks (hdT l).p] l1)
def jLoop (r : Jb) (l : List Tk) (d : Nat) : Option (Rs (List Nd)) := bnd (r 20 0 [] l.tail d) (fun ks l1 => okN [nd0 8 [] ks (hdT l).p] l1)
def jGive (r : Jb) (l : List Tk) (d : Nat) : Option (Rs (List Nd)) :=
  if isS [59] l.tail = true then thn (pSg [59] l.tail) (fun _ l2 => okN [nd0 9 [] [] (hdT l).p] l2) else bnd (r 0 0 [] l.tail d) (fun ns l2 => thn (pSg [59] l2) (fun _ l3 => okN [nd0 9 [] ns (hdT l).p] l3))
def jWord (x : Nat) (l : List Tk) : Option (Rs (List Nd)) := thn (pSg [59] l.tail) (fun _ l2 => okN [nd0 x [] [] (hdT l).p] l2)
def jDo (r : Jb) (l : List Tk) (d : Nat) : Option (Rs (List Nd)) := bnd (r 0 0 [] l d) (fun ns l1 => thn (pSg [59] l1) (fun _ l2 => okN [nd0 12 [] ns (hdT l).p] l2))
def jBlock (r : Jb) (l : List Tk) (d : Nat) : Option (Rs (List Nd)) :=
  thn (ent [123] d l) (fun t l1 => bnd (r 11 0 [] l1 (d + 1)) (fun ks l2 => thn (pSg [125] l2) (fun _ l3 => okN [nd0 4 [] ks t.p] l3)))
def jBlL (r : Jb) (acc : List Nd) (l : List Tk) (d : Nat) : Option (Rs (List Nd)) :=
  if isS [125] l = true then okN acc l else bnd (r 9 0 [] l d) (fun ns l1 => r 11 0 (acc ++ ns) l1 d)
def jFn (r : Jb) (b : Bool) (p : Nat) (l : List Tk) (d : Nat) : Option (Rs (List Nd)) :=
  thn (pKy [102, 110] l) (fun _ l2 => thn (pNm l2) (fun t l3 => thn (pSg [40] l3) (fun _ l4 => bnd (r 6 0 [] l4 d) (fun ps l5 => thn (pSg [41] l5) (fun _ l6 => bnd (r 10 0 [] l6 d) (fun bl l7 => okN [⟨2, t.t, 0, 0, [], b, ps ++ bl, p⟩] l7))))))
def jFun (r : Jb) (l : List Tk) (d : Nat) : Option (Rs (List Nd)) :=
  if isK [101, 120, 112, 111, 114, 116] l = true then jFn r true (hdT l).p l.tail d else jFn r false (hdT l).p l d
def jPrL (r : Jb) (acc : List Nd) (l : List Tk) (d : Nat) : Option (Rs (List Nd)) :=
  if (hdT l).k = 0 then okN acc l else bnd (r 13 0 [] l d) (fun ns l1 => r 14 0 (acc ++ ns) l1 d)

def stepJ (r : Jb) : Jb := fun j x acc l d => match j with
  | 0 => r 2 1 [] l d
  | 1 => jUnary r l d
  | 2 => jBinary r x l d
  | 3 => jBinL r x acc l d
  | 4 => jReL r acc l d
  | 5 => jOperand r l d
  | 6 => jParts r x l d
  | 7 => jPaL r x acc l d
  | 8 => jPair r l d
  | 9 => jStat r l d
  | 10 => jBlock r l d
  | 11 => jBlL r acc l d
  | 12 => jChoice r l d
  | 13 => jFun r l d
  | 14 => jPrL r acc l d
  | 15 => jLet r l d
  | 16 => jSet r l d
  | 17 => jLoop r l d
  | 18 => jGive r l d
  | 19 => jDo r l d
  | 20 => jGuard r l d
  | 21 => jName r l d
  | 22 => jWithin r x l d
  | 23 => jGroup r l d
  | 24 => jReached r l d
  | 25 => jParam l
  | 26 => jWord x l
  | 27 => bnd (r 14 0 [] l d) (fun ks l1 => okN [nd0 1 [] ks 0] l1)
  | _ => none

/-- what a job comes to, with so much fuel -/
def PJ : Nat → Jb
  | 0 => fun _ _ _ _ _ => none
  | f + 1 => stepJ (PJ f)
end Go.Proofs.YtgalfhlclmkbfaaDoor
