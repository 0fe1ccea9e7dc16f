/-
  Layer 19 (check): the law's shown, and the walk of CheckSet; conditions: what the variables of strconv hold, the table of operations.
  What the listed package variables of the seat give the walks of lex; a world that has them; no conditions.
  What the listed table of operations of the seat gives the walks; no conditions.
  The six listed variables of this seat, as the row lists them; no conditions.
-/
import Derived.Test.YtjdpaihhhjdgmaaGreatDoorA49
import Derived.Test.YtjdpaihhhjdgmaaGreatDoorA27
import Derived.Test.YtjdpaihhhjdgmaaGreatDoorRows
import Derived.ProofKit
import Derived.LaidMore
import Derived.OpenShut
import Derived.Stop.Joined
import Derived.Stop.LaidErr
import Derived.Lib.LaidTab
import Derived.Test.YtjdpaihhhjdgmaaGreatDoorA09
set_option linter.unusedVariables false
set_option linter.unusedSimpArgs false
set_option maxRecDepth 100000
set_option maxHeartbeats 8000000
namespace Go.Proofs.YtjdpaihhhjdgmaaGreatDoor
open Go.RowKit
set_option linter.unusedVariables false
set_option linter.unusedSimpArgs false
theorem shown19_any (w:World) (he:Ev w) (hw6:5<w.heap.size) (hT:Tab w) :
  Calls Tryz.prog 6 #[] w fun e w'=>e=.returned (.bool true)∧Below w.heap.size w w':=by
 have CE:=hZ (source_is ⟨#[102,110,32,102,40,41,32,123,32,103,40,41,59,32,125]⟩ w he hw6 hT rfl srcX)
 clear he hw6 hT
 go_enter Tryz.func6,Tryz.ntmps6
 go_wp2_with fail
 refine(uZ CE).mono ?_
 rintro e u ⟨rfl,b1⟩
 have B1:=hZ b1
 clear b1 CE
 go_wp2_with fail
 go_ret
 exact⟨rfl,uZ B1⟩
theorem srcl0:srcF [102,110,32,102,40,97,41,32,123,32,108,101,116,32,118,59,32,119,104,105,108,101,32,40,97,41,32,123,32,118,32,61,32,50,59,32,125,32,114,101,116,117,114,110,32,118,59,32,125]=some (45,194):=by kernel_rfl
theorem srcb0:srcF [102,110,32,102,40,97,41,32,123,32,108,101,116,32,118,59,32,105,102,32,40,97,41,32,123,32,118,32,61,32,50,59,32,125,32,101,108,115,101,32,123,32,118,32,61,32,51,59,32,125,32,114,101,116,117,114,110,32,118,59,32,125]=some (0,0):=by kernel_rfl
theorem srci0:srcF [102,110,32,102,40,97,41,32,123,32,108,101,116,32,118,59,32,105,102,32,40,97,41,32,123,32,118,32,61,32,50,59,32,125,32,114,101,116,117,114,110,32,118,59,32,125]=some (42,194):=by kernel_rfl
theorem srcl1:srcF [102,110,32,102,40,97,41,32,123,32,108,101,116,32,118,59,32,118,32,61,32,49,59,32,119,104,105,108,101,32,40,97,41,32,123,32,118,32,61,32,50,59,32,125,32,114,101,116,117,114,110,32,118,59,32,125]=some (0,0):=by kernel_rfl
theorem srcb1:srcF [102,110,32,102,40,97,41,32,123,32,108,101,116,32,118,59,32,118,32,61,32,49,59,32,105,102,32,40,97,41,32,123,32,118,32,61,32,50,59,32,125,32,101,108,115,101,32,123,32,118,32,61,32,51,59,32,125,32,114,101,116,117,114,110,32,118,59,32,125]=some (0,0):=by kernel_rfl
theorem srci1:srcF [102,110,32,102,40,97,41,32,123,32,108,101,116,32,118,59,32,118,32,61,32,49,59,32,105,102,32,40,97,41,32,123,32,118,32,61,32,50,59,32,125,32,114,101,116,117,114,110,32,118,59,32,125]=some (0,0):=by kernel_rfl
theorem app_l (a b:ByteArray):(a++b).data.toList=a.data.toList++b.data.toList:=by rw [ByteArray.data_append,Array.toList_append]
theorem len_of {a:ByteArray} {l:List UInt8} (h:a.data.toList=l):(a.size:Int)=(l.length:Int):=by
 rw [←h]
 simp
theorem set_walk (bo lo ea:Bool) (w:World) (he:Ev w) (hw6:5<w.heap.size) (hT:Tab w) :
  Calls Tryz.prog 5 #[.bool bo,.bool lo,.bool ea] w fun e w'=>e=.returned (.bool true)∧Below w.heap.size w w':=by
 have CE:=hZ (shown19_any w he hw6 hT)
 have HH:=hZ (And.intro he (And.intro hw6 hT))
 clear he hw6 hT
 go_enter Tryz.func5,Tryz.ntmps5
 go_wp2_with fail
 refine(uZ CE).mono ?_
 rintro e u ⟨rfl,b1⟩
 have B1:=hZ b1
 have HE:Hid (Ev u∧5<u.heap.size∧Tab u):=hZ ⟨(uZ HH).1.below b1 (uZ HH).2.1,Nat.lt_of_lt_of_le (uZ HH).2.1 b1.size,(uZ HH).2.2.below b1⟩
 clear b1 CE HH
 cases lo with
 |true=>
  cases ea with
  |true=>
   cases bo with
   |true=>
    have hl:((⟨#[102,110,32,102,40,97,41,32,123,32,108,101,116,32,118,59,32]⟩:ByteArray)++(⟨#[118,32,61,32,49,59,32]⟩:ByteArray)++(⟨#[119,104,105,108,101,32,40,97,41,32,123,32,118,32,61,32,50,59,32,125,32]⟩:ByteArray)++(⟨#[114,101,116,117,114,110,32,118,59,32,125]⟩:ByteArray)).data.toList=[102,110,32,102,40,97,41,32,123,32,108,101,116,32,118,59,32,118,32,61,32,49,59,32,119,104,105,108,101,32,40,97,41,32,123,32,118,32,61,32,50,59,32,125,32,114,101,116,117,114,110,32,118,59,32,125]:=by simp only [app_l] <;> (rfl)
    have CS:=hZ (source_is ((⟨#[102,110,32,102,40,97,41,32,123,32,108,101,116,32,118,59,32]⟩:ByteArray)++(⟨#[118,32,61,32,49,59,32]⟩:ByteArray)++(⟨#[119,104,105,108,101,32,40,97,41,32,123,32,118,32,61,32,50,59,32,125,32]⟩:ByteArray)++(⟨#[114,101,116,117,114,110,32,118,59,32,125]⟩:ByteArray)) u (uZ HE).1 (uZ HE).2.1 (uZ HE).2.2 hl srcl1)
    clear hl HE
    go_wp2_with fail
    refine(uZ CS).mono ?_
    rintro e w2 ⟨rfl,b2⟩
    have B2:=hZ ((uZ B1).trans (b2.mono (uZ B1).size))
    clear b2 CS B1
    go_wp2_with fail
    go_ret
    exact⟨rfl,uZ B2⟩
   |false=>
    have hl:((⟨#[102,110,32,102,40,97,41,32,123,32,108,101,116,32,118,59,32]⟩:ByteArray)++(⟨#[118,32,61,32,49,59,32]⟩:ByteArray)++(⟨#[119,104,105,108,101,32,40,97,41,32,123,32,118,32,61,32,50,59,32,125,32]⟩:ByteArray)++(⟨#[114,101,116,117,114,110,32,118,59,32,125]⟩:ByteArray)).data.toList=[102,110,32,102,40,97,41,32,123,32,108,101,116,32,118,59,32,118,32,61,32,49,59,32,119,104,105,108,101,32,40,97,41,32,123,32,118,32,61,32,50,59,32,125,32,114,101,116,117,114,110,32,118,59,32,125]:=by simp only [app_l] <;> (rfl)
    have CS:=hZ (source_is ((⟨#[102,110,32,102,40,97,41,32,123,32,108,101,116,32,118,59,32]⟩:ByteArray)++(⟨#[118,32,61,32,49,59,32]⟩:ByteArray)++(⟨#[119,104,105,108,101,32,40,97,41,32,123,32,118,32,61,32,50,59,32,125,32]⟩:ByteArray)++(⟨#[114,101,116,117,114,110,32,118,59,32,125]⟩:ByteArray)) u (uZ HE).1 (uZ HE).2.1 (uZ HE).2.2 hl srcl1)
    clear hl HE
    go_wp2_with fail
    refine(uZ CS).mono ?_
    rintro e w2 ⟨rfl,b2⟩
    have B2:=hZ ((uZ B1).trans (b2.mono (uZ B1).size))
    clear b2 CS B1
    go_wp2_with fail
    go_ret
    exact⟨rfl,uZ B2⟩
  |false=>
   cases bo with
   |true=>
    have hl:((⟨#[102,110,32,102,40,97,41,32,123,32,108,101,116,32,118,59,32]⟩:ByteArray)++(⟨#[119,104,105,108,101,32,40,97,41,32,123,32,118,32,61,32,50,59,32,125,32]⟩:ByteArray)++(⟨#[114,101,116,117,114,110,32,118,59,32,125]⟩:ByteArray)).data.toList=[102,110,32,102,40,97,41,32,123,32,108,101,116,32,118,59,32,119,104,105,108,101,32,40,97,41,32,123,32,118,32,61,32,50,59,32,125,32,114,101,116,117,114,110,32,118,59,32,125]:=by simp only [app_l] <;> (rfl)
    have CS:=hZ (source_is ((⟨#[102,110,32,102,40,97,41,32,123,32,108,101,116,32,118,59,32]⟩:ByteArray)++(⟨#[119,104,105,108,101,32,40,97,41,32,123,32,118,32,61,32,50,59,32,125,32]⟩:ByteArray)++(⟨#[114,101,116,117,114,110,32,118,59,32,125]⟩:ByteArray)) u (uZ HE).1 (uZ HE).2.1 (uZ HE).2.2 hl srcl0)
    have hz:(((⟨#[102,110,32,102,40,97,41,32,123,32,108,101,116,32,118,59,32]⟩:ByteArray)++(⟨#[119,104,105,108,101,32,40,97,41,32,123,32,118,32,61,32,50,59,32,125,32]⟩:ByteArray)).size:Int)=38:=by rw [len_of (l:=[102,110,32,102,40,97,41,32,123,32,108,101,116,32,118,59,32,119,104,105,108,101,32,40,97,41,32,123,32,118,32,61,32,50,59,32,125,32]) (by simp only [app_l] <;> (rfl))] <;> (rfl)
    clear hl HE
    go_wp2_with fail
    refine(uZ CS).mono ?_
    rintro e w2 ⟨rfl,b2⟩
    have B2:=hZ ((uZ B1).trans (b2.mono (uZ B1).size))
    clear b2 CS B1
    go_wp2_with fail
    go_ret
    exact⟨rfl,uZ B2⟩
   |false=>
    have hl:((⟨#[102,110,32,102,40,97,41,32,123,32,108,101,116,32,118,59,32]⟩:ByteArray)++(⟨#[119,104,105,108,101,32,40,97,41,32,123,32,118,32,61,32,50,59,32,125,32]⟩:ByteArray)++(⟨#[114,101,116,117,114,110,32,118,59,32,125]⟩:ByteArray)).data.toList=[102,110,32,102,40,97,41,32,123,32,108,101,116,32,118,59,32,119,104,105,108,101,32,40,97,41,32,123,32,118,32,61,32,50,59,32,125,32,114,101,116,117,114,110,32,118,59,32,125]:=by simp only [app_l] <;> (rfl)
    have CS:=hZ (source_is ((⟨#[102,110,32,102,40,97,41,32,123,32,108,101,116,32,118,59,32]⟩:ByteArray)++(⟨#[119,104,105,108,101,32,40,97,41,32,123,32,118,32,61,32,50,59,32,125,32]⟩:ByteArray)++(⟨#[114,101,116,117,114,110,32,118,59,32,125]⟩:ByteArray)) u (uZ HE).1 (uZ HE).2.1 (uZ HE).2.2 hl srcl0)
    have hz:(((⟨#[102,110,32,102,40,97,41,32,123,32,108,101,116,32,118,59,32]⟩:ByteArray)++(⟨#[119,104,105,108,101,32,40,97,41,32,123,32,118,32,61,32,50,59,32,125,32]⟩:ByteArray)).size:Int)=38:=by rw [len_of (l:=[102,110,32,102,40,97,41,32,123,32,108,101,116,32,118,59,32,119,104,105,108,101,32,40,97,41,32,123,32,118,32,61,32,50,59,32,125,32]) (by simp only [app_l] <;> (rfl))] <;> (rfl)
    clear hl HE
    go_wp2_with fail
    refine(uZ CS).mono ?_
    rintro e w2 ⟨rfl,b2⟩
    have B2:=hZ ((uZ B1).trans (b2.mono (uZ B1).size))
    clear b2 CS B1
    go_wp2_with fail
    go_ret
    exact⟨rfl,uZ B2⟩
 |false=>
  cases ea with
  |true=>
   cases bo with
   |true=>
    have hl:((⟨#[102,110,32,102,40,97,41,32,123,32,108,101,116,32,118,59,32]⟩:ByteArray)++(⟨#[118,32,61,32,49,59,32]⟩:ByteArray)++(⟨#[105,102,32,40,97,41,32,123,32,118,32,61,32,50,59,32,125,32]⟩:ByteArray)++(⟨#[101,108,115,101,32,123,32,118,32,61,32,51,59,32,125,32]⟩:ByteArray)++(⟨#[114,101,116,117,114,110,32,118,59,32,125]⟩:ByteArray)).data.toList=[102,110,32,102,40,97,41,32,123,32,108,101,116,32,118,59,32,118,32,61,32,49,59,32,105,102,32,40,97,41,32,123,32,118,32,61,32,50,59,32,125,32,101,108,115,101,32,123,32,118,32,61,32,51,59,32,125,32,114,101,116,117,114,110,32,118,59,32,125]:=by simp only [app_l] <;> (rfl)
    have CS:=hZ (source_is ((⟨#[102,110,32,102,40,97,41,32,123,32,108,101,116,32,118,59,32]⟩:ByteArray)++(⟨#[118,32,61,32,49,59,32]⟩:ByteArray)++(⟨#[105,102,32,40,97,41,32,123,32,118,32,61,32,50,59,32,125,32]⟩:ByteArray)++(⟨#[101,108,115,101,32,123,32,118,32,61,32,51,59,32,125,32]⟩:ByteArray)++(⟨#[114,101,116,117,114,110,32,118,59,32,125]⟩:ByteArray)) u (uZ HE).1 (uZ HE).2.1 (uZ HE).2.2 hl srcb1)
    clear hl HE
    go_wp2_with fail
    refine(uZ CS).mono ?_
    rintro e w2 ⟨rfl,b2⟩
    have B2:=hZ ((uZ B1).trans (b2.mono (uZ B1).size))
    clear b2 CS B1
    go_wp2_with fail
    go_ret
    exact⟨rfl,uZ B2⟩
   |false=>
    have hl:((⟨#[102,110,32,102,40,97,41,32,123,32,108,101,116,32,118,59,32]⟩:ByteArray)++(⟨#[118,32,61,32,49,59,32]⟩:ByteArray)++(⟨#[105,102,32,40,97,41,32,123,32,118,32,61,32,50,59,32,125,32]⟩:ByteArray)++(⟨#[114,101,116,117,114,110,32,118,59,32,125]⟩:ByteArray)).data.toList=[102,110,32,102,40,97,41,32,123,32,108,101,116,32,118,59,32,118,32,61,32,49,59,32,105,102,32,40,97,41,32,123,32,118,32,61,32,50,59,32,125,32,114,101,116,117,114,110,32,118,59,32,125]:=by simp only [app_l] <;> (rfl)
    have CS:=hZ (source_is ((⟨#[102,110,32,102,40,97,41,32,123,32,108,101,116,32,118,59,32]⟩:ByteArray)++(⟨#[118,32,61,32,49,59,32]⟩:ByteArray)++(⟨#[105,102,32,40,97,41,32,123,32,118,32,61,32,50,59,32,125,32]⟩:ByteArray)++(⟨#[114,101,116,117,114,110,32,118,59,32,125]⟩:ByteArray)) u (uZ HE).1 (uZ HE).2.1 (uZ HE).2.2 hl srci1)
    clear hl HE
    go_wp2_with fail
    refine(uZ CS).mono ?_
    rintro e w2 ⟨rfl,b2⟩
    have B2:=hZ ((uZ B1).trans (b2.mono (uZ B1).size))
    clear b2 CS B1
    go_wp2_with fail
    go_ret
    exact⟨rfl,uZ B2⟩
  |false=>
   cases bo with
   |true=>
    have hl:((⟨#[102,110,32,102,40,97,41,32,123,32,108,101,116,32,118,59,32]⟩:ByteArray)++(⟨#[105,102,32,40,97,41,32,123,32,118,32,61,32,50,59,32,125,32]⟩:ByteArray)++(⟨#[101,108,115,101,32,123,32,118,32,61,32,51,59,32,125,32]⟩:ByteArray)++(⟨#[114,101,116,117,114,110,32,118,59,32,125]⟩:ByteArray)).data.toList=[102,110,32,102,40,97,41,32,123,32,108,101,116,32,118,59,32,105,102,32,40,97,41,32,123,32,118,32,61,32,50,59,32,125,32,101,108,115,101,32,123,32,118,32,61,32,51,59,32,125,32,114,101,116,117,114,110,32,118,59,32,125]:=by simp only [app_l] <;> (rfl)
    have CS:=hZ (source_is ((⟨#[102,110,32,102,40,97,41,32,123,32,108,101,116,32,118,59,32]⟩:ByteArray)++(⟨#[105,102,32,40,97,41,32,123,32,118,32,61,32,50,59,32,125,32]⟩:ByteArray)++(⟨#[101,108,115,101,32,123,32,118,32,61,32,51,59,32,125,32]⟩:ByteArray)++(⟨#[114,101,116,117,114,110,32,118,59,32,125]⟩:ByteArray)) u (uZ HE).1 (uZ HE).2.1 (uZ HE).2.2 hl srcb0)
    clear hl HE
    go_wp2_with fail
    refine(uZ CS).mono ?_
    rintro e w2 ⟨rfl,b2⟩
    have B2:=hZ ((uZ B1).trans (b2.mono (uZ B1).size))
    clear b2 CS B1
    go_wp2_with fail
    go_ret
    exact⟨rfl,uZ B2⟩
   |false=>
    have hl:((⟨#[102,110,32,102,40,97,41,32,123,32,108,101,116,32,118,59,32]⟩:ByteArray)++(⟨#[105,102,32,40,97,41,32,123,32,118,32,61,32,50,59,32,125,32]⟩:ByteArray)++(⟨#[114,101,116,117,114,110,32,118,59,32,125]⟩:ByteArray)).data.toList=[102,110,32,102,40,97,41,32,123,32,108,101,116,32,118,59,32,105,102,32,40,97,41,32,123,32,118,32,61,32,50,59,32,125,32,114,101,116,117,114,110,32,118,59,32,125]:=by simp only [app_l] <;> (rfl)
    have CS:=hZ (source_is ((⟨#[102,110,32,102,40,97,41,32,123,32,108,101,116,32,118,59,32]⟩:ByteArray)++(⟨#[105,102,32,40,97,41,32,123,32,118,32,61,32,50,59,32,125,32]⟩:ByteArray)++(⟨#[114,101,116,117,114,110,32,118,59,32,125]⟩:ByteArray)) u (uZ HE).1 (uZ HE).2.1 (uZ HE).2.2 hl srci0)
    have hz:(((⟨#[102,110,32,102,40,97,41,32,123,32,108,101,116,32,118,59,32]⟩:ByteArray)++(⟨#[105,102,32,40,97,41,32,123,32,118,32,61,32,50,59,32,125,32]⟩:ByteArray)).size:Int)=35:=by rw [len_of (l:=[102,110,32,102,40,97,41,32,123,32,108,101,116,32,118,59,32,105,102,32,40,97,41,32,123,32,118,32,61,32,50,59,32,125,32]) (by simp only [app_l] <;> (rfl))] <;> (rfl)
    clear hl HE
    go_wp2_with fail
    refine(uZ CS).mono ?_
    rintro e w2 ⟨rfl,b2⟩
    have B2:=hZ ((uZ B1).trans (b2.mono (uZ B1).size))
    clear b2 CS B1
    go_wp2_with fail
    go_ret
    exact⟨rfl,uZ B2⟩
open Go.ChangeShapes Go.WideShapes Go.ChangeAt Go.RowKit
theorem own:ownKnob Tryz.prog.godebug=none:=by kernel_rfl
theorem tPow:(Tryz.prog.globals[3]?).map (·.type)=some 172:=by kernel_rfl
theorem tab_pow:(Rows.laid_internal_strconv_uint64pow10:DataW Unit)=Lib.tabData .u64 Lib.pow10Tab:=by kernel_rfl
theorem gSyn:Tryz.prog.globalNamed "strconv.ErrSyntax"=some 1:=by kernel_rfl
theorem tSyn:(Tryz.prog.globals[1]?).map (·.type)=some 127:=by kernel_rfl
theorem gRng:Tryz.prog.globalNamed "strconv.ErrRange"=some 2:=by kernel_rfl
theorem tRng:(Tryz.prog.globals[2]?).map (·.type)=some 127:=by kernel_rfl
theorem gBits:Tryz.prog.globalNamed "math/bits.deBruijn64tab"=some 6:=by kernel_rfl
theorem cellsES:Tryz.prog.cellsOf 178=1:=by kernel_rfl
theorem cellsSt:Tryz.prog.cellsOf 9=1:=by kernel_rfl
theorem starES:"*"++"errors.errorString"="*errors.errorString":=by decide
theorem rowES (u:TypeId) (h:Tryz.prog.typeName? 3 u=some "*errors.errorString"):u=176:=
 typeName_ptr_named (nm:="errors.errorString") (by rw [starES];kernel_rfl) (by kernel_rfl) (by decide) u (by rw [starES];exact h)
theorem laid_tail {P:Program} {x:String × DataW Unit} {l:List (String × DataW Unit)} {w:World} (h:laidMet P (x :: l) w):laidMet P l w:=by
 obtain⟨ps,⟨g0,t0,cs0,f0,p0,q0,hg0,ht0,hv0,hd0,hl,hps⟩,hn,hf⟩:=h
 subst hps
 exact⟨q0,hl,(List.nodup_append.1 hn).2.1,fun b off hm=>hf b off (List.mem_append_right _ hm)⟩
open Go.ChangeShapes Go.WideShapes Go.ChangeAt Go.RowKit
theorem gOps:Tryz.prog.globalNamed "scruple/code.operations"=some 0:=by kernel_rfl
theorem tOps:(Tryz.prog.globals[0]?).map (·.type)=some 105:=by kernel_rfl
theorem cells_int:Tryz.prog.cellsOf 3=1:=by kernel_rfl
theorem cells_str:Tryz.prog.cellsOf 9=1:=by kernel_rfl
theorem cells_inf:Tryz.prog.cellsOf 66=6:=by kernel_rfl
theorem inf_of {W:World} {fuel:Nat} {cs:List Value} {d:DataW Unit} {p:List MemPlace} (h:DataW.trod (fun _=>()) Tryz.prog W 0 (fun _=>true) false fuel 66 cs=some (d,p)) :
  cs=infV (infOf d):=by
 obtain⟨xs,m,_,hx1,hlen,hn,hf⟩:=DataW.trod_struct Tryz.underlying66 h
 simp only [Prod.mk.injEq] at hx1
 obtain⟨rfl,_⟩:=hx1
 rw [cells_inf] at hlen
 match cs,hlen,xs,hn with
 |[v0,v1,v2,v3,v4,v5],_,[x0,x1,x2,x3,x4,x5],_=>
  have f0:=hf 0 _ rfl
  have f1:=hf 1 _ rfl
  have f2:=hf 2 _ rfl
  have f3:=hf 3 _ rfl
  have f4:=hf 4 _ rfl
  have f5:=hf 5 _ rfl
  obtain⟨s,a0,b0,_⟩:=DataW.trod_string Tryz.underlying9 f0
  obtain⟨n1,a1,b1,_⟩:=DataW.trod_int Tryz.underlying3 f1
  obtain⟨n2,a2,b2,_⟩:=DataW.trod_int Tryz.underlying3 f2
  obtain⟨n3,a3,b3,_⟩:=DataW.trod_int Tryz.underlying3 f3
  obtain⟨n4,a4,b4,_⟩:=DataW.trod_int Tryz.underlying3 f4
  obtain⟨n5,a5,b5,_⟩:=DataW.trod_int Tryz.underlying3 f5
  simp [cells_int,cells_str] at a0 a1 a2 a3 a4 a5
  subst b0 b1 b2 b3 b4 b5 a0 a1 a2 a3 a4 a5
  simp [infOf,infV]
theorem tab_of {W:World} {fuel:Nat} {cs:Array Value} {t:TypeId} {p:List MemPlace} (hb:W.heap[0]?=some (.cells cs t (0,0))) (h:DataW.trod (fun _=>()) Tryz.prog W 0 (fun _=>true) false fuel 105 cs.toList=some (Rows.laid_scruple_code_operations,p)):Tab W:=by
 obtain⟨xs,m,_,hx1,hlen,hn,hel⟩:=DataW.trod_array Tryz.underlying105 h
 simp only [Prod.mk.injEq] at hx1
 have e:OPS=xs.map fun x=>infOf x.1:=by
  unfold OPS
  rw [hx1.1]
  simp
 refine⟨(Array.getElem?_eq_some_iff.1 hb).1,fun k x hx j v hv=>?_⟩
 have hk:k<42:=by have:=(List.getElem?_eq_some_iff.1 hx).1;rw [OPS_len] at this;exact this
 have hk':k<xs.length:=by omega
 have h1:=hel k hk
 rw [List.getElem?_eq_getElem hk'] at h1
 have h2:=inf_of h1
 have e2:infOf xs[k].1=x:=by
  rw [e] at hx
  simpa [hk'] using hx
 have h3:=h2.trans (show infV (infOf (xs.get ⟨k,hk'⟩).1)=infV x by rw [←e2];rfl)
 rw [cells_inf] at h3
 rw [cell_of_row W 0 _ cs t (0,0) hb]
 have hj:j<6:=(List.getElem?_eq_some_iff.1 hv).1
 rw [←h3,List.getElem?_take_of_lt hj,List.getElem?_drop] at hv
 simpa using hv
def seatLaid1:List (String × DataW Unit):=[("scruple/code.operations",Rows.laid_scruple_code_operations)]
theorem of_laid1 {W:World} (h:laidMetH Tryz.prog seatLaid1 W):Tab W:=by
 rw [MakeChecks.laidMetH_plain _ _ _ (by kernel_rfl)] at h
 obtain⟨ps,⟨g0,t0,cs0,f0,p0,q0,hg0,ht0,hv0,hd0,_,hps⟩,_,hfz⟩:=h
 obtain rfl:=Option.some.inj (gOps.symm.trans hg0)
 obtain rfl:=Option.some.inj (tOps.symm.trans ht0)
 have z0:0<cs0.size:=by
  have:=(DataW.trod_array Tryz.underlying105 hd0)
  obtain⟨_,_,_,_,hl,_,_⟩:=this
  rw [show Tryz.prog.cellsOf 105=252 by kernel_rfl] at hl
  simp at hl
  omega
 obtain⟨⟨c,t,hc⟩,_⟩:=hfz 0 0 (by rw [hps];exact List.mem_append_left _ (List.mem_append_left _ (MemPlace.mem_row.2 ⟨0,z0,rfl⟩)))
 have hv:some cs0=some c:=by rw [←hv0];unfold World.var?;rw [gOps];simp [hc]
 cases hv
 exact tab_of hc hd0
open Go.ChangeShapes Go.WideShapes Go.ChangeAt Go.RowKit
def seatLaid6:List (String × DataW Unit):=[("math/bits.deBruijn32tab",Rows.laid_math_bits_deBruijn32tab),("math/bits.deBruijn64tab",Rows.laid_math_bits_deBruijn64tab),("internal/strconv.uint64pow10",Rows.laid_internal_strconv_uint64pow10),("strconv.ErrRange",Rows.laid_strconv_ErrRange),("strconv.ErrSyntax",Rows.laid_strconv_ErrSyntax),("scruple/code.operations",Rows.laid_scruple_code_operations)]
theorem of_laid6 {W:World} (h:laidMetH Tryz.prog seatLaid6 W):(Ev W∧5<W.heap.size)∧Tab W:=by
 rw [MakeChecks.laidMetH_plain _ _ _ (by kernel_rfl)] at h
 have h1:=laid_tail h
 have h2:=laid_tail h1
 have h3:=laid_tail h2
 have h4:=laid_tail h3
 have h5:=laid_tail h4
 refine⟨?_,of_laid1 (by rw [MakeChecks.laidMetH_plain _ _ _ (by kernel_rfl)];exact h5)⟩
 obtain⟨ar,sr,hvr,-,-,-⟩:=laid_sentinel h3 gRng tRng Tryz.underlying127 rowES Tryz.underlying176 Tryz.underlying178 rfl rfl Tryz.underlying9 cellsES cellsSt
 obtain⟨asy,ssy,hvs,-,-,-⟩:=laid_sentinel h4 gSyn tSyn Tryz.underlying127 rowES Tryz.underlying176 Tryz.underlying178 rfl rfl Tryz.underlying9 cellsES cellsSt
 obtain⟨ps,⟨g2,t2,cs2,f2,p2,q2,hg2,ht2,hv2,hd2,_,hq2⟩,_,_⟩:=h2
 obtain⟨ps1,⟨g1,t1,cs1,f1,p1,q1,hg1,ht1,hv1,hd1,_,hq1⟩,_,_⟩:=h1
 obtain rfl:=Option.some.inj (gPow.symm.trans hg2)
 obtain rfl:=Option.some.inj (tPow.symm.trans ht2)
 rw [tab_pow] at hd2
 have e2:=Lib.cells_of_tab Tryz.underlying172 Tryz.underlying151 (by kernel_rfl) (by kernel_rfl) hd2
 refine⟨⟨?_,⟨_,by have h0:=World.var?_cell gSyn hvs 0;simpa using h0,Or.inr ⟨_,_,rfl⟩⟩,⟨_,by have h0:=World.var?_cell gRng hvr 0;simpa using h0,Or.inr ⟨_,_,rfl⟩⟩⟩,?_⟩
 ·unfold Lib.TabIs
  rw [hv2,←e2]
 ·rcases Nat.lt_or_ge 5 W.heap.size with h|h
  ·exact h
  ·unfold World.var? at hv1
   rw [gBits] at hv1
   simp only [Option.bind_some] at hv1
   rw [Array.getElem?_eq_none (show W.heap.size≤6 by omega)] at hv1
   cases hv1
theorem door_met6 (os:Os) (args:Array Value):laidMetH Tryz.prog seatLaid6 ((World.doorLaid Tryz.prog 400 os).forCall (fun _ _=>0) ⟨#[],args,[]⟩).memory:=
 laidMetH_of_parts3 (fuel:=8) (laidMet_of_run' 8 (by kernel_rfl) (by kernel_rfl)) (by kernel_rfl) (by kernel_rfl)
end Go.Proofs.YtjdpaihhhjdgmaaGreatDoor
