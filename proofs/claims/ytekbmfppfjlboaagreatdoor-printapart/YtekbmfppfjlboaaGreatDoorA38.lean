/-
  Layer 18 (print): statements are written, kind by kind; conditions: the nodes lie in memory.
-/
import Derived.Test.YtekbmfppfjlboaaGreatDoorA37
set_option linter.unusedVariables false
set_option linter.unusedSimpArgs false
namespace Go.Proofs.YtekbmfppfjlboaaGreatDoor
open Go.RowKit
set_option linter.unusedVariables false
set_option linter.unusedSimpArgs false
set_option maxRecDepth 100000 in
set_option maxHeartbeats 4000000 in
theorem st10_any (B0:Nat) (d:Int) (v:Vl) (ks:List Tn) (vk vn p:Int) (t vs:ByteArray) (al ak a:Option Addr) (ll cl lk ck n cc:Nat) (f:Bool) (w:World) (hB:B0≤w.heap.size) (hr:RowN w B0 ks a cc) (hn:ks.length=n) (hG0:0<B0) (hP:PowAt w) :
  Calls Tryz.prog 100 #[.agg #[.int .i64 10,.string t,.int .i64 vk,.int .i64 vn,.string vs,.slice al ll cl,.slice ak lk ck,.bool f,.slice a n cc,.int .i64 p],.int .i64 d] w fun e w'=>∃t',e=.returned t'∧Txt B0 w' t' (([98,114,101,97,107,59]:List UInt8))∧Below w.heap.size w w':=by
 obtain⟨w1,hw1⟩:∃w1,w.alloc (.cells #[.int .i64 10,.string t,.int .i64 vk,.int .i64 vn,.string vs,.slice al ll cl,.slice ak lk ck,.bool f,.slice a n cc,.int .i64 p] 28)=w1:=⟨_,rfl⟩
 obtain⟨G,hG⟩:∃G,w.heap.size=G:=⟨_,rfl⟩
 have A1:w1.heap[G]?=some (.cells #[.int .i64 10,.string t,.int .i64 vk,.int .i64 vn,.string vs,.slice al ll cl,.slice ak lk ck,.bool f,.slice a n cc,.int .i64 p] 28 (0,0)):=by rw [←hw1,←hG];exact heap_alloc_new _ _
 have X1:Below G w w1:=by rw [←hw1,←hG];exact(Below.refl _ _).alloc (Nat.le_refl _) _
 have hBG:B0≤G:=by rw [←hG];exact hB
 have HM:Hid (∀u,Below w1.heap.size w1 u→RowN u B0 ks a cc∧PowAt u∧Below G w u∧B0≤u.heap.size):=hide (fun u h=>by
  have h2:=X1.trans (h.mono (Nat.le_of_lt (lt_of_row A1)))
  exact⟨hr.later (h2.mono hBG),hP.later h2 (by omega),h2,Nat.le_trans hBG (by rw [←hG];exact h2.size)⟩)
 have HF:Hid (∀u,Below w1.heap.size w1 u→u.cell? ⟨G,0,none⟩=some (.int .i64 10)∧u.cell? ⟨G,1,none⟩=some (.string t)∧u.cell? ⟨G,2,none⟩=some (.int .i64 vk)∧u.cell? ⟨G,3,none⟩=some (.int .i64 vn)∧u.cell? ⟨G,4,none⟩=some (.string vs)∧u.cell? ⟨G,5,none⟩=some (.slice al ll cl)∧u.cell? ⟨G,6,none⟩=some (.slice ak lk ck)∧u.cell? ⟨G,7,none⟩=some (.bool f)∧u.cell? ⟨G,8,none⟩=some (.slice a n cc)∧u.cell? ⟨G,9,none⟩=some (.int .i64 p)):=hide (fun u hu=>row_ten (Below.cellsAt hu A1))
 have HB:=hide (show B0≤w1.heap.size from Nat.le_trans hBG (Nat.le_of_lt (lt_of_row A1)))
 have HN:=hide (And.intro hn hG0)
 obtain⟨R,hR⟩:∃R,([98,114,101,97,107,59]:List UInt8)=R:=⟨_,rfl⟩
 rw [hR]
 have HR:=hide hR
 have HW:=hide hw1
 have CW:=hide (txw_any B0 ⟨#[98,114,101,97,107,59]⟩ w1)
 clear A1 X1 hw1 hBG hB hr hn hG0 hP hR
 go_enter Tryz.func100,Tryz.ntmps100
 go_upto_region 1 with fail
 rw [unhide HW]
 try rw [hG]
 clear HW
 obtain⟨x0,x1,x2,x3,x4,x5,x6,x7,x8,x9⟩:=unhide HF w1 (Below.refl _ _)
 go_wp2_with fail
 refine(unhide CW).mono ?_
 rintro e w3 ⟨t3,rfl,h3,b3⟩
 have H3:=hide (And.intro h3 b3)
 obtain⟨F3,p3,rfl,-,-⟩:=h3
 clear b3 CW x0 x1 x2 x3 x4 x5 x6 x7 x8 x9
 go_wp2_with fail
 go_ret
 have hb:=((unhide HM) w3 (unhide H3).2).2.2.1
 refine⟨_,rfl,?_,by first|exact hb|(rw [hG];exact hb)⟩
 have h1:=(unhide H3).1
 rw [←unhide HR]
 exact h1
set_option maxRecDepth 100000 in
set_option maxHeartbeats 4000000 in
theorem st11_any (B0:Nat) (d:Int) (v:Vl) (ks:List Tn) (vk vn p:Int) (t vs:ByteArray) (al ak a:Option Addr) (ll cl lk ck n cc:Nat) (f:Bool) (w:World) (hB:B0≤w.heap.size) (hr:RowN w B0 ks a cc) (hn:ks.length=n) (hG0:0<B0) (hP:PowAt w) :
  Calls Tryz.prog 100 #[.agg #[.int .i64 11,.string t,.int .i64 vk,.int .i64 vn,.string vs,.slice al ll cl,.slice ak lk ck,.bool f,.slice a n cc,.int .i64 p],.int .i64 d] w fun e w'=>∃t',e=.returned t'∧Txt B0 w' t' (([99,111,110,116,105,110,117,101,59]:List UInt8))∧Below w.heap.size w w':=by
 obtain⟨w1,hw1⟩:∃w1,w.alloc (.cells #[.int .i64 11,.string t,.int .i64 vk,.int .i64 vn,.string vs,.slice al ll cl,.slice ak lk ck,.bool f,.slice a n cc,.int .i64 p] 28)=w1:=⟨_,rfl⟩
 obtain⟨G,hG⟩:∃G,w.heap.size=G:=⟨_,rfl⟩
 have A1:w1.heap[G]?=some (.cells #[.int .i64 11,.string t,.int .i64 vk,.int .i64 vn,.string vs,.slice al ll cl,.slice ak lk ck,.bool f,.slice a n cc,.int .i64 p] 28 (0,0)):=by rw [←hw1,←hG];exact heap_alloc_new _ _
 have X1:Below G w w1:=by rw [←hw1,←hG];exact(Below.refl _ _).alloc (Nat.le_refl _) _
 have hBG:B0≤G:=by rw [←hG];exact hB
 have HM:Hid (∀u,Below w1.heap.size w1 u→RowN u B0 ks a cc∧PowAt u∧Below G w u∧B0≤u.heap.size):=hide (fun u h=>by
  have h2:=X1.trans (h.mono (Nat.le_of_lt (lt_of_row A1)))
  exact⟨hr.later (h2.mono hBG),hP.later h2 (by omega),h2,Nat.le_trans hBG (by rw [←hG];exact h2.size)⟩)
 have HF:Hid (∀u,Below w1.heap.size w1 u→u.cell? ⟨G,0,none⟩=some (.int .i64 11)∧u.cell? ⟨G,1,none⟩=some (.string t)∧u.cell? ⟨G,2,none⟩=some (.int .i64 vk)∧u.cell? ⟨G,3,none⟩=some (.int .i64 vn)∧u.cell? ⟨G,4,none⟩=some (.string vs)∧u.cell? ⟨G,5,none⟩=some (.slice al ll cl)∧u.cell? ⟨G,6,none⟩=some (.slice ak lk ck)∧u.cell? ⟨G,7,none⟩=some (.bool f)∧u.cell? ⟨G,8,none⟩=some (.slice a n cc)∧u.cell? ⟨G,9,none⟩=some (.int .i64 p)):=hide (fun u hu=>row_ten (Below.cellsAt hu A1))
 have HB:=hide (show B0≤w1.heap.size from Nat.le_trans hBG (Nat.le_of_lt (lt_of_row A1)))
 have HN:=hide (And.intro hn hG0)
 obtain⟨R,hR⟩:∃R,([99,111,110,116,105,110,117,101,59]:List UInt8)=R:=⟨_,rfl⟩
 rw [hR]
 have HR:=hide hR
 have HW:=hide hw1
 have CW:=hide (txw_any B0 ⟨#[99,111,110,116,105,110,117,101,59]⟩ w1)
 clear A1 X1 hw1 hBG hB hr hn hG0 hP hR
 go_enter Tryz.func100,Tryz.ntmps100
 go_upto_region 1 with fail
 rw [unhide HW]
 try rw [hG]
 clear HW
 obtain⟨x0,x1,x2,x3,x4,x5,x6,x7,x8,x9⟩:=unhide HF w1 (Below.refl _ _)
 go_wp2_with fail
 refine(unhide CW).mono ?_
 rintro e w3 ⟨t3,rfl,h3,b3⟩
 have H3:=hide (And.intro h3 b3)
 obtain⟨F3,p3,rfl,-,-⟩:=h3
 clear b3 CW x0 x1 x2 x3 x4 x5 x6 x7 x8 x9
 go_wp2_with fail
 go_ret
 have hb:=((unhide HM) w3 (unhide H3).2).2.2.1
 refine⟨_,rfl,?_,by first|exact hb|(rw [hG];exact hb)⟩
 have h1:=(unhide H3).1
 rw [←unhide HR]
 exact h1
set_option maxRecDepth 100000 in
set_option maxHeartbeats 4000000 in
theorem st9n_any (B0:Nat) (d:Int) (v:Vl) (ks:List Tn) (vk vn p:Int) (t vs:ByteArray) (al ak a:Option Addr) (ll cl lk ck n cc:Nat) (f:Bool) (w:World) (hB:B0≤w.heap.size) (hr:RowN w B0 ks a cc) (hn:ks.length=n) (hG0:0<B0) (hP:PowAt w) (h0:n=0) :
  Calls Tryz.prog 100 #[.agg #[.int .i64 9,.string t,.int .i64 vk,.int .i64 vn,.string vs,.slice al ll cl,.slice ak lk ck,.bool f,.slice a n cc,.int .i64 p],.int .i64 d] w fun e w'=>∃t',e=.returned t'∧Txt B0 w' t' (([114,101,116,117,114,110,59]:List UInt8))∧Below w.heap.size w w':=by
 obtain⟨w1,hw1⟩:∃w1,w.alloc (.cells #[.int .i64 9,.string t,.int .i64 vk,.int .i64 vn,.string vs,.slice al ll cl,.slice ak lk ck,.bool f,.slice a n cc,.int .i64 p] 28)=w1:=⟨_,rfl⟩
 obtain⟨G,hG⟩:∃G,w.heap.size=G:=⟨_,rfl⟩
 have A1:w1.heap[G]?=some (.cells #[.int .i64 9,.string t,.int .i64 vk,.int .i64 vn,.string vs,.slice al ll cl,.slice ak lk ck,.bool f,.slice a n cc,.int .i64 p] 28 (0,0)):=by rw [←hw1,←hG];exact heap_alloc_new _ _
 have X1:Below G w w1:=by rw [←hw1,←hG];exact(Below.refl _ _).alloc (Nat.le_refl _) _
 have hBG:B0≤G:=by rw [←hG];exact hB
 have HM:Hid (∀u,Below w1.heap.size w1 u→RowN u B0 ks a cc∧PowAt u∧Below G w u∧B0≤u.heap.size):=hide (fun u h=>by
  have h2:=X1.trans (h.mono (Nat.le_of_lt (lt_of_row A1)))
  exact⟨hr.later (h2.mono hBG),hP.later h2 (by omega),h2,Nat.le_trans hBG (by rw [←hG];exact h2.size)⟩)
 have HF:Hid (∀u,Below w1.heap.size w1 u→u.cell? ⟨G,0,none⟩=some (.int .i64 9)∧u.cell? ⟨G,1,none⟩=some (.string t)∧u.cell? ⟨G,2,none⟩=some (.int .i64 vk)∧u.cell? ⟨G,3,none⟩=some (.int .i64 vn)∧u.cell? ⟨G,4,none⟩=some (.string vs)∧u.cell? ⟨G,5,none⟩=some (.slice al ll cl)∧u.cell? ⟨G,6,none⟩=some (.slice ak lk ck)∧u.cell? ⟨G,7,none⟩=some (.bool f)∧u.cell? ⟨G,8,none⟩=some (.slice a n cc)∧u.cell? ⟨G,9,none⟩=some (.int .i64 p)):=hide (fun u hu=>row_ten (Below.cellsAt hu A1))
 have HB:=hide (show B0≤w1.heap.size from Nat.le_trans hBG (Nat.le_of_lt (lt_of_row A1)))
 have HN:=hide (And.intro hn hG0)
 obtain⟨R,hR⟩:∃R,([114,101,116,117,114,110,59]:List UInt8)=R:=⟨_,rfl⟩
 rw [hR]
 have HR:=hide hR
 have HW:=hide hw1
 have CW:=hide (txw_any B0 ⟨#[114,101,116,117,114,110,59]⟩ w1)
 have hn0:(n:Int)=0:=by omega
 clear h0
 clear A1 X1 hw1 hBG hB hr hn hG0 hP hR
 go_enter Tryz.func100,Tryz.ntmps100
 go_upto_region 1 with fail
 rw [unhide HW]
 try rw [hG]
 clear HW
 obtain⟨x0,x1,x2,x3,x4,x5,x6,x7,x8,x9⟩:=unhide HF w1 (Below.refl _ _)
 go_wp2_with fail
 refine(unhide CW).mono ?_
 rintro e w3 ⟨t3,rfl,h3,b3⟩
 have H3:=hide (And.intro h3 b3)
 obtain⟨F3,p3,rfl,-,-⟩:=h3
 clear b3 CW x0 x1 x2 x3 x4 x5 x6 x7 x8 x9
 go_wp2_with fail
 go_ret
 have hb:=((unhide HM) w3 (unhide H3).2).2.2.1
 refine⟨_,rfl,?_,by first|exact hb|(rw [hG];exact hb)⟩
 have h1:=(unhide H3).1
 rw [←unhide HR]
 exact h1
set_option maxRecDepth 100000 in
set_option maxHeartbeats 4000000 in
theorem st9_any (B0:Nat) (d:Int) (v:Vl) (ks:List Tn) (vk vn p:Int) (t vs:ByteArray) (al ak:Option Addr) (ll cl lk ck n cc:Nat) (f:Bool) (b:Addr) (w:World) (hB:B0≤w.heap.size) (hr:RowN w B0 ks (some b) cc) (hn:ks.length=n) (hG0:0<B0) (hP:PowAt w) (hE0:∀y,ks[0]?=some y→ExC B0 y) (h1:0<n) :
  Calls Tryz.prog 100 #[.agg #[.int .i64 9,.string t,.int .i64 vk,.int .i64 vn,.string vs,.slice al ll cl,.slice ak lk ck,.bool f,.slice (some b) n cc,.int .i64 p],.int .i64 d] w fun e w'=>∃t',e=.returned t'∧Txt B0 w' t' (([114,101,116,117,114,110,32]:List UInt8)++(((exM ks)[0]?).getD []++[59]))∧Below w.heap.size w w':=by
 obtain⟨w1,hw1⟩:∃w1,w.alloc (.cells #[.int .i64 9,.string t,.int .i64 vk,.int .i64 vn,.string vs,.slice al ll cl,.slice ak lk ck,.bool f,.slice (some b) n cc,.int .i64 p] 28)=w1:=⟨_,rfl⟩
 obtain⟨G,hG⟩:∃G,w.heap.size=G:=⟨_,rfl⟩
 have A1:w1.heap[G]?=some (.cells #[.int .i64 9,.string t,.int .i64 vk,.int .i64 vn,.string vs,.slice al ll cl,.slice ak lk ck,.bool f,.slice (some b) n cc,.int .i64 p] 28 (0,0)):=by rw [←hw1,←hG];exact heap_alloc_new _ _
 have X1:Below G w w1:=by rw [←hw1,←hG];exact(Below.refl _ _).alloc (Nat.le_refl _) _
 have hBG:B0≤G:=by rw [←hG];exact hB
 have HM:Hid (∀u,Below w1.heap.size w1 u→RowN u B0 ks (some b) cc∧PowAt u∧Below G w u∧B0≤u.heap.size):=hide (fun u h=>by
  have h2:=X1.trans (h.mono (Nat.le_of_lt (lt_of_row A1)))
  exact⟨hr.later (h2.mono hBG),hP.later h2 (by omega),h2,Nat.le_trans hBG (by rw [←hG];exact h2.size)⟩)
 have HF:Hid (∀u,Below w1.heap.size w1 u→u.cell? ⟨G,0,none⟩=some (.int .i64 9)∧u.cell? ⟨G,1,none⟩=some (.string t)∧u.cell? ⟨G,2,none⟩=some (.int .i64 vk)∧u.cell? ⟨G,3,none⟩=some (.int .i64 vn)∧u.cell? ⟨G,4,none⟩=some (.string vs)∧u.cell? ⟨G,5,none⟩=some (.slice al ll cl)∧u.cell? ⟨G,6,none⟩=some (.slice ak lk ck)∧u.cell? ⟨G,7,none⟩=some (.bool f)∧u.cell? ⟨G,8,none⟩=some (.slice (some b) n cc)∧u.cell? ⟨G,9,none⟩=some (.int .i64 p)):=hide (fun u hu=>row_ten (Below.cellsAt hu A1))
 have HB:=hide (show B0≤w1.heap.size from Nat.le_trans hBG (Nat.le_of_lt (lt_of_row A1)))
 have HN:=hide (And.intro hn hG0)
 obtain⟨R,hR⟩:∃R,([114,101,116,117,114,110,32]:List UInt8)++(((exM ks)[0]?).getD []++[59])=R:=⟨_,rfl⟩
 rw [hR]
 have HR:=hide hR
 have HW:=hide hw1
 have CW:=hide (ended_any B0 ⟨#[114,101,116,117,114,110,32]⟩ v ks 9 vk vn p t vs al ak ll cl lk ck n cc f b w1 (Nat.le_trans hBG (Nat.le_of_lt (lt_of_row A1))) (hr.later (X1.mono hBG)) hn hG0 (hP.later X1 (by omega)) hE0 h1)
 have hn0:¬(n:Int)=0:=by omega
 clear hE0 h1
 clear A1 X1 hw1 hBG hB hr hn hG0 hP hR
 go_enter Tryz.func100,Tryz.ntmps100
 go_upto_region 1 with fail
 rw [unhide HW]
 try rw [hG]
 clear HW
 obtain⟨x0,x1,x2,x3,x4,x5,x6,x7,x8,x9⟩:=unhide HF w1 (Below.refl _ _)
 go_wp2_with fail
 refine(unhide CW).mono ?_
 rintro e w3 ⟨t3,rfl,h3,b3⟩
 have H3:=hide (And.intro h3 b3)
 obtain⟨F3,p3,rfl,-,-⟩:=h3
 clear b3 CW x0 x1 x2 x3 x4 x5 x6 x7 x8 x9
 go_wp2_with fail
 go_ret
 have hb:=((unhide HM) w3 (unhide H3).2).2.2.1
 refine⟨_,rfl,?_,by first|exact hb|(rw [hG];exact hb)⟩
 have h1:=(unhide H3).1
 rw [←unhide HR]
 simpa using h1
set_option maxRecDepth 100000 in
set_option maxHeartbeats 4000000 in
theorem st12_any (B0:Nat) (d:Int) (v:Vl) (ks:List Tn) (vk vn p:Int) (t vs:ByteArray) (al ak:Option Addr) (ll cl lk ck n cc:Nat) (f:Bool) (b:Addr) (w:World) (hB:B0≤w.heap.size) (hr:RowN w B0 ks (some b) cc) (hn:ks.length=n) (hG0:0<B0) (hP:PowAt w) (hE0:∀y,ks[0]?=some y→ExC B0 y) (h1:0<n) :
  Calls Tryz.prog 100 #[.agg #[.int .i64 12,.string t,.int .i64 vk,.int .i64 vn,.string vs,.slice al ll cl,.slice ak lk ck,.bool f,.slice (some b) n cc,.int .i64 p],.int .i64 d] w fun e w'=>∃t',e=.returned t'∧Txt B0 w' t' ((((exM ks)[0]?).getD []++[59]))∧Below w.heap.size w w':=by
 obtain⟨w1,hw1⟩:∃w1,w.alloc (.cells #[.int .i64 12,.string t,.int .i64 vk,.int .i64 vn,.string vs,.slice al ll cl,.slice ak lk ck,.bool f,.slice (some b) n cc,.int .i64 p] 28)=w1:=⟨_,rfl⟩
 obtain⟨G,hG⟩:∃G,w.heap.size=G:=⟨_,rfl⟩
 have A1:w1.heap[G]?=some (.cells #[.int .i64 12,.string t,.int .i64 vk,.int .i64 vn,.string vs,.slice al ll cl,.slice ak lk ck,.bool f,.slice (some b) n cc,.int .i64 p] 28 (0,0)):=by rw [←hw1,←hG];exact heap_alloc_new _ _
 have X1:Below G w w1:=by rw [←hw1,←hG];exact(Below.refl _ _).alloc (Nat.le_refl _) _
 have hBG:B0≤G:=by rw [←hG];exact hB
 have HM:Hid (∀u,Below w1.heap.size w1 u→RowN u B0 ks (some b) cc∧PowAt u∧Below G w u∧B0≤u.heap.size):=hide (fun u h=>by
  have h2:=X1.trans (h.mono (Nat.le_of_lt (lt_of_row A1)))
  exact⟨hr.later (h2.mono hBG),hP.later h2 (by omega),h2,Nat.le_trans hBG (by rw [←hG];exact h2.size)⟩)
 have HF:Hid (∀u,Below w1.heap.size w1 u→u.cell? ⟨G,0,none⟩=some (.int .i64 12)∧u.cell? ⟨G,1,none⟩=some (.string t)∧u.cell? ⟨G,2,none⟩=some (.int .i64 vk)∧u.cell? ⟨G,3,none⟩=some (.int .i64 vn)∧u.cell? ⟨G,4,none⟩=some (.string vs)∧u.cell? ⟨G,5,none⟩=some (.slice al ll cl)∧u.cell? ⟨G,6,none⟩=some (.slice ak lk ck)∧u.cell? ⟨G,7,none⟩=some (.bool f)∧u.cell? ⟨G,8,none⟩=some (.slice (some b) n cc)∧u.cell? ⟨G,9,none⟩=some (.int .i64 p)):=hide (fun u hu=>row_ten (Below.cellsAt hu A1))
 have HB:=hide (show B0≤w1.heap.size from Nat.le_trans hBG (Nat.le_of_lt (lt_of_row A1)))
 have HN:=hide (And.intro hn hG0)
 obtain⟨R,hR⟩:∃R,(((exM ks)[0]?).getD []++[59])=R:=⟨_,rfl⟩
 rw [hR]
 have HR:=hide hR
 have HW:=hide hw1
 have CW:=hide (ended_any B0 ⟨#[]⟩ v ks 12 vk vn p t vs al ak ll cl lk ck n cc f b w1 (Nat.le_trans hBG (Nat.le_of_lt (lt_of_row A1))) (hr.later (X1.mono hBG)) hn hG0 (hP.later X1 (by omega)) hE0 h1)
 clear hE0 h1
 clear A1 X1 hw1 hBG hB hr hn hG0 hP hR
 go_enter Tryz.func100,Tryz.ntmps100
 go_upto_region 1 with fail
 rw [unhide HW]
 try rw [hG]
 clear HW
 obtain⟨x0,x1,x2,x3,x4,x5,x6,x7,x8,x9⟩:=unhide HF w1 (Below.refl _ _)
 go_wp2_with fail
 refine(unhide CW).mono ?_
 rintro e w3 ⟨t3,rfl,h3,b3⟩
 have H3:=hide (And.intro h3 b3)
 obtain⟨F3,p3,rfl,-,-⟩:=h3
 clear b3 CW x0 x1 x2 x3 x4 x5 x6 x7 x8 x9
 go_wp2_with fail
 go_ret
 have hb:=((unhide HM) w3 (unhide H3).2).2.2.1
 refine⟨_,rfl,?_,by first|exact hb|(rw [hG];exact hb)⟩
 have h1:=(unhide H3).1
 rw [←unhide HR]
 simpa using h1
set_option maxRecDepth 100000 in
set_option maxHeartbeats 4000000 in
theorem st6_any (B0:Nat) (d:Int) (v:Vl) (ks:List Tn) (vk vn p:Int) (t vs:ByteArray) (al ak:Option Addr) (ll cl lk ck n cc:Nat) (f:Bool) (b:Addr) (w:World) (hB:B0≤w.heap.size) (hr:RowN w B0 ks (some b) cc) (hn:ks.length=n) (hG0:0<B0) (hP:PowAt w) (hE0:∀y,ks[0]?=some y→ExC B0 y) (h1:0<n) (hsz:t.size≤1000) :
  Calls Tryz.prog 100 #[.agg #[.int .i64 6,.string t,.int .i64 vk,.int .i64 vn,.string vs,.slice al ll cl,.slice ak lk ck,.bool f,.slice (some b) n cc,.int .i64 p],.int .i64 d] w fun e w'=>∃t',e=.returned t'∧Txt B0 w' t' (t.data.toList++(32 :: 61 :: 32 :: (((exM ks)[0]?).getD []++[59])))∧Below w.heap.size w w':=by
 obtain⟨w1,hw1⟩:∃w1,w.alloc (.cells #[.int .i64 6,.string t,.int .i64 vk,.int .i64 vn,.string vs,.slice al ll cl,.slice ak lk ck,.bool f,.slice (some b) n cc,.int .i64 p] 28)=w1:=⟨_,rfl⟩
 obtain⟨G,hG⟩:∃G,w.heap.size=G:=⟨_,rfl⟩
 have A1:w1.heap[G]?=some (.cells #[.int .i64 6,.string t,.int .i64 vk,.int .i64 vn,.string vs,.slice al ll cl,.slice ak lk ck,.bool f,.slice (some b) n cc,.int .i64 p] 28 (0,0)):=by rw [←hw1,←hG];exact heap_alloc_new _ _
 have X1:Below G w w1:=by rw [←hw1,←hG];exact(Below.refl _ _).alloc (Nat.le_refl _) _
 have hBG:B0≤G:=by rw [←hG];exact hB
 have HM:Hid (∀u,Below w1.heap.size w1 u→RowN u B0 ks (some b) cc∧PowAt u∧Below G w u∧B0≤u.heap.size):=hide (fun u h=>by
  have h2:=X1.trans (h.mono (Nat.le_of_lt (lt_of_row A1)))
  exact⟨hr.later (h2.mono hBG),hP.later h2 (by omega),h2,Nat.le_trans hBG (by rw [←hG];exact h2.size)⟩)
 have HF:Hid (∀u,Below w1.heap.size w1 u→u.cell? ⟨G,0,none⟩=some (.int .i64 6)∧u.cell? ⟨G,1,none⟩=some (.string t)∧u.cell? ⟨G,2,none⟩=some (.int .i64 vk)∧u.cell? ⟨G,3,none⟩=some (.int .i64 vn)∧u.cell? ⟨G,4,none⟩=some (.string vs)∧u.cell? ⟨G,5,none⟩=some (.slice al ll cl)∧u.cell? ⟨G,6,none⟩=some (.slice ak lk ck)∧u.cell? ⟨G,7,none⟩=some (.bool f)∧u.cell? ⟨G,8,none⟩=some (.slice (some b) n cc)∧u.cell? ⟨G,9,none⟩=some (.int .i64 p)):=hide (fun u hu=>row_ten (Below.cellsAt hu A1))
 have HB:=hide (show B0≤w1.heap.size from Nat.le_trans hBG (Nat.le_of_lt (lt_of_row A1)))
 have HN:=hide (And.intro hn hG0)
 obtain⟨R,hR⟩:∃R,t.data.toList++(32 :: 61 :: 32 :: (((exM ks)[0]?).getD []++[59]))=R:=⟨_,rfl⟩
 rw [hR]
 have HR:=hide hR
 have HW:=hide hw1
 have CW:=hide (ended_any B0 (t++⟨#[32,61,32]⟩) v ks 6 vk vn p t vs al ak ll cl lk ck n cc f b w1 (Nat.le_trans hBG (Nat.le_of_lt (lt_of_row A1))) (hr.later (X1.mono hBG)) hn hG0 (hP.later X1 (by omega)) hE0 h1)
 have hz1:¬9223372036854775807<t.size+3:=by omega
 clear hE0 h1 hsz
 clear A1 X1 hw1 hBG hB hr hn hG0 hP hR
 go_enter Tryz.func100,Tryz.ntmps100
 go_upto_region 1 with fail
 rw [unhide HW]
 try rw [hG]
 clear HW
 obtain⟨x0,x1,x2,x3,x4,x5,x6,x7,x8,x9⟩:=unhide HF w1 (Below.refl _ _)
 go_wp2_with fail
 refine(unhide CW).mono ?_
 rintro e w3 ⟨t3,rfl,h3,b3⟩
 have H3:=hide (And.intro h3 b3)
 obtain⟨F3,p3,rfl,-,-⟩:=h3
 clear b3 CW x0 x1 x2 x3 x4 x5 x6 x7 x8 x9
 go_wp2_with fail
 go_ret
 have hb:=((unhide HM) w3 (unhide H3).2).2.2.1
 refine⟨_,rfl,?_,by first|exact hb|(rw [hG];exact hb)⟩
 have h1:=(unhide H3).1
 rw [←unhide HR]
 simpa using h1
set_option maxRecDepth 100000 in
set_option maxHeartbeats 4000000 in
theorem st5_any (B0:Nat) (d:Int) (v:Vl) (ks:List Tn) (vk vn p:Int) (t vs:ByteArray) (al ak:Option Addr) (ll cl lk ck n cc:Nat) (f:Bool) (b:Addr) (w:World) (hB:B0≤w.heap.size) (hr:RowN w B0 ks (some b) cc) (hn:ks.length=n) (hG0:0<B0) (hP:PowAt w) (hE0:∀y,ks[0]?=some y→ExC B0 y) (h1:0<n) (hsz:t.size≤1000) :
  Calls Tryz.prog 100 #[.agg #[.int .i64 5,.string t,.int .i64 vk,.int .i64 vn,.string vs,.slice al ll cl,.slice ak lk ck,.bool f,.slice (some b) n cc,.int .i64 p],.int .i64 d] w fun e w'=>∃t',e=.returned t'∧Txt B0 w' t' (108 :: 101 :: 116 :: 32 :: (t.data.toList++(32 :: 61 :: 32 :: (((exM ks)[0]?).getD []++[59]))))∧Below w.heap.size w w':=by
 obtain⟨w1,hw1⟩:∃w1,w.alloc (.cells #[.int .i64 5,.string t,.int .i64 vk,.int .i64 vn,.string vs,.slice al ll cl,.slice ak lk ck,.bool f,.slice (some b) n cc,.int .i64 p] 28)=w1:=⟨_,rfl⟩
 obtain⟨G,hG⟩:∃G,w.heap.size=G:=⟨_,rfl⟩
 have A1:w1.heap[G]?=some (.cells #[.int .i64 5,.string t,.int .i64 vk,.int .i64 vn,.string vs,.slice al ll cl,.slice ak lk ck,.bool f,.slice (some b) n cc,.int .i64 p] 28 (0,0)):=by rw [←hw1,←hG];exact heap_alloc_new _ _
 have X1:Below G w w1:=by rw [←hw1,←hG];exact(Below.refl _ _).alloc (Nat.le_refl _) _
 have hBG:B0≤G:=by rw [←hG];exact hB
 have HM:Hid (∀u,Below w1.heap.size w1 u→RowN u B0 ks (some b) cc∧PowAt u∧Below G w u∧B0≤u.heap.size):=hide (fun u h=>by
  have h2:=X1.trans (h.mono (Nat.le_of_lt (lt_of_row A1)))
  exact⟨hr.later (h2.mono hBG),hP.later h2 (by omega),h2,Nat.le_trans hBG (by rw [←hG];exact h2.size)⟩)
 have HF:Hid (∀u,Below w1.heap.size w1 u→u.cell? ⟨G,0,none⟩=some (.int .i64 5)∧u.cell? ⟨G,1,none⟩=some (.string t)∧u.cell? ⟨G,2,none⟩=some (.int .i64 vk)∧u.cell? ⟨G,3,none⟩=some (.int .i64 vn)∧u.cell? ⟨G,4,none⟩=some (.string vs)∧u.cell? ⟨G,5,none⟩=some (.slice al ll cl)∧u.cell? ⟨G,6,none⟩=some (.slice ak lk ck)∧u.cell? ⟨G,7,none⟩=some (.bool f)∧u.cell? ⟨G,8,none⟩=some (.slice (some b) n cc)∧u.cell? ⟨G,9,none⟩=some (.int .i64 p)):=hide (fun u hu=>row_ten (Below.cellsAt hu A1))
 have HB:=hide (show B0≤w1.heap.size from Nat.le_trans hBG (Nat.le_of_lt (lt_of_row A1)))
 have HN:=hide (And.intro hn hG0)
 obtain⟨R,hR⟩:∃R,108 :: 101 :: 116 :: 32 :: (t.data.toList++(32 :: 61 :: 32 :: (((exM ks)[0]?).getD []++[59])))=R:=⟨_,rfl⟩
 rw [hR]
 have HR:=hide hR
 have HW:=hide hw1
 have CW:=hide (ended_any B0 (⟨#[108,101,116,32]⟩++t++⟨#[32,61,32]⟩) v ks 5 vk vn p t vs al ak ll cl lk ck n cc f b w1 (Nat.le_trans hBG (Nat.le_of_lt (lt_of_row A1))) (hr.later (X1.mono hBG)) hn hG0 (hP.later X1 (by omega)) hE0 h1)
 have hn0:¬(n:Int)=0:=by omega
 have hz1:¬9223372036854775807<4+t.size:=by omega
 have hz2:¬9223372036854775807<4+t.size+3:=by omega
 clear hE0 h1 hsz
 clear A1 X1 hw1 hBG hB hr hn hG0 hP hR
 go_enter Tryz.func100,Tryz.ntmps100
 go_upto_region 1 with fail
 rw [unhide HW]
 try rw [hG]
 clear HW
 obtain⟨x0,x1,x2,x3,x4,x5,x6,x7,x8,x9⟩:=unhide HF w1 (Below.refl _ _)
 go_wp2_with fail
 refine(unhide CW).mono ?_
 rintro e w3 ⟨t3,rfl,h3,b3⟩
 have H3:=hide (And.intro h3 b3)
 obtain⟨F3,p3,rfl,-,-⟩:=h3
 clear b3 CW x0 x1 x2 x3 x4 x5 x6 x7 x8 x9
 go_wp2_with fail
 go_ret
 have hb:=((unhide HM) w3 (unhide H3).2).2.2.1
 refine⟨_,rfl,?_,by first|exact hb|(rw [hG];exact hb)⟩
 have h1:=(unhide H3).1
 rw [←unhide HR]
 simpa using h1
set_option maxRecDepth 100000 in
set_option maxHeartbeats 4000000 in
theorem st5n_any (B0:Nat) (d:Int) (v:Vl) (ks:List Tn) (vk vn p:Int) (t vs:ByteArray) (al ak a:Option Addr) (ll cl lk ck n cc:Nat) (f:Bool) (w:World) (hB:B0≤w.heap.size) (hr:RowN w B0 ks a cc) (hn:ks.length=n) (hG0:0<B0) (hP:PowAt w) (h0:n=0) (hsz:t.size≤1000) :
  Calls Tryz.prog 100 #[.agg #[.int .i64 5,.string t,.int .i64 vk,.int .i64 vn,.string vs,.slice al ll cl,.slice ak lk ck,.bool f,.slice a n cc,.int .i64 p],.int .i64 d] w fun e w'=>∃t',e=.returned t'∧Txt B0 w' t' (108 :: 101 :: 116 :: 32 :: (t.data.toList++[59]))∧Below w.heap.size w w':=by
 obtain⟨w1,hw1⟩:∃w1,w.alloc (.cells #[.int .i64 5,.string t,.int .i64 vk,.int .i64 vn,.string vs,.slice al ll cl,.slice ak lk ck,.bool f,.slice a n cc,.int .i64 p] 28)=w1:=⟨_,rfl⟩
 obtain⟨G,hG⟩:∃G,w.heap.size=G:=⟨_,rfl⟩
 have A1:w1.heap[G]?=some (.cells #[.int .i64 5,.string t,.int .i64 vk,.int .i64 vn,.string vs,.slice al ll cl,.slice ak lk ck,.bool f,.slice a n cc,.int .i64 p] 28 (0,0)):=by rw [←hw1,←hG];exact heap_alloc_new _ _
 have X1:Below G w w1:=by rw [←hw1,←hG];exact(Below.refl _ _).alloc (Nat.le_refl _) _
 have hBG:B0≤G:=by rw [←hG];exact hB
 have HM:Hid (∀u,Below w1.heap.size w1 u→RowN u B0 ks a cc∧PowAt u∧Below G w u∧B0≤u.heap.size):=hide (fun u h=>by
  have h2:=X1.trans (h.mono (Nat.le_of_lt (lt_of_row A1)))
  exact⟨hr.later (h2.mono hBG),hP.later h2 (by omega),h2,Nat.le_trans hBG (by rw [←hG];exact h2.size)⟩)
 have HF:Hid (∀u,Below w1.heap.size w1 u→u.cell? ⟨G,0,none⟩=some (.int .i64 5)∧u.cell? ⟨G,1,none⟩=some (.string t)∧u.cell? ⟨G,2,none⟩=some (.int .i64 vk)∧u.cell? ⟨G,3,none⟩=some (.int .i64 vn)∧u.cell? ⟨G,4,none⟩=some (.string vs)∧u.cell? ⟨G,5,none⟩=some (.slice al ll cl)∧u.cell? ⟨G,6,none⟩=some (.slice ak lk ck)∧u.cell? ⟨G,7,none⟩=some (.bool f)∧u.cell? ⟨G,8,none⟩=some (.slice a n cc)∧u.cell? ⟨G,9,none⟩=some (.int .i64 p)):=hide (fun u hu=>row_ten (Below.cellsAt hu A1))
 have HB:=hide (show B0≤w1.heap.size from Nat.le_trans hBG (Nat.le_of_lt (lt_of_row A1)))
 have HN:=hide (And.intro hn hG0)
 obtain⟨R,hR⟩:∃R,108 :: 101 :: 116 :: 32 :: (t.data.toList++[59])=R:=⟨_,rfl⟩
 rw [hR]
 have HR:=hide hR
 have HW:=hide hw1
 have CW:=hide (txw_any B0 (⟨#[108,101,116,32]⟩++t++⟨#[59]⟩) w1)
 have hn0:(n:Int)=0:=by omega
 have hz1:¬9223372036854775807<4+t.size:=by omega
 have hz2:¬9223372036854775807<4+t.size+1:=by omega
 clear h0 hsz
 clear A1 X1 hw1 hBG hB hr hn hG0 hP hR
 go_enter Tryz.func100,Tryz.ntmps100
 go_upto_region 1 with fail
 rw [unhide HW]
 try rw [hG]
 clear HW
 obtain⟨x0,x1,x2,x3,x4,x5,x6,x7,x8,x9⟩:=unhide HF w1 (Below.refl _ _)
 go_wp2_with fail
 refine(unhide CW).mono ?_
 rintro e w3 ⟨t3,rfl,h3,b3⟩
 have H3:=hide (And.intro h3 b3)
 obtain⟨F3,p3,rfl,-,-⟩:=h3
 clear b3 CW x0 x1 x2 x3 x4 x5 x6 x7 x8 x9
 go_wp2_with fail
 go_ret
 have hb:=((unhide HM) w3 (unhide H3).2).2.2.1
 refine⟨_,rfl,?_,by first|exact hb|(rw [hG];exact hb)⟩
 have h1:=(unhide H3).1
 rw [←unhide HR]
 simpa using h1
set_option maxRecDepth 100000 in
set_option maxHeartbeats 4000000 in
theorem st8_any (B0:Nat) (d:Int) (TB:Tn→List UInt8) (v:Vl) (ks:List Tn) (vk vn p:Int) (t vs:ByteArray) (al ak:Option Addr) (ll cl lk ck n cc:Nat) (f:Bool) (b:Addr) (w:World) (hB:B0≤w.heap.size) (hr:RowN w B0 ks (some b) cc) (hn:ks.length=n) (hG0:0<B0) (hP:PowAt w) (hE0:∀y,ks[0]?=some y→ExC B0 y) (hd:0≤d∧d≤1000000) (hE1:∀y,ks[1]?=some y→BlC B0 (d+1) TB y) (h1:1<n) :
  Calls Tryz.prog 100 #[.agg #[.int .i64 8,.string t,.int .i64 vk,.int .i64 vn,.string vs,.slice al ll cl,.slice ak lk ck,.bool f,.slice (some b) n cc,.int .i64 p],.int .i64 d] w fun e w'=>∃t',e=.returned t'∧Txt B0 w' t' (([119,104,105,108,101,32,40]:List UInt8)++(((exM ks)[0]?).getD []++(41 :: 32 :: ((ks[1]?).map TB).getD [])))∧Below w.heap.size w w':=by
 obtain⟨w1,hw1⟩:∃w1,w.alloc (.cells #[.int .i64 8,.string t,.int .i64 vk,.int .i64 vn,.string vs,.slice al ll cl,.slice ak lk ck,.bool f,.slice (some b) n cc,.int .i64 p] 28)=w1:=⟨_,rfl⟩
 obtain⟨G,hG⟩:∃G,w.heap.size=G:=⟨_,rfl⟩
 have A1:w1.heap[G]?=some (.cells #[.int .i64 8,.string t,.int .i64 vk,.int .i64 vn,.string vs,.slice al ll cl,.slice ak lk ck,.bool f,.slice (some b) n cc,.int .i64 p] 28 (0,0)):=by rw [←hw1,←hG];exact heap_alloc_new _ _
 have X1:Below G w w1:=by rw [←hw1,←hG];exact(Below.refl _ _).alloc (Nat.le_refl _) _
 have hBG:B0≤G:=by rw [←hG];exact hB
 have HM:Hid (∀u,Below w1.heap.size w1 u→RowN u B0 ks (some b) cc∧PowAt u∧Below G w u∧B0≤u.heap.size):=hide (fun u h=>by
  have h2:=X1.trans (h.mono (Nat.le_of_lt (lt_of_row A1)))
  exact⟨hr.later (h2.mono hBG),hP.later h2 (by omega),h2,Nat.le_trans hBG (by rw [←hG];exact h2.size)⟩)
 have HF:Hid (∀u,Below w1.heap.size w1 u→u.cell? ⟨G,0,none⟩=some (.int .i64 8)∧u.cell? ⟨G,1,none⟩=some (.string t)∧u.cell? ⟨G,2,none⟩=some (.int .i64 vk)∧u.cell? ⟨G,3,none⟩=some (.int .i64 vn)∧u.cell? ⟨G,4,none⟩=some (.string vs)∧u.cell? ⟨G,5,none⟩=some (.slice al ll cl)∧u.cell? ⟨G,6,none⟩=some (.slice ak lk ck)∧u.cell? ⟨G,7,none⟩=some (.bool f)∧u.cell? ⟨G,8,none⟩=some (.slice (some b) n cc)∧u.cell? ⟨G,9,none⟩=some (.int .i64 p)):=hide (fun u hu=>row_ten (Below.cellsAt hu A1))
 have HB:=hide (show B0≤w1.heap.size from Nat.le_trans hBG (Nat.le_of_lt (lt_of_row A1)))
 have HN:=hide (And.intro hn hG0)
 obtain⟨R,hR⟩:∃R,([119,104,105,108,101,32,40]:List UInt8)++(((exM ks)[0]?).getD []++(41 :: 32 :: ((ks[1]?).map TB).getD []))=R:=⟨_,rfl⟩
 rw [hR]
 have HR:=hide hR
 have HW:=hide hw1
 have CW:=hide (guarded_any B0 ⟨#[119,104,105,108,101,32,40]⟩ d hd TB v ks 8 vk vn p t vs al ak ll cl lk ck n cc f b w1 (Nat.le_trans hBG (Nat.le_of_lt (lt_of_row A1))) (hr.later (X1.mono hBG)) hn hG0 (hP.later X1 (by omega)) hE0 hE1 h1)
 clear hE0 h1 hE1 hd
 clear A1 X1 hw1 hBG hB hr hn hG0 hP hR
 go_enter Tryz.func100,Tryz.ntmps100
 go_upto_region 1 with fail
 rw [unhide HW]
 try rw [hG]
 clear HW
 obtain⟨x0,x1,x2,x3,x4,x5,x6,x7,x8,x9⟩:=unhide HF w1 (Below.refl _ _)
 go_wp2_with fail
 refine(unhide CW).mono ?_
 rintro e w3 ⟨t3,rfl,h3,b3⟩
 have H3:=hide (And.intro h3 b3)
 obtain⟨F3,p3,rfl,-,-⟩:=h3
 clear b3 CW x0 x1 x2 x3 x4 x5 x6 x7 x8 x9
 go_wp2_with fail
 go_ret
 have hb:=((unhide HM) w3 (unhide H3).2).2.2.1
 refine⟨_,rfl,?_,by first|exact hb|(rw [hG];exact hb)⟩
 have h1:=(unhide H3).1
 rw [←unhide HR]
 simpa using h1
end Go.Proofs.YtekbmfppfjlboaaGreatDoor
