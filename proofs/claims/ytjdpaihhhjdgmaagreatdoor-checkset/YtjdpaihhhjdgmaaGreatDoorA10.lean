/-
  Layer 19 (check): one Pair of a Fields (pairs$1), over a look that changes a scope; conditions: the nodes lie in memory, how many names there are.
-/
import Derived.Test.YtjdpaihhhjdgmaaGreatDoorA09
set_option linter.unusedVariables false
set_option linter.unusedSimpArgs false
set_option maxRecDepth 100000
set_option maxHeartbeats 8000000
namespace Go.Proofs.YtjdpaihhhjdgmaaGreatDoor
open Go.RowKit
set_option linter.unusedVariables false
set_option linter.unusedSimpArgs false
theorem ScM.map {w w':World} {lo q b n z zn:Nat} {nv sv:Value} {s:Sco} {g:List UInt8→Option Int} (h:ScM w lo q b n nv sv s) (hz:Nms w z zn g) (hn:z≠b) (hb:Besk (fun k=>k=z) w w'):ScM w' lo q b n nv sv s where
 hq:=(hb.block q (ltR h.hq) (fun e=>map_ne hz (e ▸ h.hq) rfl)).trans h.hq
 hm:=h.hm.later (hb.block b h.hm.lt (fun e=>hn e.symm))
 hnv:=own_bes hb h.hnv (fun y hy e=>own_nbq h.hnv hz (by rw [hy,e]))
 hsv:=own_bes hb h.hsv (fun y hy e=>own_nbq h.hsv hz (by rw [hy,e]))
 len:=h.len
 few:=h.few
 hlo:=⟨h.hlo.1,h.hlo.2.1,Nat.le_trans h.hlo.2.2 hb.size⟩
theorem bes_grown {w w':World} {z:Nat} (h:w.grownBy w' (some z)):Besk (fun k=>k=z) w w':=⟨h.os,h.tape,h.output,h.size,fun k hk hn=>h.block k hk (fun e=>hn (Option.some.inj e))⟩
theorem mvd_map {wA w w':World} {q b z:Nat} {nv sv nv' sv':Value} (h:Mvd wA w q b nv sv nv' sv') (hb:Besk (fun k=>k=z) w w') (hz:wA.heap.size≤z):Mvd wA w' q b nv sv nv' sv':=
 ⟨⟨hb.os.trans h.bes.os,hb.tape.trans h.bes.tape,hb.output.trans h.bes.output,Nat.le_trans h.bes.size hb.size,fun k hk hn=>(hb.block k (Nat.lt_of_lt_of_le hk h.bes.size) (fun e=>by omega)).trans (h.bes.block k hk hn)⟩,h.on,h.os⟩
theorem mvd_nms {w w':World} {lo q b n z zn:Nat} {nv sv nv' sv':Value} {s:Sco} {g:List UInt8→Option Int} (hs:ScM w lo q b n nv sv s) (h:Mvd w w' q b nv sv nv' sv') (hz:Nms w z zn g) (hn:z≠b):Nms w' z zn g:=
 hz.later (h.bes.block z hz.lt (fun hp=>by
  rcases hp with e|e|e|e
  ·exact map_ne hz (e ▸ hs.hq) rfl
  ·exact hn e
  ·exact own_nbq hs.hnv hz e.symm
  ·exact own_nbq hs.hsv hz e.symm))
theorem keepF_map {w w':World} {z zn:Nat} {g:List UInt8→Option Int} (hz:Nms w z zn g) (hb:Besk (fun k=>k=z) w w'):KeepF w w':=fun k c T _ _ _ hk=>(hb.block k (ltR hk) (fun e=>map_ne hz (e ▸ hk) rfl)).trans hk
theorem cell_kept {w u:World} (h:Below w.heap.size w u) {p:Addr} {v:Value} (hc:w.cell? p=some v):u.cell? p=some v:=by
 unfold World.cell? at hc ⊢
 by_cases hl:p.block<w.heap.size
 ·rw [h.block _ hl]
  exact hc
 ·rw [Array.getElem?_eq_none (by omega)] at hc
  simp at hc
theorem nms_fin {u:World} {z zn G:Nat} {g:List UInt8→Option Int} {c:Array Value} {T:TypeId} (hz:Nms u z zn g) (hr:u.heap[G]?=some (.cells c T (0,0))) (x y:Value):Nms ((u.setCell ⟨G,0,none⟩ x).setCell ⟨G,1,none⟩ y) z zn g:=
 hz.later (by rw [heap_setCell_other _ ⟨G,1,none⟩ z y (map_ne hz hr),heap_setCell_other _ ⟨G,0,none⟩ z x (map_ne hz hr)])
theorem pair_fin {wA w u:World} {lo q b n G:Nat} {nvA svA nv sv:Value} {s:Sco} {c:Array Value} (hs:ScM u lo q b n nv sv s) (hm:Mvd wA u q b nvA svA nv sv) (hk:KeepF w u) (hGA:wA.heap.size≤w.heap.size∧w.heap.size=G∧q<w.heap.size) (hr:u.heap[G+1]?=some (.cells c 42 (0,0))) (x y:Value):ScM ((u.setCell ⟨G+1,0,none⟩ x).setCell ⟨G+1,1,none⟩ y) lo q b n nv sv s∧Mvd wA ((u.setCell ⟨G+1,0,none⟩ x).setCell ⟨G+1,1,none⟩ y) q b nvA svA nv sv∧KeepF w ((u.setCell ⟨G+1,0,none⟩ x).setCell ⟨G+1,1,none⟩ y)∧w.heap.size≤((u.setCell ⟨G+1,0,none⟩ x).setCell ⟨G+1,1,none⟩ y).heap.size:=by
 have hP:Fp wA.heap.size u (G+1):=⟨by omega,_,_,hr⟩
 have hB:=(((Besk.refl (Fp wA.heap.size u) u).set (p:=⟨G+1,0,none⟩) (Or.inl hP) x).set (p:=⟨G+1,1,none⟩) (Or.inl hP) y)
 refine⟨hs.fp hB,hm.fp hB,fun k z T h1 h2 h3 hz=>?_,Nat.le_trans (by have:=ltR hr;omega) hB.size⟩
 have hlt:k<G:=by rw [←hGA.2.1];exact ltR hz
 rw [heap_setCell_other _ ⟨G+1,1,none⟩ k y (by show k≠G+1;omega),heap_setCell_other _ ⟨G+1,0,none⟩ k x (by show k≠G+1;omega)]
 exact hk k z T h1 h2 h3 hz
theorem pair_dup {w0 wA:World} {lo q b B0:Nat} {nv0 sv0 nvA svA:Value} {mz:Tn→Nat} {ok:Tn→Sco→Prop} {g:Tn→Sco→Ft × Sco} {F:FuncId} {Bd cap:Array Value} {k vk vn p:Int} {t vs:ByteArray} {al ak:Option Addr} {b1:Addr} {ll cl lk ck m cc:Nat} {f:Bool}{w:World} {nv sv:Value} {n hb hn hc nc:Nat} {s:Sco} {f':List UInt8→Option Int} (ht:t.size≤maxLen) (hmA:Mvd wA w q b nvA svA nv sv) (h:ScM w lo q b n nv sv s)
  (hcc:w.heap[hc]?=some (.cells #[.map (some hb)] 40 (0,0))) (hcn:w.heap[nc]?=some (.cells #[.func (.func F) Bd cap] 45 (0,0))) (hH:Nms w hb hn f') (hf1:f' t.data.toList=some 1) (hhn:hn<1099511627776) (hbb:hb≠b) (hbA:wA.heap.size≤hb) :
  Calls Tryz.prog 93 #[.agg #[.int .i64 k,.string t,.int .i64 vk,.int .i64 vn,.string vs,.slice al ll cl,.slice ak lk ck,.bool f,.slice (some b1) m cc,.int .i64 p],.pointer (some ⟨hc,0,none⟩),.pointer (some ⟨nc,0,none⟩)] w fun e w'=>e=.returned (.agg #[.int .i64 p,.int .i64 191])∧KeepF w w'∧ScM w' lo q b n nv sv s∧Mvd wA w' q b nvA svA nv sv∧w.heap.size≤w'.heap.size:=by
 obtain⟨w2,hw2,n2,r2,b2⟩:=bxs k vk vn p t vs al ak (some b1) ll cl lk ck m cc f w
 obtain⟨G,hG⟩:=eX (w.heap.size)
 have hcc2:=(b2.block hc (ltR hcc)).trans hcc
 have hcn2:=(b2.block nc (ltR hcn)).trans hcn
 have hH2:=hH.later (b2.block hb hH.lt)
 have hS2:=h.below b2
 have hM2:=hmA.trans (Mvd.of_below q b nv sv b2)
 have hK2:=KeepF.of_below b2
 rw [hG] at n2 r2
 obtain⟨w3,hput,hm3,hg3⟩:=hH2.put ht (x:=2) ⟨by omega,by omega⟩ (by unfold maxLen;omega) _ Tryz.underlying40
 have ha:=hH2.get ht _ Tryz.underlying40
 have ha3:=hm3.get ht _ Tryz.underlying40
 rw [hf1] at ha
 simp only [if_true,Option.getD_some,Option.getD_none] at ha ha3
 have B3:=bes_grown hg3
 have c0:w2.cell? ⟨hc,0,none⟩=some (.map (some hb)):=by
  rw [cell_of_row w2 hc 0 _ _ (0,0) hcc2]
  rfl
 have K3:=keepF_map hH2 B3
 have n3:=K3 G _ _ (by decide) (by decide) (by decide) n2
 have r3:=K3 (G+1) _ _ (by decide) (by decide) (by decide) r2
 have hcc3:=K3 hc _ _ (by decide) (by decide) (by decide) hcc2
 have hcn3:=K3 nc _ _ (by decide) (by decide) (by decide) hcn2
 have d0:w3.cell? ⟨hc,0,none⟩=some (.map (some hb)):=by
  rw [cell_of_row w3 hc 0 _ _ (0,0) hcc3]
  rfl
 have HS3:=hZ (hS2.map hH2 hbb B3)
 have HM3:=hZ (mvd_map hM2 B3 hbA)
 have HK3:=hZ (hK2.trans K3)
 have HN3:=hZ hm3
 have HX3:=hZ (And.intro n3 (And.intro r3 hcn3))
 have HGA:=hZ (And.intro hmA.bes.size (And.intro hG (ltR h.hq)))
 obtain⟨m0,m1,m2,m3,m4,m5,m6,m7,m8,m9⟩:=ten_at n2
 obtain⟨p0,p1,p2,p3,p4,p5,p6,p7,p8,p9⟩:=ten_at n3
 go_enter Tryz.func93,Tryz.ntmps93
 go_upto_region 1 with fail
 try rw [hw2]
 try rw [hG]
 clear hw2 b2 hG hcc hcn hH hcc2 hcn2 hH2 hS2 hM2 hK2 hf1 n2 r2 hm3 hg3 B3 K3 n3 r3 hcc3 hcn3 hmA h
 go_upto_region 3 with fail
 clear hput ha ha3 c0 d0 m0 m1 m2 m3 m4 m5 m6 m7 m8 m9
 have C:=hZ (wrg k vk vn p t vs al ak (some b1) ll cl lk ck m cc f 191 w3)
 go_wp2_with fail
 refine(uZ C).mono ?_
 rintro e w8 ⟨rfl,b8⟩
 have r8:=(b8.block _ (ltR (uZ HX3).2.1)).trans (uZ HX3).2.1
 obtain⟨k0,k1⟩:=two_at r8
 have y0:=frozen_of_row w8 (G+1) 0 _ _ r8
 have y1:=frozen_of_row w8 (G+1) 1 _ _ r8
 have HS8:=hZ ((uZ HS3).below b8)
 have HM8:=hZ ((uZ HM3).trans (Mvd.of_below q b nv sv b8))
 have HK8:=hZ ((uZ HK3).trans (KeepF.of_below b8))
 have HE:=hZ (pair_fin (uZ HS8) (uZ HM8) (uZ HK8) (uZ HGA) r8 (.int .i64 p) (.int .i64 191))
 clear b8 C HS8 HM8 HK8 HS3 HM3 HK3
 have HP2:=hZ (put2 r8 (.int .i64 p) (.int .i64 191))
 clear r8
 go_wp2_with fail
 exact rtF (p:=4) rfl rfl (uZ HP2) rfl ⟨rfl,(uZ HE).2.2.1,(uZ HE).1,(uZ HE).2.1,(uZ HE).2.2.2⟩
theorem pair_new {w0 wA:World} {lo q b B0:Nat} {nv0 sv0 nvA svA:Value} {mz:Tn→Nat} {ok:Tn→Sco→Prop} {g:Tn→Sco→Ft × Sco} {F:FuncId} {Bd cap:Array Value} {k vk vn p:Int} {t vs:ByteArray} {al ak:Option Addr} {b1:Addr} {ll cl lk ck m cc:Nat} {f:Bool}{w:World} {nv sv:Value} {n hb hn hc nc:Nat} {s:Sco} {f':List UInt8→Option Int} (ht:t.size≤maxLen) (hmA:Mvd wA w q b nvA svA nv sv) (h:ScM w lo q b n nv sv s)
  (hcc:w.heap[hc]?=some (.cells #[.map (some hb)] 40 (0,0))) (hcn:w.heap[nc]?=some (.cells #[.func (.func F) Bd cap] 45 (0,0))) (hH:Nms w hb hn f') (hf1:f' t.data.toList=none) (hhn:hn<1099511627776) (hbb:hb≠b) (hbA:wA.heap.size≤hb)
  (hL:LookS w0 lo q b B0 nv0 sv0 mz ok g F Bd cap) (hf:∀(x:Array Value) (u:World),Sem.run Tryz.prog (callFunc F x) u=.ok (.enter F x) u) {ns:List Tn} {z:Tn} (hr:RowN w B0 ns (some b1) cc) (hn0:ns.length=m) (h0:ns[0]?=some z) (hm0:Mvd w0 wA q b nv0 sv0 nvA svA) (hk:n+mz z≤1099511627776) (hB:B0≤lo) (hloA:lo≤wA.heap.size) (hok:ok z s) :
  Calls Tryz.prog 93 #[.agg #[.int .i64 k,.string t,.int .i64 vk,.int .i64 vn,.string vs,.slice al ll cl,.slice ak lk ck,.bool f,.slice (some b1) m cc,.int .i64 p],.pointer (some ⟨hc,0,none⟩),.pointer (some ⟨nc,0,none⟩)] w fun e w'=>e=.returned (fltV (g z s).1)∧KeepF w w'∧∃nv' sv' n',ScM w' lo q b n' nv' sv' (g z s).2∧Mvd wA w' q b nvA svA nv' sv'∧n'≤n+mz z∧Nms w' hb (hn+1) (fun x=>if x=t.data.toList then some 1 else f' x)∧w.heap.size≤w'.heap.size:=by
 obtain⟨w2,hw2,n2,r2,b2⟩:=bxs k vk vn p t vs al ak (some b1) ll cl lk ck m cc f w
 obtain⟨G,hG⟩:=eX (w.heap.size)
 have hcc2:=(b2.block hc (ltR hcc)).trans hcc
 have hcn2:=(b2.block nc (ltR hcn)).trans hcn
 have hH2:=hH.later (b2.block hb hH.lt)
 have hS2:=h.below b2
 have hM2:=hmA.trans (Mvd.of_below q b nv sv b2)
 have hK2:=KeepF.of_below b2
 rw [hG] at n2 r2
 obtain⟨w3,hput,hm3,hg3⟩:=hH2.put ht (x:=1) ⟨by omega,by omega⟩ (by unfold maxLen;omega) _ Tryz.underlying40
 have ha:=hH2.get ht _ Tryz.underlying40
 have ha3:=hm3.get ht _ Tryz.underlying40
 rw [hf1] at ha
 simp only [if_true,Option.getD_some,Option.getD_none] at ha ha3
 have B3:=bes_grown hg3
 have c0:w2.cell? ⟨hc,0,none⟩=some (.map (some hb)):=by
  rw [cell_of_row w2 hc 0 _ _ (0,0) hcc2]
  rfl
 have K3:=keepF_map hH2 B3
 have n3:=K3 G _ _ (by decide) (by decide) (by decide) n2
 have r3:=K3 (G+1) _ _ (by decide) (by decide) (by decide) r2
 have hcc3:=K3 hc _ _ (by decide) (by decide) (by decide) hcc2
 have hcn3:=K3 nc _ _ (by decide) (by decide) (by decide) hcn2
 have d0:w3.cell? ⟨hc,0,none⟩=some (.map (some hb)):=by
  rw [cell_of_row w3 hc 0 _ _ (0,0) hcc3]
  rfl
 have HS3:=hZ (hS2.map hH2 hbb B3)
 have HM3:=hZ (mvd_map hM2 B3 hbA)
 have HK3:=hZ (hK2.trans K3)
 have HN3:=hZ hm3
 have HX3:=hZ (And.intro n3 (And.intro r3 hcn3))
 have HGA:=hZ (And.intro hmA.bes.size (And.intro hG (ltR h.hq)))
 obtain⟨m0,m1,m2,m3,m4,m5,m6,m7,m8,m9⟩:=ten_at n2
 obtain⟨p0,p1,p2,p3,p4,p5,p6,p7,p8,p9⟩:=ten_at n3
 have hnb:m≤140737488351232:=by rw [←hn0];exact hr.len
 have hmc:m≤cc:=by obtain⟨_,_,_,hc',_⟩:=hr.at h0;omega
 have hi0:(0:Int)<(m:Int):=by
  have:=(List.getElem?_eq_some_iff.1 h0).1
  omega
 have hBS:B0≤w3.heap.size:=Nat.le_trans hB (hS2.map hH2 hbb B3).hlo.2.2
 have hlow:Below B0 w w3:=((b2.mono (Nat.le_trans hB h.hlo.2.2)).trans (B3.low (fun k e=>by rw [e];omega) (by have:=b2.size;have:=h.hlo.2.2;omega)))
 obtain⟨vk0,vn0,vs0,al0,ak0,ya0,ll0,cl0,lk0,ck0,yc0,hz0,hc0⟩:=kid_at (hr.later hlow) h0
 have CP:=hZ (fun u (hu:Below w3.heap.size w3 u)=>hL u nv sv n s z _ (hm0.trans ((mvd_map hM2 B3 hbA).trans (Mvd.of_below q b nv sv hu))) ((hS2.map hH2 hbb B3).below hu) hk hok (IsN.to (fun b hl=>(hu.mono hBS).block b hl) (fun _ h=>h) hz0))
 obtain⟨⟨⟨f1,f2⟩,s1⟩,hR0⟩:∃R,g z s=R:=⟨_,rfl⟩
 rw [hR0] at CP ⊢
 clear hR0
 obtain⟨yn0,hyn0⟩:=eX (z.ks.length)
 rw [hyn0] at CP hc0
 have e0:w3.cell? b1=some (.int .i64 z.k):=hc0 0 _ rfl
 have e1:w3.cell? ⟨b1.block,b1.off+1,none⟩=some (.string z.t):=hc0 1 _ rfl
 have e2:w3.cell? ⟨b1.block,b1.off+2,none⟩=some (.int .i64 vk0):=hc0 2 _ rfl
 have e3:w3.cell? ⟨b1.block,b1.off+3,none⟩=some (.int .i64 vn0):=hc0 3 _ rfl
 have e4:w3.cell? ⟨b1.block,b1.off+4,none⟩=some (.string vs0):=hc0 4 _ rfl
 have e5:w3.cell? ⟨b1.block,b1.off+5,none⟩=some (.slice al0 ll0 cl0):=hc0 5 _ rfl
 have e6:w3.cell? ⟨b1.block,b1.off+6,none⟩=some (.slice ak0 lk0 ck0):=hc0 6 _ rfl
 have e7:w3.cell? ⟨b1.block,b1.off+7,none⟩=some (.bool z.f):=hc0 7 _ rfl
 have e8:w3.cell? ⟨b1.block,b1.off+8,none⟩=some (.slice ya0 yn0 yc0):=hc0 8 _ rfl
 have e9:w3.cell? ⟨b1.block,b1.off+9,none⟩=some (.int .i64 z.p):=hc0 9 _ rfl
 have cn:w3.cell? ⟨nc,0,none⟩=some (.func (.func F) Bd cap):=by
  rw [cell_of_row w3 nc 0 _ _ (0,0) hcn3]
  rfl
 have HF:=hZ hf
 unfold fltV
 go_enter Tryz.func93,Tryz.ntmps93
 go_upto_region 1 with fail
 try rw [hw2]
 try rw [hG]
 clear hw2 b2 hG hcc hcn hH hcc2 hcn2 hH2 hS2 hM2 hK2 hf1 n2 r2 hm3 hg3 B3 K3 n3 r3 hcc3 hcn3 hmA h hL hf hr hm0 hok hz0 hc0 hyn0 hlow
 go_upto_region 4 with fail
 have HFd:Hid (∀u,Below w3.heap.size w3 u→u.cell? ⟨nc,0,none⟩=some (.func (.func F) Bd cap)∧u.cell? ⟨G,8,none⟩=some (.slice (some b1) m cc)∧u.cell? b1=some (.int .i64 z.k)∧u.cell? ⟨b1.block,b1.off+1,none⟩=some (.string z.t)∧u.cell? ⟨b1.block,b1.off+2,none⟩=some (.int .i64 vk0)∧u.cell? ⟨b1.block,b1.off+3,none⟩=some (.int .i64 vn0)∧u.cell? ⟨b1.block,b1.off+4,none⟩=some (.string vs0)∧u.cell? ⟨b1.block,b1.off+5,none⟩=some (.slice al0 ll0 cl0)∧u.cell? ⟨b1.block,b1.off+6,none⟩=some (.slice ak0 lk0 ck0)∧u.cell? ⟨b1.block,b1.off+7,none⟩=some (.bool z.f)∧u.cell? ⟨b1.block,b1.off+8,none⟩=some (.slice ya0 yn0 yc0)∧u.cell? ⟨b1.block,b1.off+9,none⟩=some (.int .i64 z.p)):=hZ (fun u hu=>⟨cell_kept hu cn,cell_kept hu p8,cell_kept hu e0,cell_kept hu e1,cell_kept hu e2,cell_kept hu e3,cell_kept hu e4,cell_kept hu e5,cell_kept hu e6,cell_kept hu e7,cell_kept hu e8,cell_kept hu e9⟩)
 clear hput ha ha3 c0 d0 m0 m1 m2 m3 m4 m5 m6 m7 m8 m9 p0 p1 p2 p3 p4 p5 p6 p7 p8 p9 cn e0 e1 e2 e3 e4 e5 e6 e7 e8 e9
 have HS0:Hid (Below w3.heap.size w3 w3.drew):=hZ ((Below.refl _ _).drew)
 refine til2_begin (S:=fun w'=>Below w3.heap.size w3 w') 5 (by kernel_rfl) ?_
 obtain⟨W0,hW0⟩:=eX (w3.drew)
 try rw [hW0]
 rw [hW0] at HS0
 clear hW0
 refine til2_take 0 (v:=.func (.func F) Bd cap) (some 17) rfl rfl rfl rfl (by kernel_rfl) (by kernel_rfl) (by kernel_rfl) (by kernel_rfl) (fun _ _ _ h=>h) (Or.inl ⟨by rfl,fun u hu=>by obtain⟨cn,p8,e0,e1,e2,e3,e4,e5,e6,e7,e8,e9⟩:=uZ HFd u hu;go_simp⟩) (uZ HS0) ?_
 try simp only [Act.put,sA,sB,sC]
 obtain⟨cn,p8,e0,e1,e2,e3,e4,e5,e6,e7,e8,e9⟩:=uZ HFd W0 (uZ HS0)
 refine til2_one 1 (by kernel_rfl) rfl rfl (fun K hK=>?_)
 go_simp
 refine hK _ _ (uZ HS0) ?_
 clear hK K cn p8 e0 e1 e2 e3 e4 e5 e6 e7 e8 e9
 try simp only [Act.put,sA,sB,sC]
 obtain⟨cn,p8,e0,e1,e2,e3,e4,e5,e6,e7,e8,e9⟩:=uZ HFd W0 (uZ HS0)
 refine til2_one 2 (by kernel_rfl) rfl rfl (fun K hK=>?_)
 go_simp
 refine hK _ _ (uZ HS0) ?_
 clear hK K cn p8 e0 e1 e2 e3 e4 e5 e6 e7 e8 e9
 try simp only [Act.put,sA,sB,sC]
 obtain⟨cn,p8,e0,e1,e2,e3,e4,e5,e6,e7,e8,e9⟩:=uZ HFd W0 (uZ HS0)
 refine til2_one 3 (by kernel_rfl) rfl rfl (fun K hK=>?_)
 go_wp2_with fail
 refine hK _ _ (uZ HS0) ?_
 clear hK K cn p8 e0 e1 e2 e3 e4 e5 e6 e7 e8 e9
 try simp only [Act.put,sA,sB,sC]
 obtain⟨cn,p8,e0,e1,e2,e3,e4,e5,e6,e7,e8,e9⟩:=uZ HFd W0 (uZ HS0)
 refine til2_one 4 (by kernel_rfl) rfl rfl (fun K hK=>?_)
 go_simp
 refine hK _ _ (uZ HS0) ?_
 clear hK K cn p8 e0 e1 e2 e3 e4 e5 e6 e7 e8 e9
 try simp only [Act.put,sA,sB,sC]
 refine til2_z (by kernel_rfl) rfl (fun K hK=>?_)
 go_simp
 try rw [uZ HF]
 refine(uZ CP W0 (uZ HS0)).mono ?_
 rintro e w4 ⟨rfl,nv1,sv1,n1,S4,M4,hn1⟩
 have X3:=uZ HX3
 have hBW:=uZ HS0
 have HK4:=hZ ((uZ HK3).trans ((KeepF.of_below hBW).trans (keepF_of_mvd ((uZ HS3).below hBW) M4)))
 have HM4:=hZ ((uZ HM3).trans ((Mvd.of_below q b nv sv hBW).trans M4))
 have HN4:=hZ (mvd_nms ((uZ HS3).below hBW) M4 ((uZ HN3).later (hBW.block hb (uZ HN3).lt)) hbb)
 have r4:=keepF_of_mvd ((uZ HS3).below hBW) M4 (G+1) _ _ (by decide) (by decide) (by decide) ((hBW.block _ (ltR X3.2.1)).trans X3.2.1)
 have HS4:=hZ S4
 have HN1:=hZ hn1
 clear CP S4 M4 hn1 X3 hBW HS0 HFd HS3 HM3 HK3 HN3 HX3
 have HE:=hZ (pair_fin (uZ HS4) (uZ HM4) (uZ HK4) (uZ HGA) r4 (.int .i64 f1) (.int .i64 f2))
 have HN5:=hZ (nms_fin (uZ HN4) r4 (.int .i64 f1) (.int .i64 f2))
 obtain⟨k0,k1⟩:=two_at r4
 have y0:=frozen_of_row w4 (G+1) 0 _ _ r4
 have y1:=frozen_of_row w4 (G+1) 1 _ _ r4
 have HP2:=hZ (put2 r4 (.int .i64 f1) (.int .i64 f2))
 clear r4 HS4 HM4 HK4 HN4
 unfold fltV
 go_wp2_with fail
 refine hK _ _ ?_
 clear hK K
 try simp only [Act.put,sA,sB,sC]
 refine Till.any (S:=fun _=>True) (z:=99) _ _ _ _ ?_
 refine till_one 6 (by kernel_rfl) rfl (fun K hK=>?_)
 go_simp
 refine hK.out _ _ (Or.inr trivial) ?_
 clear hK K
 try simp only [Act.put,sA,sB,sC]
 refine till_done (by kernel_rfl) ?_ _
 go_wp2_with fail
 exact rtF (p:=4) rfl rfl (uZ HP2) rfl ⟨rfl,(uZ HE).2.2.1,_,_,_,(uZ HE).1,(uZ HE).2.1,uZ HN1,uZ HN5,(uZ HE).2.2.2⟩
end Go.Proofs.YtjdpaihhhjdgmaaGreatDoor
