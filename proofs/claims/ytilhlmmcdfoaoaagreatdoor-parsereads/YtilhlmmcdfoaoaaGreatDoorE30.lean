/-
  The walk of the document's token (layer 16); conditions: a text of at most 8192 bytes.
  The walk of the document's token (layer 16); conditions: a text of at most 8192 bytes.
  The walk of the document's token (layer 16); conditions: a text of at most 8192 bytes.
-/
import Derived.Test.YtilhlmmcdfoaoaaGreatDoorE29
set_option linter.unusedVariables false
set_option linter.unusedSimpArgs false
namespace Go.Proofs.YtilhlmmcdfoaoaaGreatDoor
open Go.RowKit
set_option linter.unusedVariables false
set_option linter.unusedSimpArgs false
set_option maxRecDepth 100000 in
set_option maxHeartbeats 2000000 in
theorem tokenD_num (s:ByteArray) (a:Nat) (ha:a<s.size) (hs:s.size≤8192) (w:World) (hdg:lxDig (s[a]'ha)=true) :
  Calls Tryz.prog 22 #[.string s,.int .i64 (a:Int)] w fun e w'=>e=.returned (tokV a (numT ((s.data.toList.drop a).takeWhile lxW)))∧Below w.heap.size w w':=by
 have CW:=hZ (fun u=>wordD_any s a (by omega) (by omega) u)
 have CL:=hZ (fun u=>letterD_at s a ha u)
 have CD:=hZ (fun u=>digitD_at s a ha u)
 obtain⟨c,hc⟩:∃c,s[a]'ha=c:=⟨_,rfl⟩
 have hci:((s[a]'ha).toNat:Int)=(c.toNat:Int):=by rw [hc]
 obtain⟨g,hg⟩:∃g,w.heap.size=g:=⟨_,rfl⟩
 have HG:=hZ hg
 have hs2:(s.size:Int)≤8192:=by omega
 have ha2:(a:Int)<(s.size:Int):=by omega
 have hdr:=drop_at s a ha
 rw [hc] at hdr
 obtain⟨n,hn⟩:∃n,((s.data.toList.drop a).takeWhile lxW).length=n:=⟨_,rfl⟩
 rw [hn] at CW
 have hnl:a+n≤s.size:=by
  have:=tw_le lxW (s.data.toList.drop a)
  rw [hn,List.length_drop,len_list] at this
  omega
 obtain⟨b,hb⟩:∃b,a+n=b:=⟨_,rfl⟩
 have hbi:(a:Int)+(n:Int)=(b:Int):=by omega
 have hbs:(b:Int)≤(s.size:Int):=by omega
 have hab:(a:Int)≤(b:Int):=by omega
 rw [hc] at CL CD hdg
 have hlet:lxLet c=false:=by
  have:=dig_range hdg
  exact decide_eq_false (by omega)
 rw [hlet] at CL
 rw [hdg] at CD
 obtain⟨W,hW⟩:∃W,(s.data.toList.drop a).takeWhile lxW=W:=⟨_,rfl⟩
 rw [hW] at hn ⊢
 have hWn:0<W.length:=by
  rw [←hW,hdr,List.takeWhile_cons,if_pos (by unfold lxW;rw [hdg];simp)]
  simp
 have hext:s.extract a b=bA W:=by
  refine bA_eq _ _ ?_
  rw [ext_data,List.drop_take,show b - a=n by omega,←hW,←hn,←hW]
  exact(List.prefix_iff_eq_take.1 (List.takeWhile_prefix lxW)).symm
 have CN:=hZ (fun u=>numberD_any (bA W) (by rw [bA_size];exact hWn) (by rw [bA_size];omega) u)
 rw [bA_data] at CN
 obtain⟨V,hV⟩:∃V,bA W=V:=⟨_,rfl⟩
 rw [hV] at hext CN
 obtain⟨R,hR⟩:∃R,tokV a (numT W)=R:=⟨_,rfl⟩
 have HR:=hZ (And.intro hR (And.intro hV (And.intro hn hb)))
 rw [hR]
 clear hlet hdg hdr hc hn hb hR hV hW hWn
 go_enter Tryz.func22,Tryz.ntmps22
 go_upto_region 2 with fail
 obtain⟨w2,hw2⟩:∃w2,w2=(w.alloc (.cells #[.int .i64 0,.string ⟨#[]⟩,.int .i64 0,.int .i64 0] 52)).alloc (.cells #[.int .i64 0,.string ⟨#[]⟩,.int .i64 0,.int .i64 (a:Int)] 52):=⟨_,rfl⟩
 rw [←hw2]
 have BX:Hid (Bx w w2 g (.int .i64 0) (.string ⟨#[]⟩) (.int .i64 0) (.int .i64 (a:Int))):=hZ (by rw [hw2,←hg];exact bx_start w a)
 clear hw2
 go_wp2_with fail
 refine((uZ CW) _).mono ?_
 rintro e u ⟨rfl,hu⟩
 obtain rfl:=hu.symm
 go_wp2_with fail
 refine((uZ CL) _).mono ?_
 rintro e u ⟨rfl,hu⟩
 obtain rfl:=hu.symm
 go_wp2_with fail
 refine((uZ CD) _).mono ?_
 rintro e u ⟨rfl,hu⟩
 obtain rfl:=hu.symm
 go_wp2_with fail
 refine((uZ CN) _).mono ?_
 rintro e u ⟨⟨z,rfl,hz⟩,hu⟩
 obtain rfl:=hu.symm
 have HZ:=hZ hz
 clear hz CN
 cases hi:intV W with
 |none=>
  simp only [Option.isSome_none]
  have HE:Hid (R=.tuple #[.agg #[.int .i64 0,.string ⟨#[]⟩,.int .i64 0,.int .i64 0],.int .i64 0,.int .i64 162]):=hZ (by
   obtain⟨h1,h2,h3,h4⟩:=uZ HR
   rw [←h1]
   unfold numT
   rw [hi]
   rfl)
  clear hi
  have tok:True:=trivial
  go_wp2_with (first|(have _t:=tok;refine wpList_put_arr rfl 52 (.tmp 4) (.tmp 67) rfl g _ _ rfl rfl (uZ BX).ans rfl size_tok (one_tok _ _ _ _) ?_;clear tok;intro w9 M9))
  exact bodyPost_ret (ret_ctt (p:=4) (u:=5) (v:=6) (T:=52) rfl _ _ g _ _ _ rfl (uZ M9).at' Tryz.underlying52 rfl size_tok) rfl ⟨by rw [uZ HE];rfl,by first|exact(uZ M9).below g w (uZ BX).below (Nat.le_refl _)|(rw [uZ HG];exact(uZ M9).below g w (uZ BX).below (Nat.le_refl _))⟩
 |some m=>
  have hzm:=uZ HZ m hi
  subst hzm
  simp only [Option.isSome_some]
  have HE:Hid (R=.tuple #[.agg #[.int .i64 3,.string ⟨#[]⟩,.int .i64 (m:Int),.int .i64 (a:Int)],.int .i64 (b:Int),.int .i64 0]):=hZ (by
   obtain⟨h1,h2,h3,h4⟩:=uZ HR
   rw [←h1]
   unfold numT
   rw [hi,←h4,←h3]
   rfl)
  have f0:=(uZ BX).frz 0
  obtain⟨x0,x1,x2,x3⟩:=(uZ BX).cells
  have hl:=(uZ BX).lt
  clear hi HZ
  go_upto_region 19 with fail
  obtain⟨w3,hw3⟩:∃w3,w3=w2.setCell ⟨g+1,0,none⟩ (.int .i64 3):=⟨_,rfl⟩
  rw [←hw3]
  have BX3:Hid (Bx w w3 g (.int .i64 3) (.string ⟨#[]⟩) (.int .i64 0) (.int .i64 (a:Int))):=hZ (by rw [hw3];exact(uZ BX).set0 _)
  clear hw3 f0 hl BX x0 x1 x2 x3
  have f2:=(uZ BX3).frz 2
  obtain⟨x0,x1,x2,x3⟩:=(uZ BX3).cells
  have hl:=(uZ BX3).lt
  go_upto_region 20 with fail
  obtain⟨w4,hw4⟩:∃w4,w4=w3.setCell ⟨g+1,2,none⟩ (.int .i64 (m:Int)):=⟨_,rfl⟩
  rw [←hw4]
  have BX4:Hid (Bx w w4 g (.int .i64 3) (.string ⟨#[]⟩) (.int .i64 (m:Int)) (.int .i64 (a:Int))):=hZ (by rw [hw4];exact(uZ BX3).set2 _)
  clear hw4 f2 hl BX3 x0 x1 x2 x3
  obtain⟨d0,d1,d2,d3⟩:=(uZ BX4).cells
  have hl:=(uZ BX4).lt
  have tok:True:=trivial
  go_wp2_with (first|(have _t:=tok;refine wpList_put_arr rfl 52 (.tmp 4) (.tmp 71) rfl g _ _ rfl rfl (uZ BX4).ans rfl size_tok (one_tok _ _ _ _) ?_;clear tok;intro w9 M9))
  exact bodyPost_ret (ret_ctt (p:=4) (u:=5) (v:=6) (T:=52) rfl _ _ g _ _ _ rfl (uZ M9).at' Tryz.underlying52 rfl size_tok) rfl ⟨by rw [uZ HE];rfl,by first|exact(uZ M9).below g w (uZ BX4).below (Nat.le_refl _)|(rw [uZ HG];exact(uZ M9).below g w (uZ BX4).below (Nat.le_refl _))⟩
set_option maxRecDepth 100000 in
set_option maxHeartbeats 2000000 in
theorem tokenD_bytes (s:ByteArray) (a:Nat) (ha:a<s.size) (hs:s.size≤8192) (w:World) (h34:(s[a]'ha).toNat=34) :
  Calls Tryz.prog 22 #[.string s,.int .i64 (a:Int)] w fun e w'=>e=.returned (tokV a (bytT (s.data.toList.drop (a+1))))∧Below w.heap.size w w':=by
 have CW:=hZ (fun u=>wordD_any s a (by omega) (by omega) u)
 have CL:=hZ (fun u=>letterD_at s a ha u)
 have CD:=hZ (fun u=>digitD_at s a ha u)
 obtain⟨c,hc⟩:∃c,s[a]'ha=c:=⟨_,rfl⟩
 have hci:((s[a]'ha).toNat:Int)=(c.toNat:Int):=by rw [hc]
 obtain⟨g,hg⟩:∃g,w.heap.size=g:=⟨_,rfl⟩
 have HG:=hZ hg
 have hs2:(s.size:Int)≤8192:=by omega
 have ha2:(a:Int)<(s.size:Int):=by omega
 have hdr:=drop_at s a ha
 rw [hc] at hdr
 obtain⟨n,hn⟩:∃n,((s.data.toList.drop a).takeWhile lxW).length=n:=⟨_,rfl⟩
 rw [hn] at CW
 have hnl:a+n≤s.size:=by
  have:=tw_le lxW (s.data.toList.drop a)
  rw [hn,List.length_drop,len_list] at this
  omega
 obtain⟨b,hb⟩:∃b,a+n=b:=⟨_,rfl⟩
 have hbi:(a:Int)+(n:Int)=(b:Int):=by omega
 have hbs:(b:Int)≤(s.size:Int):=by omega
 have hab:(a:Int)≤(b:Int):=by omega
 rw [hc] at CL CD h34
 have hlet:lxLet c=false:=decide_eq_false (by omega)
 have hdg:lxDig c=false:=decide_eq_false (by omega)
 rw [hlet] at CL
 rw [hdg] at CD
 have hc34:(c.toNat:Int)=34:=by omega
 have CQ0:=fun u=>quotedD_any s a ha hs u
 rw [hc34] at hci
 rw [hc34] at CL CD
 obtain⟨R,hR⟩:∃R,tokV a (bytT (s.data.toList.drop (a+1)))=R:=⟨_,rfl⟩
 have HR:=hZ hR
 rw [hR]
 clear hlet hdg hdr hc hn hb hR h34 hc34
 cases hi:bytV (s.data.toList.drop (a+1)) with
 |none=>
  have HE:Hid (R=.tuple #[.agg #[.int .i64 0,.string ⟨#[]⟩,.int .i64 0,.int .i64 0],.int .i64 0,.int .i64 163]):=hZ (by
   rw [←uZ HR]
   unfold bytT
   rw [hi]
   rfl)
  rw [hi] at CQ0
  have CQ:Hid (∀u,Calls Tryz.prog 42 #[.string s,.int .i64 (a:Int)] u fun e w'=>e=.returned (.tuple #[.string ⟨#[]⟩,.int .i64 0,.bool false])∧Below u.heap.size u w'):=hZ CQ0
  clear hi CQ0
  go_enter Tryz.func22,Tryz.ntmps22
  go_upto_region 2 with fail
  obtain⟨w2,hw2⟩:∃w2,w2=(w.alloc (.cells #[.int .i64 0,.string ⟨#[]⟩,.int .i64 0,.int .i64 0] 52)).alloc (.cells #[.int .i64 0,.string ⟨#[]⟩,.int .i64 0,.int .i64 (a:Int)] 52):=⟨_,rfl⟩
  rw [←hw2]
  have BX:Hid (Bx w w2 g (.int .i64 0) (.string ⟨#[]⟩) (.int .i64 0) (.int .i64 (a:Int))):=hZ (by rw [hw2,←hg];exact bx_start w a)
  clear hw2
  go_wp2_with fail
  refine((uZ CW) _).mono ?_
  rintro e u ⟨rfl,hu⟩
  obtain rfl:=hu.symm
  go_wp2_with fail
  refine((uZ CL) _).mono ?_
  rintro e u ⟨rfl,hu⟩
  obtain rfl:=hu.symm
  go_wp2_with fail
  refine((uZ CD) _).mono ?_
  rintro e u ⟨rfl,hu⟩
  obtain rfl:=hu.symm
  go_wp2_with fail
  refine((uZ CQ) _).mono ?_
  rintro e u ⟨rfl,b3⟩
  have BXQ:=hZ ((uZ BX).later b3)
  clear b3 CQ BX
  have tok:True:=trivial
  go_wp2_with (first|(have _t:=tok;refine wpList_put_arr rfl 52 (.tmp 4) (.tmp 89) rfl g _ _ rfl rfl (uZ BXQ).ans rfl size_tok (one_tok _ _ _ _) ?_;clear tok;intro w9 M9))
  exact bodyPost_ret (ret_ctt (p:=4) (u:=5) (v:=6) (T:=52) rfl _ _ g _ _ _ rfl (uZ M9).at' Tryz.underlying52 rfl size_tok) rfl ⟨by rw [uZ HE];rfl,by first|exact(uZ M9).below g w (uZ BXQ).below (Nat.le_refl _)|(rw [uZ HG];exact(uZ M9).below g w (uZ BXQ).below (Nat.le_refl _))⟩
 |some x=>
  obtain⟨bs,m⟩:=x
  rw [hi] at CQ0
  obtain⟨V,hV⟩:∃V,bA bs=V:=⟨_,rfl⟩
  obtain⟨q,hq⟩:∃q:Int,((a+m:Nat):Int)=q:=⟨_,rfl⟩
  have HE:Hid (R=.tuple #[.agg #[.int .i64 4,.string V,.int .i64 0,.int .i64 (a:Int)],.int .i64 q,.int .i64 0]):=hZ (by
   rw [←uZ HR]
   unfold bytT
   rw [hi,←hV,←hq]
   rfl)
  have CQ:Hid (∀u,Calls Tryz.prog 42 #[.string s,.int .i64 (a:Int)] u fun e w'=>e=.returned (.tuple #[.string V,.int .i64 q,.bool true])∧Below u.heap.size u w'):=hZ (by rw [←hV,←hq];exact CQ0)
  clear hi hV hq CQ0
  go_enter Tryz.func22,Tryz.ntmps22
  go_upto_region 2 with fail
  obtain⟨w2,hw2⟩:∃w2,w2=(w.alloc (.cells #[.int .i64 0,.string ⟨#[]⟩,.int .i64 0,.int .i64 0] 52)).alloc (.cells #[.int .i64 0,.string ⟨#[]⟩,.int .i64 0,.int .i64 (a:Int)] 52):=⟨_,rfl⟩
  rw [←hw2]
  have BX:Hid (Bx w w2 g (.int .i64 0) (.string ⟨#[]⟩) (.int .i64 0) (.int .i64 (a:Int))):=hZ (by rw [hw2,←hg];exact bx_start w a)
  clear hw2
  go_wp2_with fail
  refine((uZ CW) _).mono ?_
  rintro e u ⟨rfl,hu⟩
  obtain rfl:=hu.symm
  go_wp2_with fail
  refine((uZ CL) _).mono ?_
  rintro e u ⟨rfl,hu⟩
  obtain rfl:=hu.symm
  go_wp2_with fail
  refine((uZ CD) _).mono ?_
  rintro e u ⟨rfl,hu⟩
  obtain rfl:=hu.symm
  go_wp2_with fail
  refine((uZ CQ) _).mono ?_
  rintro e u ⟨rfl,b3⟩
  have BXQ:=hZ ((uZ BX).later b3)
  clear b3 CQ BX
  have f0:=(uZ BXQ).frz 0
  obtain⟨x0,x1,x2,x3⟩:=(uZ BXQ).cells
  have hl:=(uZ BXQ).lt
  go_upto_region 26 with fail
  obtain⟨w3,hw3⟩:∃w3,w3=u.setCell ⟨g+1,0,none⟩ (.int .i64 4):=⟨_,rfl⟩
  rw [←hw3]
  have BX3:Hid (Bx w w3 g (.int .i64 4) (.string ⟨#[]⟩) (.int .i64 0) (.int .i64 (a:Int))):=hZ (by rw [hw3];exact(uZ BXQ).set0 _)
  clear hw3 f0 hl BXQ x0 x1 x2 x3
  have f2:=(uZ BX3).frz 1
  obtain⟨x0,x1,x2,x3⟩:=(uZ BX3).cells
  have hl:=(uZ BX3).lt
  go_upto_region 27 with fail
  obtain⟨w4,hw4⟩:∃w4,w4=w3.setCell ⟨g+1,1,none⟩ (.string V):=⟨_,rfl⟩
  rw [←hw4]
  have BX4:Hid (Bx w w4 g (.int .i64 4) (.string V) (.int .i64 0) (.int .i64 (a:Int))):=hZ (by rw [hw4];exact(uZ BX3).set1 _)
  clear hw4 f2 hl BX3 x0 x1 x2 x3
  obtain⟨d0,d1,d2,d3⟩:=(uZ BX4).cells
  have hl:=(uZ BX4).lt
  have tok:True:=trivial
  go_wp2_with (first|(have _t:=tok;refine wpList_put_arr rfl 52 (.tmp 4) (.tmp 93) rfl g _ _ rfl rfl (uZ BX4).ans rfl size_tok (one_tok _ _ _ _) ?_;clear tok;intro w9 M9))
  exact bodyPost_ret (ret_ctt (p:=4) (u:=5) (v:=6) (T:=52) rfl _ _ g _ _ _ rfl (uZ M9).at' Tryz.underlying52 rfl size_tok) rfl ⟨by rw [uZ HE];rfl,by first|exact(uZ M9).below g w (uZ BX4).below (Nat.le_refl _)|(rw [uZ HG];exact(uZ M9).below g w (uZ BX4).below (Nat.le_refl _))⟩
set_option maxRecDepth 100000 in
set_option maxHeartbeats 2000000 in
theorem tokenD_sign (s:ByteArray) (a:Nat) (ha:a<s.size) (hs:s.size≤8192) (w:World) (hlet:lxLet (s[a]'ha)=false) (hdg:lxDig (s[a]'ha)=false) (h34:¬(s[a]'ha).toNat=34) :
  Calls Tryz.prog 22 #[.string s,.int .i64 (a:Int)] w fun e w'=>e=.returned (tokV a (sgnT (s.data.toList.drop a)))∧Below w.heap.size w w':=by
 have CW:=hZ (fun u=>wordD_any s a (by omega) (by omega) u)
 have CL:=hZ (fun u=>letterD_at s a ha u)
 have CD:=hZ (fun u=>digitD_at s a ha u)
 obtain⟨c,hc⟩:∃c,s[a]'ha=c:=⟨_,rfl⟩
 have hci:((s[a]'ha).toNat:Int)=(c.toNat:Int):=by rw [hc]
 obtain⟨g,hg⟩:∃g,w.heap.size=g:=⟨_,rfl⟩
 have HG:=hZ hg
 have hs2:(s.size:Int)≤8192:=by omega
 have ha2:(a:Int)<(s.size:Int):=by omega
 have hdr:=drop_at s a ha
 rw [hc] at hdr
 obtain⟨n,hn⟩:∃n,((s.data.toList.drop a).takeWhile lxW).length=n:=⟨_,rfl⟩
 rw [hn] at CW
 have hnl:a+n≤s.size:=by
  have:=tw_le lxW (s.data.toList.drop a)
  rw [hn,List.length_drop,len_list] at this
  omega
 obtain⟨b,hb⟩:∃b,a+n=b:=⟨_,rfl⟩
 have hbi:(a:Int)+(n:Int)=(b:Int):=by omega
 have hbs:(b:Int)≤(s.size:Int):=by omega
 have hab:(a:Int)≤(b:Int):=by omega
 rw [hc] at CL CD h34 hlet hdg
 rw [hlet] at CL
 rw [hdg] at CD
 have k1:((c.toNat:Int) == 34)=false:=beq_eq_false_iff_ne.2 (by omega)
 have k2:¬(c.toNat:Int)=34:=by omega
 have CS:=hZ (fun u=>signD_any s a ha hs u)
 obtain⟨m,hm⟩:∃m,sgN (s.data.toList.drop a)=m:=⟨_,rfl⟩
 have hml:m≤2∧a+m≤s.size:=by
  have h1:=sgN_le (s.data.toList.drop a)
  rw [hm,List.length_drop,len_list] at h1
  refine⟨?_,by omega⟩
  rw [←hm]
  unfold sgN
  split
  ·omega
  ·split <;> omega
 rw [hm] at CS
 obtain⟨V,hV⟩:∃V,bA ((s.data.toList.drop a).take m)=V:=⟨_,rfl⟩
 rw [hV] at CS
 have hVs:V.size=m:=by rw [←hV,bA_size,List.length_take,List.length_drop,len_list];omega
 obtain⟨R,hR⟩:∃R,tokV a (sgnT (s.data.toList.drop a))=R:=⟨_,rfl⟩
 have HR:=hZ (And.intro hR (And.intro hm hV))
 rw [hR]
 clear hlet hdg hdr hc hn hb hR h34 hm hV
 go_enter Tryz.func22,Tryz.ntmps22
 go_upto_region 2 with fail
 obtain⟨w2,hw2⟩:∃w2,w2=(w.alloc (.cells #[.int .i64 0,.string ⟨#[]⟩,.int .i64 0,.int .i64 0] 52)).alloc (.cells #[.int .i64 0,.string ⟨#[]⟩,.int .i64 0,.int .i64 (a:Int)] 52):=⟨_,rfl⟩
 rw [←hw2]
 have BX:Hid (Bx w w2 g (.int .i64 0) (.string ⟨#[]⟩) (.int .i64 0) (.int .i64 (a:Int))):=hZ (by rw [hw2,←hg];exact bx_start w a)
 clear hw2
 go_wp2_with fail
 refine((uZ CW) _).mono ?_
 rintro e u ⟨rfl,hu⟩
 obtain rfl:=hu.symm
 go_wp2_with fail
 refine((uZ CL) _).mono ?_
 rintro e u ⟨rfl,hu⟩
 obtain rfl:=hu.symm
 go_wp2_with fail
 refine((uZ CD) _).mono ?_
 rintro e u ⟨rfl,hu⟩
 obtain rfl:=hu.symm
 have f0:=(uZ BX).frz 0
 obtain⟨x0,x1,x2,x3⟩:=(uZ BX).cells
 have hl:=(uZ BX).lt
 go_upto_region 29 with fail
 obtain⟨w3,hw3⟩:∃w3,w3=w2.setCell ⟨g+1,0,none⟩ (.int .i64 5):=⟨_,rfl⟩
 rw [←hw3]
 have BX3:Hid (Bx w w3 g (.int .i64 5) (.string ⟨#[]⟩) (.int .i64 0) (.int .i64 (a:Int))):=hZ (by rw [hw3];exact(uZ BX).set0 _)
 clear hw3 f0 hl BX x0 x1 x2 x3
 go_wp2_with fail
 refine((uZ CS) _).mono ?_
 rintro e u ⟨rfl,b3⟩
 have BXQ:=hZ ((uZ BX3).later b3)
 clear b3 CS BX3
 have f1:=(uZ BXQ).frz 1
 obtain⟨x0,x1,x2,x3⟩:=(uZ BXQ).cells
 have hl:=(uZ BXQ).lt
 go_upto_region 30 with fail
 obtain⟨w4,hw4⟩:∃w4,w4=u.setCell ⟨g+1,1,none⟩ (.string V):=⟨_,rfl⟩
 rw [←hw4]
 have BX4:Hid (Bx w w4 g (.int .i64 5) (.string V) (.int .i64 0) (.int .i64 (a:Int))):=hZ (by rw [hw4];exact(uZ BXQ).set1 _)
 clear hw4 f1 hl BXQ x0 x1 x2 x3
 obtain⟨d0,d1,d2,d3⟩:=(uZ BX4).cells
 have hl:=(uZ BX4).lt
 by_cases hm0:m=0
 ·have e1:(V.toList == [])=true:=by
   have:V.toList.length=0:=by rw [ByteArray.toList_eq];have h:=len_list V;omega
   rw [List.eq_nil_of_length_eq_zero this]
   rfl
  have HE:Hid (R=.tuple #[.agg #[.int .i64 0,.string ⟨#[]⟩,.int .i64 0,.int .i64 0],.int .i64 0,.int .i64 161]):=hZ (by
   obtain⟨h1,h2,h3⟩:=uZ HR
   rw [←h1]
   unfold sgnT
   rw [h2,if_pos hm0]
   rfl)
  clear hm0
  have tok:True:=trivial
  go_wp2_with (first|(have _t:=tok;refine wpList_put_arr rfl 52 (.tmp 4) (.tmp 103) rfl g _ _ rfl rfl (uZ BX4).ans rfl size_tok (one_tok _ _ _ _) ?_;clear tok;intro w9 M9))
  exact bodyPost_ret (ret_ctt (p:=4) (u:=5) (v:=6) (T:=52) rfl _ _ g _ _ _ rfl (uZ M9).at' Tryz.underlying52 rfl size_tok) rfl ⟨by rw [uZ HE];rfl,by first|exact(uZ M9).below g w (uZ BX4).below (Nat.le_refl _)|(rw [uZ HG];exact(uZ M9).below g w (uZ BX4).below (Nat.le_refl _))⟩
 ·have e1:(V.toList == [])=false:=by
   cases hq:V.toList with
   |nil=>
    have h:=len_list V
    rw [←ByteArray.toList_eq,hq] at h
    simp at h
    omega
   |cons x y=>rfl
  have HE:Hid (R=.tuple #[.agg #[.int .i64 5,.string V,.int .i64 0,.int .i64 (a:Int)],.int .i64 ((a:Int)+(m:Int)),.int .i64 0]):=hZ (by
   obtain⟨h1,h2,h3⟩:=uZ HR
   rw [←h1]
   unfold sgnT
   rw [h2,if_neg hm0,←h3]
   show Value.tuple #[.agg _,.int .i64 ((a+m:Nat):Int),.int .i64 0]=_
   rw [show ((a+m:Nat):Int)=(a:Int)+(m:Int) by omega]
   rfl)
  have hVi:(V.size:Int)=(m:Int):=by omega
  have ham:(a:Int)+(m:Int)≤8192:=by omega
  have hwm:IntKind.i64.wrap ((a:Int)+(m:Int))=(a:Int)+(m:Int):=by rw [IntKind.wrap_i64];omega
  clear hm0
  go_upto_region 32 with fail
  obtain⟨y0,y1,y2,y3⟩:=row_cell4 (uZ BX4).ans
  have fa:=fun i=>frozen_of_row w4 g i _ _ (uZ BX4).ans
  have fa0:=fa 0
  have fa1:=fa 1
  have fa2:=fa 2
  have fa3:=fa 3
  have hgl:g<w4.heap.size:=(Array.getElem?_eq_some_iff.1 (uZ BX4).ans).1
  clear fa
  go_region
  obtain⟨w9,hw9⟩:∃w9,w9=((((w4.setCell ⟨g,0,none⟩ (.int .i64 5)).setCell ⟨g,1,none⟩ (.string V)).setCell ⟨g,2,none⟩ (.int .i64 0)).setCell ⟨g,3,none⟩ (.int .i64 (a:Int))).drew:=⟨_,rfl⟩
  rw [←hw9]
  have A9:Hid (w9.heap[g]?=some (.cells #[.int .i64 5,.string V,.int .i64 0,.int .i64 (a:Int)] 52 (0,0))∧Below g w w9):=hZ (by
   rw [hw9]
   exact⟨four_set w4 g 52 _ _ _ _ _ _ _ _ (uZ BX4).ans,(((((uZ BX4).below.setCell (p:=⟨g,0,none⟩) (Nat.le_refl _) _).setCell (p:=⟨g,1,none⟩) (Nat.le_refl _) _).setCell (p:=⟨g,2,none⟩) (Nat.le_refl _) _).setCell (p:=⟨g,3,none⟩) (Nat.le_refl _) _).drew⟩)
  clear hw9 y0 y1 y2 y3 fa0 fa1 fa2 fa3 d0 d1 d2 d3
  go_wp2_with fail
  exact bodyPost_ret (ret_ctt (p:=4) (u:=5) (v:=6) (T:=52) rfl _ _ g _ _ _ rfl (uZ A9).1 Tryz.underlying52 rfl size_tok) rfl ⟨by rw [uZ HE];rfl,by first|exact(uZ A9).2|(rw [uZ HG];exact(uZ A9).2)⟩
theorem tokenD_any (s:ByteArray) (a:Nat) (ha:a<s.size) (hs:s.size≤8192) (w:World) :
  Calls Tryz.prog 22 #[.string s,.int .i64 (a:Int)] w fun e w'=>e=.returned (tokV a (fstT (s.data.toList.drop a)))∧Below w.heap.size w w':=by
 have hdr:=drop_at s a ha
 cases hl:lxLet (s[a]'ha) with
 |true=>
  rw [hdr,fst_cons,if_pos hl,←hdr]
  exact tokenD_word s a ha hs w hl
 |false=>
  cases hd:lxDig (s[a]'ha) with
  |true=>
   rw [hdr,fst_cons,if_neg (by rw [hl];simp),if_pos hd,←hdr]
   exact tokenD_num s a ha hs w hd
  |false=>
   by_cases h34:(s[a]'ha).toNat=34
   ·rw [hdr,fst_cons,if_neg (by rw [hl];simp),if_neg (by rw [hd];simp),if_pos h34]
    exact tokenD_bytes s a ha hs w h34
   ·rw [hdr,fst_cons,if_neg (by rw [hl];simp),if_neg (by rw [hd];simp),if_neg h34,←hdr]
    exact tokenD_sign s a ha hs w hl hd h34
end Go.Proofs.YtilhlmmcdfoaoaaGreatDoor
