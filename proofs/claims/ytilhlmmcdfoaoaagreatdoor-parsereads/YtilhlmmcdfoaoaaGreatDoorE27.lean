/-
  Layer 17 (parse): the document's statements and functions against the program's, job by job; plain lists; condition: a name has at most 32 bytes, and fuel enough for expressions.
-/
import Derived.Test.YtilhlmmcdfoaoaaGreatDoorE26
set_option linter.unusedVariables false
set_option linter.unusedSimpArgs false
namespace Go.Proofs.YtilhlmmcdfoaoaaGreatDoor
set_option linter.unusedVariables false
set_option linter.unusedSimpArgs false
def gdQ (r:Jq) (σ:Sg):Option (List Nd × Sg):=bq (r 8 0 [] σ) (fun c s1=>bq (r 4 0 [] s1) (fun b s2=>okq (c++b) s2))
theorem gd_bq {r:Jq} {σ:Sg} {k:List Nd→Sg→Option (List Nd × Sg)}:bq (r 8 0 [] σ) (fun c s1=>bq (r 4 0 [] s1) (fun b s2=>k (c++b) s2))=bq (gdQ r σ) k:=by
 unfold gdQ
 cases r 8 0 [] σ with
 |none=>rfl
 |some y=>
  show bq (r 4 0 [] y.2) _=bq (bq (r 4 0 [] y.2) _) k
  cases r 4 0 [] y.2 with
  |none=>rfl
  |some z=>rfl
structure RlS (T:List Tk) (F g:Nat):Prop where
 s1:∀{f i d:Nat} {acc:List Nd} {r:Rs (List Nd)},f+4≤g→i<T.length→d≤24→PJ f 14 0 acc (T.drop i) d=some r→Rl2 T d r (RS T F g 1 0 acc (stQ i d))
 s2:∀{f i d:Nat} {r:Rs (List Nd)},f+4≤g→i<T.length→d≤24→PJ f 13 0 [] (T.drop i) d=some r→Rl2 T d r (RS T F g 2 0 [] (stQ i d))
 s3:∀{f f2 i d:Nat} {acc:List Nd} {r:Rs (List Nd)},f2+4≤g→i<T.length→d≤24→bnd (PJ f 25 0 [] (T.drop i) d) (fun ns l1=>PJ f2 7 0 (acc++ns) l1 d)=some r→Rl2 T d r (RS T F g 3 0 acc (stQ i d))
 s4:∀{f i d:Nat} {r:Rs (List Nd)},f+4≤g→i<T.length→d≤24→PJ f 10 0 [] (T.drop i) d=some r→Rl2 T d r (RS T F g 4 0 [] (stQ i d))
 s5:∀{f i d:Nat} {acc:List Nd} {r:Rs (List Nd)},f+4≤g→i<T.length→d≤24→PJ f 11 0 acc (T.drop i) d=some r→Rl2 T d r (RS T F g 5 0 acc (stQ i d))
 s6:∀{f i d:Nat} {r:Rs (List Nd)},f+4≤g→i<T.length→d≤24→PJ f 9 0 [] (T.drop i) d=some r→Rl2 T d r (RS T F g 6 0 [] (stQ i d))
 s7:∀{f i d:Nat} {r:Rs (List Nd)},f+4≤g→i<T.length→d≤24→¬(hdT (T.drop i)).k=0→PJ f 15 0 [] (T.drop i) d=some r→Rl2 T d r (RS T F g 7 0 [] (stQ i d))
 s9:∀{f i d:Nat} {r:Rs (List Nd)},f+4≤g→i<T.length→d≤24→¬(hdT (T.drop i)).k=0→PJ f 12 0 [] (T.drop i) d=some r→Rl2 T d r (RS T F g 9 0 [] (stQ i d))
theorem st7 {T : List Tk} {F g : Nat} (H : Fit T F) {f i d:Nat} {r:Rs (List Nd)} (hg:f+4≤g+1) (hi:i<T.length) (hd:d≤24) (hk0:¬(hdT (T.drop i)).k=0) (h:PJ f 15 0 [] (T.drop i) d=some r):Rl2 T d r (RS T F (g+1) 7 0 [] (stQ i d)):=by
 obtain⟨f,rfl⟩:=fuelP h
 replace h:jLet (PJ f) (T.drop i) d=some r:=h
 show Rl2 T d r (sLet T (RJ T F) (stQ i d))
 unfold jLet at h
 unfold sLet lnQ
 obtain⟨n1,n2,n3⟩:=nx_st (d:=d) H.fin hi hk0
 rw [n1,tk_st]
 rw [n3] at h
 have hb:∀E P,¬E=0→∀(t:Tk) σ,ErL T σ E P→KeL T E P (if isQ T 5 [61] σ=true then bq (RJ T F 0 0 [] (nxQ T σ)) (fun ns s1=>okq [nd0 5 t.t ns (hdT (T.drop i)).p] (enQ T s1)) else okq [nd0 5 t.t [] (hdT (T.drop i)).p] (enQ T σ)):=fun E P hE t σ h=>kl_ite (kl_bq (kl_e H hE (el_nx h)) (fun _ _ g=>kl_ok (el_mu hE g))) (kl_ok (el_mu hE h))
 refine rl_nm H.fin n2 (k':=fun m=>if isQ T 5 [61] m.2=true then bq (RJ T F 0 0 [] (nxQ T m.2)) (fun ns s1=>okq [nd0 5 m.1.t ns (hdT (T.drop i)).p] (enQ T s1)) else okq [nd0 5 m.1.t [] (hdT (T.drop i)).p] (enQ T m.2)) h (fun h1 h2=>?_) (fun E P hE t σ h=>hb E P hE t σ h)
 show Rl2 T d r (if isQ T 5 [61] (stQ (i+1+1) d)=true then _ else _)
 rw [isQ_S]
 by_cases h61:isS [61] (T.drop (i+1+1))=true
 ·rw [if_pos h61] at h2 ⊢
  have hk5:=(ksign h61).1
  obtain⟨m1,m2,m3⟩:=nx_st (d:=d) H.fin h1 (by omega)
  rw [m3] at h2
  show Rl2 T d r (bq (RJ T F 0 0 [] (nxQ T (stQ (i+1+1) d))) _)
  rw [m1]
  exact rl_bq (d0:=d) h2 (fun r0 hr=>rl_e H m2 hd hr) (fun E P e=>gd_ne e) (fun ns k hk h3=>rl_en H.fin hk h3) (fun E P hE ns σ g=>kl_ok (el_mu hE g))
 ·rw [if_neg h61] at h2 ⊢
  exact rl_en H.fin h1 h2
theorem set_is {T : List Tk} {F : Nat} (H : Fit T F) {i d:Nat} (hi:i<T.length):(setQ T (stQ i d)=true)=((hdT (T.drop i)).k=1∧isS [61] (T.drop i).tail=true):=by
 unfold setQ
 rw [isQ_N]
 refine propext ⟨fun h=>?_,fun h=>?_⟩
 ·obtain⟨h1,h2,h3,h4⟩:=of_decide_eq_true h
  refine⟨of_decide_eq_true h1,?_⟩
  rw [List.tail_drop]
  exact decide_eq_true ⟨h3,h4⟩
 ·have hm:=tk_more H.fin (σ:=stQ i d) hi (by rw [tk_st,h.1];decide)
  have h3:=h.2
  rw [List.tail_drop] at h3
  have h4:=ksign h3
  exact decide_eq_true ⟨decide_eq_true h.1,hm,h4.1,h4.2⟩
theorem gd_rl {T : List Tk} {F g : Nat} (H : Fit T F) (ih : RlS T F g) {f i d:Nat} {r:Rs (List Nd)} (hg:f+4≤g) (hi:i<T.length) (hd:d≤24) (h:PJ f 20 0 [] (T.drop i) d=some r):Rl2 T d r (gdQ (RS T F g) (stQ i d)):=by
 obtain⟨f,rfl⟩:=fuelP h
 obtain⟨g',rfl⟩:∃k,g=k+1:=⟨g - 1,by omega⟩
 replace h:jGuard (PJ f) (T.drop i) d=some r:=h
 unfold jGuard at h
 have hb:∀E P,¬E=0→∀(c:List Nd) σ,ErL T σ E P→KeL T E P (bq (RS T F (g'+1) 4 0 [] σ) (fun b s2=>okq (c++b) s2)):=fun E P hE c σ h=>kl_bq (ks1 H hE h (by omega)) (fun _ _ g=>kl_ok g)
 show Rl2 T d r (bq (sCond T (RJ T F) (stQ i d)) (fun c s1=>bq (RS T F (g'+1) 4 0 [] s1) (fun b s2=>okq (c++b) s2)))
 unfold sCond
 refine rl_sg H.fin hi (k':=fun m=>bq (bq (RJ T F 0 0 [] m.2) (fun ns s1=>okq ns (muQ T 5 [41] s1).2)) (fun c s1=>bq (RS T F (g'+1) 4 0 [] s1) (fun b s2=>okq (c++b) s2))) h (fun h1 h2=>?_) (fun E P hE t σ h=>kl_bq (kl_bq (kl_e H hE h) (fun _ _ g=>kl_ok (el_mu hE g))) (fun ns σ g=>hb E P hE ns σ g))
 have e0:∀o:Option (List Nd × Sg),bq (bq o (fun ns s1=>okq ns (muQ T 5 [41] s1).2)) (fun c s1=>bq (RS T F (g'+1) 4 0 [] s1) (fun b s2=>okq (c++b) s2))=bq o (fun ns s1=>bq (RS T F (g'+1) 4 0 [] (muQ T 5 [41] s1).2) (fun b s2=>okq (ns++b) s2)):=fun o=>by cases o <;> rfl
 show Rl2 T d r (bq (bq (RJ T F 0 0 [] (stQ (i+1) d)) _) _)
 rw [e0]
 refine rl_bq (d0:=d) h2 (fun r0 hr=>rl_e H h1 hd hr) (fun E P e=>gd_ne e) (fun ns k hk h3=>?_) (fun E P hE ns σ g=>hb E P hE ns _ (el_mu hE g))
 refine rl_sg H.fin hk (k':=fun m=>bq (RS T F (g'+1) 4 0 [] m.2) (fun b s2=>okq (ns++b) s2)) h3 (fun h4 h5=>?_) (fun E P hE t σ h=>hb E P hE ns σ h)
 exact rl_bq (d0:=d) h5 (fun r0 hr=>ih.s4 (f:=f) (by omega) h4 hd hr) (fun E P e=>gd_ne e) (fun b k2 hk2 h6=>rl_ok hk2 h6) (fun E P hE ns σ g=>kl_ok g)
theorem st1 {T : List Tk} {F g : Nat} (H : Fit T F) (ih : RlS T F g) {f i d:Nat} {acc:List Nd} {r:Rs (List Nd)} (hg:f+4≤g+1) (hi:i<T.length) (hd:d≤24) (h:PJ f 14 0 acc (T.drop i) d=some r):Rl2 T d r (RS T F (g+1) 1 0 acc (stQ i d)):=by
 obtain⟨f,rfl⟩:=fuelP h
 replace h:jPrL (PJ f) acc (T.drop i) d=some r:=h
 show Rl2 T d r (sPrL T (RS T F g) acc (stQ i d))
 unfold jPrL at h
 unfold sPrL
 rw [tk_st]
 by_cases h0:(hdT (T.drop i)).k=0
 ·rw [if_pos h0] at h
  rw [if_neg (fun e=>e.2 h0)]
  exact rl_ok hi h
 ·rw [if_neg h0] at h
  rw [if_pos ⟨rfl,h0⟩]
  exact rl_bq (d0:=d) h (fun r0 hr=>ih.s2 (f:=f) (by omega) hi hd hr) (fun E P e=>gd_ne e) (fun ns k hk h3=>ih.s1 (f:=f) (by omega) hk hd h3) (fun E P hE ns σ g1=>ks H hE (by omega) (by omega) g1)
theorem st5 {T : List Tk} {F g : Nat} (H : Fit T F) (ih : RlS T F g) {f i d:Nat} {acc:List Nd} {r:Rs (List Nd)} (hg:f+4≤g+1) (hi:i<T.length) (hd:d≤24) (h:PJ f 11 0 acc (T.drop i) d=some r):Rl2 T d r (RS T F (g+1) 5 0 acc (stQ i d)):=by
 obtain⟨f,rfl⟩:=fuelP h
 replace h:jBlL (PJ f) acc (T.drop i) d=some r:=h
 show Rl2 T d r (sBlL T (RS T F g) acc (stQ i d))
 unfold jBlL at h
 unfold sBlL
 rw [isQ_S]
 by_cases h0:isS [125] (T.drop i)=true
 ·rw [if_pos h0] at h
  rw [if_pos (.inl h0)]
  exact rl_ok hi h
 ·rw [if_neg h0] at h
  rw [if_neg (fun e=>e.elim h0 (fun e=>e rfl))]
  exact rl_bq (d0:=d) h (fun r0 hr=>ih.s6 (f:=f) (by omega) hi hd hr) (fun E P e=>gd_ne e) (fun ns k hk h3=>ih.s5 (f:=f) (by omega) hk hd h3) (fun E P hE ns σ g1=>ks H hE (by omega) (by omega) g1)
theorem st4 {T : List Tk} {F g : Nat} (H : Fit T F) (ih : RlS T F g) {f i d:Nat} {r:Rs (List Nd)} (hg:f+4≤g+1) (hi:i<T.length) (hd:d≤24) (h:PJ f 10 0 [] (T.drop i) d=some r):Rl2 T d r (RS T F (g+1) 4 0 [] (stQ i d)):=by
 obtain⟨f,rfl⟩:=fuelP h
 replace h:jBlock (PJ f) (T.drop i) d=some r:=h
 show Rl2 T d r (sBlock T (RS T F g) (stQ i d))
 unfold jBlock ent at h
 unfold sBlock
 rw [isQ_S,tk_st]
 have hb:∀E P,¬E=0→∀σ,ErL T σ E P→KeL T E P (bq (RS T F g 5 0 [] σ) (fun ks s1=>okq [nd0 4 [] ks (hdT (T.drop i)).p] (clQ T [125] s1))):=fun E P hE σ h=>kl_bq (ks H hE (by omega) (by omega) h) (fun _ _ g=>kl_ok (el_cl hE g))
 by_cases h0:isS [123] (T.drop i)=true
 ·rw [if_pos h0] at h ⊢
  by_cases h24:d=24
  ·rw [if_pos h24] at h
   cases h
   exact rl_err (hb _ _ (by decide) _ ⟨op_bad h24,opQ_l hi⟩)
  ·rw [if_neg h24] at h
   have hk5:=(ksign h0).1
   obtain⟨o1,o2,o3⟩:=op_ok (d:=d) H.fin hi (by omega) (by omega)
   rw [o1]
   replace h:bnd (PJ f 11 0 [] (T.drop i).tail (d+1)) (fun ks l2=>thn (pSg [125] l2) (fun _ l3=>okN [nd0 4 [] ks (hdT (T.drop i)).p] l3))=some r:=h
   rw [o3] at h
   refine rl_bq (d0:=d+1) h (fun r0 hr=>ih.s5 (f:=f) (by omega) o2 (by omega) hr) (fun E P e=>gd_ne e) (fun ns k hk h3=>?_) (fun E P hE ns σ g1=>kl_ok (el_cl hE g1))
   unfold pSg at h3
   by_cases h5:isS [125] (T.drop k)=true
   ·obtain⟨c1,c2,c3⟩:=cl_ok H.fin hk hd h5
    rw [if_pos h5,c3] at h3
    rw [c1]
    exact rl_ok c2 h3
   ·rw [if_neg h5] at h3
    cases h3
    exact rl_err (kl_ok ⟨cl_bad (by simpa using h5),clQ_l _ hk⟩)
 ·rw [if_neg h0] at h ⊢
  cases h
  exact rl_err (kl_ok (wr_el hi))
theorem st9 {T : List Tk} {F g : Nat} (H : Fit T F) (ih : RlS T F g) {f i d:Nat} {r:Rs (List Nd)} (hg:f+4≤g+1) (hi:i<T.length) (hd:d≤24) (hk0:¬(hdT (T.drop i)).k=0) (h:PJ f 12 0 [] (T.drop i) d=some r):Rl2 T d r (RS T F (g+1) 9 0 [] (stQ i d)):=by
 obtain⟨f,rfl⟩:=fuelP h
 replace h:jChoice (PJ f) (T.drop i) d=some r:=h
 show Rl2 T d r (sChoice T (RS T F g) (stQ i d))
 unfold jChoice at h
 unfold sChoice
 obtain⟨n1,n2,n3⟩:=nx_st (d:=d) H.fin hi hk0
 rw [n1,tk_st]
 rw [n3] at h
 rw [gd_bq (k:=fun ks s2=>if isQ T 2 [101,108,115,101] s2=true then (if isQ T 2 [105,102] (nxQ T s2)=true then bq (RS T F g 9 0 [] (nxQ T s2)) (fun x s3=>okq [nd0 7 [] (ks++x) (hdT (T.drop i)).p] s3) else bq (RS T F g 4 0 [] (nxQ T s2)) (fun x s3=>okq [nd0 7 [] (ks++x) (hdT (T.drop i)).p] s3)) else okq [nd0 7 [] ks (hdT (T.drop i)).p] s2)]
 refine rl_bq (d0:=d) h (fun r0 hr=>gd_rl H ih (f:=f) (by omega) n2 hd hr) (fun E P e=>gd_ne e) (fun ks k hk h3=>?_) (fun E P hE ns σ g1=>by rw [el_is hE g1];exact kl_ok g1)
 rw [isQ_K]
 by_cases he:isK [101,108,115,101] (T.drop k)=true
 ·rw [if_pos he] at h3 ⊢
  have hk2:(hdT (T.drop k)).k=2:=(of_decide_eq_true he).1
  obtain⟨m1,m2,m3⟩:=nx_st (d:=d) H.fin hk (by omega)
  rw [m1,isQ_K]
  rw [m3] at h3
  by_cases hf:isK [105,102] (T.drop (k+1))=true
  ·rw [if_pos hf] at h3 ⊢
   have hk3:(hdT (T.drop (k+1))).k=2:=(of_decide_eq_true hf).1
   exact rl_bq (d0:=d) h3 (fun r0 hr=>ih.s9 (f:=f) (by omega) m2 hd (by omega) hr) (fun E P e=>gd_ne e) (fun ns k hk h3=>rl_ok hk h3) (fun E P hE ns σ g=>kl_ok g)
  ·rw [if_neg hf] at h3 ⊢
   exact rl_bq (d0:=d) h3 (fun r0 hr=>ih.s4 (f:=f) (by omega) m2 hd hr) (fun E P e=>gd_ne e) (fun ns k hk h3=>rl_ok hk h3) (fun E P hE ns σ g=>kl_ok g)
 ·rw [if_neg he] at h3 ⊢
  exact rl_ok hk h3
theorem st3 {T : List Tk} {F g : Nat} (H : Fit T F) (ih : RlS T F g) {f f2 i d:Nat} {acc:List Nd} {r:Rs (List Nd)} (hg:f2+4≤g+1) (hi:i<T.length) (hd:d≤24) (h:bnd (PJ f 25 0 [] (T.drop i) d) (fun ns l1=>PJ f2 7 0 (acc++ns) l1 d)=some r):Rl2 T d r (RS T F (g+1) 3 0 acc (stQ i d)):=by
 obtain⟨f,rfl⟩:∃f1,f=f1+1:=by
  rcases bndX2 h with ⟨E,P,e2,_⟩|⟨ms,l,e2,_⟩ <;> exact fuelP e2
 replace h:bnd (jParam (T.drop i)) (fun ns l1=>PJ f2 7 0 (acc++ns) l1 d)=some r:=h
 unfold jParam at h
 have h':thn (pNm (T.drop i)) (fun t l1=>PJ f2 7 0 (acc++[nd0 3 t.t [] t.p]) l1 d)=some r:=by
  cases hp:pNm (T.drop i) with
  |error e=>rw [hp] at h;exact h
  |ok y=>rw [hp] at h;exact h
 show Rl2 T d r (sPaL T (RS T F g) acc (stQ i d))
 unfold sPaL
 rw [if_pos (show (stQ i d).e=0 from rfl)]
 refine rl_nm H.fin hi (k':=fun m=>if isQ T 5 [44] m.2=true then RS T F g 3 0 (acc++[nd0 3 m.1.t [] m.1.p]) (nxQ T m.2) else okq (acc++[nd0 3 m.1.t [] m.1.p]) m.2) h' (fun h1 h2=>?_) (fun E P hE t σ h=>by show KeL T E P (if isQ T 5 [44] σ=true then _ else _);rw [el_is hE h];exact kl_ok h)
 obtain⟨f2,rfl⟩:=fuelP h2
 replace h2:jPaL (PJ f2) 0 (acc++[nd0 3 (hdT (T.drop i)).t [] (hdT (T.drop i)).p]) (T.drop (i+1)) d=some r:=h2
 unfold jPaL at h2
 show Rl2 T d r (if isQ T 5 [44] (stQ (i+1) d)=true then _ else _)
 rw [isQ_S]
 by_cases h44:isS [44] (T.drop (i+1))=true
 ·rw [if_pos h44] at h2 ⊢
  have hk5:=(ksign h44).1
  obtain⟨m1,m2,m3⟩:=nx_st (d:=d) H.fin h1 (by omega)
  rw [m3] at h2
  show Rl2 T d r (RS T F g 3 0 _ (nxQ T (stQ (i+1) d)))
  rw [m1]
  exact ih.s3 (f:=f2) (f2:=f2) (by omega) m2 hd h2
 ·rw [if_neg h44] at h2 ⊢
  exact rl_ok h1 h2
theorem st2 {T : List Tk} {F g : Nat} (H : Fit T F) (ih : RlS T F g) {f i d:Nat} {r:Rs (List Nd)} (hg:f+4≤g+1) (hi:i<T.length) (hd:d≤24) (h:PJ f 13 0 [] (T.drop i) d=some r):Rl2 T d r (RS T F (g+1) 2 0 [] (stQ i d)):=by
 obtain⟨f,rfl⟩:=fuelP h
 replace h:jFun (PJ f) (T.drop i) d=some r:=h
 show Rl2 T d r (sFn T (RS T F g) (stQ i d))
 obtain⟨p,hp⟩:∃p,(hdT (T.drop i)).p=p:=⟨_,rfl⟩
 have K:∀(b:Bool) (i:Nat),i<T.length→jFn (PJ f) b p (T.drop i) d=some r→Rl2 T d r (bq (if isQ T 5 [41] (muQ T 5 [40] (muQ T 1 [] (muQ T 2 [102,110] (stQ i d)).2).2).2=true then okq [] (muQ T 5 [40] (muQ T 1 [] (muQ T 2 [102,110] (stQ i d)).2).2).2 else RS T F g 3 0 [] (muQ T 5 [40] (muQ T 1 [] (muQ T 2 [102,110] (stQ i d)).2).2).2) (fun ps s5=>bq (RS T F g 4 0 [] (muQ T 5 [41] s5).2) (fun bl s6=>okq [⟨2,(muQ T 1 [] (muQ T 2 [102,110] (stQ i d)).2).1.t,0,0,[],b,ps++bl,p⟩] s6))):=by
  clear h hi hp i
  intro b i hi h
  unfold jFn at h
  have e1:∀E P,¬E=0→∀(t:List UInt8) σ,ErL T σ E P→∀ps,KeL T E P (bq (RS T F g 4 0 [] (muQ T 5 [41] σ).2) (fun bl s6=>okq [⟨2,t,0,0,[],b,ps++bl,p⟩] s6)):=fun E P hE t σ h ps=>kl_bq (ks H hE (by omega) (by omega) (el_mu hE h)) (fun _ _ g=>kl_ok g)
  have e2:∀E P,¬E=0→∀(t:List UInt8) σ,ErL T σ E P→KeL T E P (bq (if isQ T 5 [41] σ=true then okq [] σ else RS T F g 3 0 [] σ) (fun ps s5=>bq (RS T F g 4 0 [] (muQ T 5 [41] s5).2) (fun bl s6=>okq [⟨2,t,0,0,[],b,ps++bl,p⟩] s6))):=fun E P hE t σ h=>kl_bq (kl_ite (kl_ok h) (ks H hE (by omega) (by omega) h)) (fun ps s5 g=>e1 E P hE t s5 g ps)
  refine rl_ky H.fin hi (k':=fun m=>bq (if isQ T 5 [41] (muQ T 5 [40] (muQ T 1 [] m.2).2).2=true then okq [] (muQ T 5 [40] (muQ T 1 [] m.2).2).2 else RS T F g 3 0 [] (muQ T 5 [40] (muQ T 1 [] m.2).2).2) (fun ps s5=>bq (RS T F g 4 0 [] (muQ T 5 [41] s5).2) (fun bl s6=>okq [⟨2,(muQ T 1 [] m.2).1.t,0,0,[],b,ps++bl,p⟩] s6))) h (fun h1 h2=>?_) (fun E P hE t σ h=>e2 E P hE _ _ (el_mu hE (el_mu hE h)))
  refine rl_nm H.fin h1 (k':=fun m=>bq (if isQ T 5 [41] (muQ T 5 [40] m.2).2=true then okq [] (muQ T 5 [40] m.2).2 else RS T F g 3 0 [] (muQ T 5 [40] m.2).2) (fun ps s5=>bq (RS T F g 4 0 [] (muQ T 5 [41] s5).2) (fun bl s6=>okq [⟨2,m.1.t,0,0,[],b,ps++bl,p⟩] s6))) h2 (fun h3 h4=>?_) (fun E P hE t σ h=>e2 E P hE _ _ (el_mu hE h))
  refine rl_sg H.fin h3 (k':=fun m=>bq (if isQ T 5 [41] m.2=true then okq [] m.2 else RS T F g 3 0 [] m.2) (fun ps s5=>bq (RS T F g 4 0 [] (muQ T 5 [41] s5).2) (fun bl s6=>okq [⟨2,(hdT (T.drop (i+1))).t,0,0,[],b,ps++bl,p⟩] s6))) h4 (fun h5 h6=>?_) (fun E P hE t σ h=>e2 E P hE _ _ h)
  refine rl_bq (d0:=d) h6 (fun r0 hr=>?_) (fun E P e=>gd_ne e) (fun ps k hk h7=>?_) (fun E P hE ps σ g1=>e1 E P hE _ σ g1 ps)
  ·obtain⟨f,rfl⟩:=fuelP hr
   replace hr:jParts (PJ f) 0 (T.drop (i+1+1+1)) d=some r0:=hr
   unfold jParts at hr
   rw [show clX 0=[41] from rfl] at hr
   show Rl2 T d r0 (if isQ T 5 [41] (stQ (i+1+1+1) d)=true then _ else _)
   rw [isQ_S]
   by_cases h41:isS [41] (T.drop (i+1+1+1))=true
   ·rw [if_pos h41] at hr ⊢
    exact rl_ok h5 hr
   ·rw [if_neg h41] at hr ⊢
    exact ih.s3 (f:=f) (f2:=f) (acc:=[]) (by omega) h5 hd hr
  ·refine rl_sg H.fin hk (k':=fun m=>bq (RS T F g 4 0 [] m.2) (fun bl s6=>okq [⟨2,(hdT (T.drop (i+1))).t,0,0,[],b,ps++bl,p⟩] s6)) h7 (fun h8 h9=>?_) (fun E P hE t σ h=>kl_bq (ks H hE (by omega) (by omega) h) (fun _ _ g=>kl_ok g))
   exact rl_bq (d0:=d) h9 (fun r0 hr=>ih.s4 (f:=f) (by omega) h8 hd hr) (fun E P e=>gd_ne e) (fun ns k hk h3=>rl_ok hk h3) (fun E P hE ns σ g=>kl_ok g)
 unfold sFn paQ nmQ xpQ
 unfold jFun at h
 rw [isQ_K,tk_st,hp]
 rw [hp] at h
 by_cases hx:isK [101,120,112,111,114,116] (T.drop i)=true
 ·have hk2:(hdT (T.drop i)).k=2:=(of_decide_eq_true hx).1
  obtain⟨n1,n2,n3⟩:=nx_st (d:=d) H.fin hi (by omega)
  rw [if_pos hx,n3] at h
  rw [if_pos hx,n1,hx]
  exact K true (i+1) n2 h
 ·rw [if_neg hx] at h
  rw [if_neg hx,show isK [101,120,112,111,114,116] (T.drop i)=false by simpa using hx]
  exact K false i hi h
theorem st6 {T : List Tk} {F g : Nat} (H : Fit T F) (ih : RlS T F g) {f i d:Nat} {r:Rs (List Nd)} (hg:f+4≤g+1) (hi:i<T.length) (hd:d≤24) (h:PJ f 9 0 [] (T.drop i) d=some r):Rl2 T d r (RS T F (g+1) 6 0 [] (stQ i d)):=by
 obtain⟨f,rfl⟩:=fuelP h
 replace h:jStat (PJ f) (T.drop i) d=some r:=h
 show Rl2 T d r (sStat T (RJ T F) (RS T F g) (stQ i d))
 unfold jStat at h
 unfold sStat
 rw [tk_st]
 have kk:∀{s:List UInt8},isK s (T.drop i)=true→¬(hdT (T.drop i)).k=0:=fun h=>by have:=(of_decide_eq_true h).1;omega
 have ee:∀{k j:Nat} {t:List UInt8},j<T.length→∀{r0:Rs (List Nd)},bnd (PJ f 0 0 [] (T.drop j) d) (fun ns l1=>thn (pSg [59] l1) (fun _ l2=>okN [nd0 k t ns (hdT (T.drop i)).p] l2))=some r0→Rl2 T d r0 (bq (RJ T F 0 0 [] (stQ j d)) (fun ns s1=>okq [nd0 k t ns (hdT (T.drop i)).p] (enQ T s1))):=fun hj r0 h=>rl_bq (d0:=d) h (fun r0 hr=>rl_e H hj hd hr) (fun E P e=>gd_ne e) (fun ns k hk h3=>rl_en H.fin hk h3) (fun E P hE ns σ g=>kl_ok (el_mu hE g))
 by_cases hs:(hdT (T.drop i)).k=1∧isS [61] (T.drop i).tail=true
 ·rw [if_pos hs] at h
  rw [if_pos (by rw [set_is H hi];exact hs)]
  obtain⟨f',rfl⟩:=fuelP h
  replace h:jSet (PJ f') (T.drop i) d=some r:=h
  unfold jSet pNm at h
  rw [if_pos hs.1] at h
  obtain⟨n1,n2,n3⟩:=nx_st (d:=d) H.fin hi (by omega)
  replace h:thn (pSg [61] (T.drop i).tail) (fun _ l2=>bnd (PJ f' 0 0 [] l2 d) (fun ns l3=>thn (pSg [59] l3) (fun _ l4=>okN [nd0 6 (hdT (T.drop i)).t ns (hdT (T.drop i)).p] l4)))=some r:=h
  unfold pSg at h
  rw [if_pos hs.2,n3] at h
  have hk5:=(ksign (by rw [←n3];exact hs.2:isS [61] (T.drop (i+1))=true)).1
  obtain⟨m1,m2,m3⟩:=nx_st (d:=d) H.fin n2 (by omega)
  rw [n1,m1]
  rw [m3] at h
  exact rl_bq (d0:=d) h (fun r0 hr=>rl_e H m2 hd hr) (fun E P e=>gd_ne e) (fun ns k hk h3=>rl_en H.fin hk h3) (fun E P hE ns σ g=>kl_ok (el_mu hE g))
 rw [if_neg hs] at h
 rw [if_neg (by rw [set_is H hi];exact hs)]
 rw [show kyQ T [108,101,116] (stQ i d)=isK [108,101,116] (T.drop i) from rfl,show kyQ T [105,102] (stQ i d)=isK [105,102] (T.drop i) from rfl,show kyQ T [119,104,105,108,101] (stQ i d)=isK [119,104,105,108,101] (T.drop i) from rfl,show kyQ T [114,101,116,117,114,110] (stQ i d)=isK [114,101,116,117,114,110] (T.drop i) from rfl,show kyQ T [98,114,101,97,107] (stQ i d)=isK [98,114,101,97,107] (T.drop i) from rfl,show kyQ T [99,111,110,116,105,110,117,101] (stQ i d)=isK [99,111,110,116,105,110,117,101] (T.drop i) from rfl]
 clear hs
 have fu:∀{j x:Nat} {l:List Tk} {r0:Rs (List Nd)},PJ f j x [] l d=some r0→∃f',f=f'+1:=fun h=>fuelP h
 by_cases h1:isK [108,101,116] (T.drop i)=true
 ·rw [if_pos h1] at h ⊢
  exact ih.s7 (f:=f) (by omega) hi hd (kk h1) h
 rw [if_neg h1] at h ⊢
 by_cases h2:isK [105,102] (T.drop i)=true
 ·rw [if_pos h2] at h ⊢
  exact ih.s9 (f:=f) (by omega) hi hd (kk h2) h
 rw [if_neg h2] at h ⊢
 by_cases h3:isK [119,104,105,108,101] (T.drop i)=true
 ·rw [if_pos h3] at h ⊢
  obtain⟨n1,n2,n3⟩:=nx_st (d:=d) H.fin hi (kk h3)
  obtain⟨f',rfl⟩:=fuelP h
  replace h:jLoop (PJ f') (T.drop i) d=some r:=h
  unfold jLoop at h
  rw [n3] at h
  rw [n1,gd_bq (k:=fun ks s2=>okq [nd0 8 [] ks (hdT (T.drop i)).p] s2)]
  exact rl_bq (d0:=d) h (fun r0 hr=>gd_rl H ih (f:=f') (by omega) n2 hd hr) (fun E P e=>gd_ne e) (fun ns k hk h3=>rl_ok hk h3) (fun E P hE ns σ g=>kl_ok g)
 rw [if_neg h3] at h ⊢
 by_cases h4:isK [114,101,116,117,114,110] (T.drop i)=true
 ·rw [if_pos h4] at h ⊢
  obtain⟨n1,n2,n3⟩:=nx_st (d:=d) H.fin hi (kk h4)
  obtain⟨f',rfl⟩:=fuelP h
  replace h:jGive (PJ f') (T.drop i) d=some r:=h
  unfold jGive at h
  rw [n3] at h
  rw [n1,isQ_S]
  by_cases h59:isS [59] (T.drop (i+1))=true
  ·rw [if_pos h59] at h ⊢
   exact rl_en H.fin n2 h
  ·rw [if_neg h59] at h ⊢
   exact rl_bq (d0:=d) h (fun r0 hr=>rl_e H n2 hd hr) (fun E P e=>gd_ne e) (fun ns k hk h3=>rl_en H.fin hk h3) (fun E P hE ns σ g=>kl_ok (el_mu hE g))
 rw [if_neg h4] at h ⊢
 by_cases h5:isK [98,114,101,97,107] (T.drop i)=true
 ·rw [if_pos h5] at h ⊢
  obtain⟨n1,n2,n3⟩:=nx_st (d:=d) H.fin hi (kk h5)
  obtain⟨f',rfl⟩:=fuelP h
  replace h:jWord 10 (T.drop i)=some r:=h
  unfold jWord at h
  rw [n3] at h
  rw [n1]
  exact rl_en H.fin n2 h
 rw [if_neg h5] at h ⊢
 by_cases h6:isK [99,111,110,116,105,110,117,101] (T.drop i)=true
 ·rw [if_pos h6] at h ⊢
  obtain⟨n1,n2,n3⟩:=nx_st (d:=d) H.fin hi (kk h6)
  obtain⟨f',rfl⟩:=fuelP h
  replace h:jWord 11 (T.drop i)=some r:=h
  unfold jWord at h
  rw [n3] at h
  rw [n1]
  exact rl_en H.fin n2 h
 rw [if_neg h6] at h ⊢
 obtain⟨f',rfl⟩:=fuelP h
 replace h:jDo (PJ f') (T.drop i) d=some r:=h
 unfold jDo at h
 exact rl_bq (d0:=d) h (fun r0 hr=>rl_e H hi hd hr) (fun E P e=>gd_ne e) (fun ns k hk h3=>rl_en H.fin hk h3) (fun E P hE ns σ g=>kl_ok (el_mu hE g))
theorem all_S {T:List Tk} {F:Nat} (H:Fit T F):∀g,RlS T F g
 |0=>⟨fun h=>by omega,fun h=>by omega,fun h=>by omega,fun h=>by omega,fun h=>by omega,fun h=>by omega,fun h=>by omega,fun h=>by omega⟩
 |g+1=>by
  have ih:=all_S H g
  exact⟨st1 H ih,st2 H ih,st3 H ih,st4 H ih,st5 H ih,st6 H ih,st7 H,st9 H ih⟩
theorem prog_S {T:List Tk} {F:Nat} (H:Fit T F) {f g:Nat} {r:Rs (List Nd)} (hg:f+4≤g) (h0:0<T.length) (h:PJ f 27 0 [] T 0=some r):Rl2 T 0 r (RS T F g 0 0 [] (stQ 0 0)):=by
 obtain⟨f,rfl⟩:=fuelP h
 obtain⟨g,rfl⟩:∃k,g=k+1:=⟨g - 1,by omega⟩
 replace h:bnd (PJ f 14 0 [] T 0) (fun ks l1=>okN [nd0 1 [] ks 0] l1)=some r:=h
 show Rl2 T 0 r (bq (RS T F g 1 0 [] (stQ 0 0)) (fun ks s1=>okq [nd0 1 [] ks 0] s1))
 exact rl_bq (d0:=0) h (fun r0 hr=>(all_S H g).s1 (f:=f) (by omega) h0 (by omega) hr) (fun E P e=>gd_ne e) (fun ns k hk h3=>rl_ok hk h3) (fun E P hE ns σ g=>kl_ok g)
end Go.Proofs.YtilhlmmcdfoaoaaGreatDoor
