import PyProof.Rows.All
import Wide.All
import OpenK.AllK
import Wide.FinOn
import HandS.Wide
import HandS.ForMost
import HandS.Defaults
import HandS.MakeKwOnly
import HandS.IsInst
import HandS.Conv
import HandS.Style
import HandS.Flow
import HandS.Codes
import HandS.Head0
import HandS.Head1
import HandS.Head2
import HandS.HeadEnd
import HandS.HeadHook1
import HandS.HeadHook2
import KE.GoesMore
import HandS.Zip
import KE.GoesEnum
import HandS.Property
import HandS.OwnEq
import HandS.MakeKw
import HandS.FStr
import HandS.StrMore
import HandS.StrSplit
import HandS.TryOnly
import PyProof.Conv_bool
import PyProof.MeetsIn
import PyProof.StrLawsIn
import PyProof.StrBlockL
import HandS.Gcd
import HandS.WideBits
import HandS.Exc
import HandS.ExcOwn
import HandS.ExcIs
import HandS.ForExc
import HandS.Small
import HandS.ExcInit
import HandS.ExcField
import HandS.HotCalls
import KE.KExcIs
import HandS.ExcInitHot
import HandS.ExcCtx
import HandS.ClsMeth
import HandS.HeadNt
import HandS.CallLocal
import PyProof.TupleOfSeq
import HandS.SortInts
import HandS.SortOrd
import PyProof.ReprRoads
import HandS.DictSub
import HandS.ExcValue
import HandS.TryMany
import HandS.SetFor
import KE.DataFind
import KE.DataEq
import PySem.Challenge.RW_answersalone_k55_splits_refused
import HandS.Head3
import HandS.Strs
import HandS.Set
import PyProof.ListStr
import PyProof.FactsAll.subtypes_3
import HandS.SetKeys
import HandS.Dict
import PyProof.DictMoreH
import PyProof.TupleOfStr
set_option Elab.async false
set_option linter.all false
set_option maxRecDepth 100000
namespace Q
open PySem PySem.Spec L2

/-- what a caller needs of a def that has no defaults -/
structure Cal (P : Program) (w : World) (K : PySem.W.Frag) (mg : Str → Option Value) (base : Heap)
    (x : Str) (k : Nat) (ps : List Str) (sp : Sp) : Prop where
  ex : ∃ (f : Addr) (fd : FuncData), FnOk P w K mg base CX0 k f fd ps sp ∧
    mg x = some (.ref f) ∧ PySem.W.keepIn K (.ref f) = true ∧ Binds K fd ps []

section
variable {X : Cx} {x : Str} {k : Nat} {ps : List Str} {sp : Sp} {e : Expr} {es : List Expr} {t : TA} {p pos : Pos}
theorem pe_cal (C : Cal X.prog X.w X.K X.mg X.base x k ps sp) (hr : Room k X.A) (hg : Gl X x) (ha : PA X (e :: es) t)
    (hd : (x == ("__debug__" : Str)) = false := by decide)
    (he : starEach (e :: es) X.env = (false, eval e X.env) :: starEach es X.env := by rfl)
    (hl : (backTo pos (starEach es X.env)).any (·.1) = false := by rfl) :
    PE X (.Call (.Name x p) (e :: es) [] pos) (tCall sp [] E0 t) := by
  obtain ⟨f, fd, F, hm, hk, hb⟩ := C.ex
  exact pe_call F hr hg hm hk hb .nil pass0 ha hd he hl
end

theorem cal_mk {P : Program} {w : World} {K : PySem.W.Frag} {mg : Str → Option Value} {base : Heap} {x q : Str} {pa : Arguments} {bd : List Stmt} {sc : Scope} {dv : List V} {kw : List (Str × V)} {k : Nat} {ps : List Str} {sp : Sp}
    (h : ∃ (f : Addr) (fd : FuncData), FunD K x q pa bd sc dv kw f fd ∧ mg x = some (.ref f))
    (ok : ∀ {f : Addr} {fd : FuncData}, FunD K x q pa bd sc dv kw f fd → FnOk P w K mg base CX0 k f fd ps sp)
    (b : ∀ {f : Addr} {fd : FuncData}, FunD K x q pa bd sc dv kw f fd → Binds K fd ps []) : Cal P w K mg base x k ps sp := by
  obtain ⟨f, fd, F, m⟩ := h
  exact ⟨f, fd, ok F, m, F.kp, b F⟩
theorem cal_mono {P : Program} {w : World} {K : PySem.W.Frag} {mg : Str → Option Value} {base : Heap} {x : Str} {j k : Nat} {ps : List Str} {sp : Sp} (C : Cal P w K mg base x j ps sp) (h : j ≤ k) : Cal P w K mg base x k ps sp := by
  obtain ⟨f, fd, F, m, kp, b⟩ := C.ex
  exact ⟨f, fd, F.mono h, m, kp, b⟩
/-- what a caller with keywords needs of a def: n values by position, the keywords ks; gV puts them (and the defaults) in the parameters' order -/
structure KCal (P : Program) (w : World) (K : PySem.W.Frag) (mg : Str → Option Value) (base : Heap) (x : Str) (k n : Nat) (ks : List Str) (gV : List V → List V → List V) (sp : Sp) : Prop where
  ex : ∃ (f : Addr) (fd : FuncData) (ps : List Str) (g : List Value → List Value → List Value), FnOk P w K mg base CX0 k f fd ps sp ∧ mg x = some (.ref f) ∧ PySem.W.keepIn K (.ref f) = true ∧ KBn K fd ps n ks g gV
theorem kcal_mk {P : Program} {w : World} {K : PySem.W.Frag} {mg : Str → Option Value} {base : Heap} {x q : Str} {pa : Arguments} {bd : List Stmt} {sc : Scope} {dv : List V} {kw : List (Str × V)} {k n : Nat} {ks ps : List Str} {sp : Sp} {gV : List V → List V → List V}
    (h : ∃ (f : Addr) (fd : FuncData), FunD K x q pa bd sc dv kw f fd ∧ mg x = some (.ref f))
    (ok : ∀ {f : Addr} {fd : FuncData}, FunD K x q pa bd sc dv kw f fd → FnOk P w K mg base CX0 k f fd ps sp)
    (b : ∀ {f : Addr} {fd : FuncData}, FunD K x q pa bd sc dv kw f fd → ∃ g, KBn K fd ps n ks g gV) : KCal P w K mg base x k n ks gV sp := by
  obtain ⟨f, fd, F, m⟩ := h
  obtain ⟨g, kb⟩ := b F
  exact ⟨f, fd, ps, g, ok F, m, F.kp, kb⟩
section
variable {X : Cx} {x : Str} {k n : Nat} {ks : List Str} {gV : List V → List V → List V} {sp : Sp} {e : Expr} {es : List Expr} {kws : List Keyword} {t tk : TA} {p pos : Pos}
theorem pe_kcal (C : KCal X.prog X.w X.K X.mg X.base x k n ks gV sp) (hr : Room k X.A) (hg : Gl X x) (ha : PA X (e :: es) t) (hkw : PK X kws tk)
    (hall : (backToKw pos (keywordEach kws X.env)).all (·.1.isSome) = true := by rfl) (hks : (backToKw pos (keywordEach kws X.env)).filterMap (·.1) = ks := by rfl)
    (hd : (x == ("__debug__" : Str)) = false := by decide) (he : starEach (e :: es) X.env = (false, eval e X.env) :: starEach es X.env := by rfl)
    (hl : ((backTo pos (starEach (e :: es) X.env)).any (·.1) || (backToKw pos (keywordEach kws X.env)).any (·.1.isNone)) = false := by rfl) :
    PE X (.Call (.Name x p) (e :: es) kws pos) (tCallN n ks.length sp gV E0 t tk) := by
  obtain ⟨f, fd, ps, g, F, hm, hk, hb⟩ := C.ex
  exact pe_callN F hr hg hm hk hb pass0 ha hkw hall hks hd he hl
theorem pe_kcal0 (C : KCal X.prog X.w X.K X.mg X.base x k 0 ks gV sp) (hr : Room k X.A) (hg : Gl X x) (hkw : PK X kws tk)
    (hall : (backToKw pos (keywordEach kws X.env)).all (·.1.isSome) = true := by rfl) (hks : (backToKw pos (keywordEach kws X.env)).filterMap (·.1) = ks := by rfl)
    (hd : (x == ("__debug__" : Str)) = false := by decide)
    (hl : ((backTo pos (starEach [] X.env)).any (·.1) || (backToKw pos (keywordEach kws X.env)).any (·.1.isNone)) = false := by rfl) :
    PE X (.Call (.Name x p) [] kws pos) (tCallN 0 ks.length sp gV E0 tNil tk) := by
  obtain ⟨f, fd, ps, g, F, hm, hk, hb⟩ := C.ex
  refine ⟨fun pins s σ H Q I h => ?_⟩
  refine wpAny_Call_Name_kw (ld_glob I hg hm ?_ hd)
  refine PySem.W.callWith_KW0 (h₀ := X.base) I.ok.mod.kin hk hall ?_ hl
  refine thn (hkw.run pos pins s σ H _ I h) fun ws s2 ⟨zs, H2, I2, rz, l1, l2, q2⟩ => ⟨I2.kIn, ?_⟩
  rw [hks]
  exact run_fnN (us := []) (vs := []) F hr hb pass0 I2 .nil rz l1 l2 q2
end
/-- what a caller needs of a method of the class at C -/
structure MCal (P : Program) (w : World) (K : PySem.W.Frag) (mg : Str → Option Value) (base : Heap) (C : Addr) (m : Str) (k : Nat) (ps : List Str) (sp : Sp) : Prop where
  ex : ∃ (f : Addr) (fd : FuncData), Meth K C m f ∧ FnOk P w K mg base CX0 k f fd ps sp ∧ Binds K fd ps []
theorem mcal_mk {P : Program} {w : World} {K : PySem.W.Frag} {mg : Str → Option Value} {base : Heap} {C : Addr} {m : Str} {x q : Str} {pa : Arguments} {bd : List Stmt} {sc : Scope} {dv : List V} {kw : List (Str × V)} {k : Nat} {ps : List Str} {sp : Sp} {f : Addr}
    (me : Meth K C m f) (h : ∃ (fd : FuncData), FunD K x q pa bd sc dv kw f fd)
    (ok : ∀ {f : Addr} {fd : FuncData}, FunD K x q pa bd sc dv kw f fd → FnOk P w K mg base CX0 k f fd ps sp)
    (b : ∀ {f : Addr} {fd : FuncData}, FunD K x q pa bd sc dv kw f fd → Binds K fd ps []) : MCal P w K mg base C m k ps sp := by
  obtain ⟨fd, F⟩ := h
  exact ⟨f, fd, me, ok F, b F⟩
/-- what a caller needs of a class that is made by its __init__ -/
structure MkC (P : Program) (w : World) (K : PySem.W.Frag) (mg : Str → Option Value) (base : Heap) (C : Addr) (k : Nat) (ps : List Str) (sp : Sp) : Prop where
  ex : ∃ (f : Addr) (fd : FuncData), Mk K C f ∧ FnOk P w K mg base CX0 k f fd ps sp ∧ Binds K fd ps []
section
variable {X : Cx} {K : PySem.W.Frag} {C : Addr} {k : Nat} {ps : List Str} {sp : Sp} {e o value : Expr} {es : List Expr} {t : TA} {ta tv : TE} {x m f : Str} {p pos pos' apos : Pos}
theorem pe_mcal {pl : Sem Bool} (he : PE X o ta) (c : Cls X.K C) (M : MCal X.prog X.w X.K X.mg X.base C m k ps sp) (hr : Room k X.A) (ha : PA X (e :: es) t)
    (hst : starEach (e :: es) X.env = (false, eval e X.env) :: starEach es X.env := by rfl) (hl : (backTo pos (starEach es X.env)).any (·.1) = false := by rfl)
    (ht : eval (.Call (.Attribute o m apos) (e :: es) [] pos) X.env = (do
      let self_ ← eval o X.env
      standAt apos.atName
      let (fn, first) ← holding [self_] (getMethod self_ m pl)
      callWith pos fn first (backTo pos (starEach (e :: es) X.env)) (backToKw pos (keywordEach [] X.env))) := by rfl) :
    PE X (.Call (.Attribute o m apos) (e :: es) [] pos) (tMeth C m sp [] E0 ta t) := by
  obtain ⟨f, fd, hm, F, hb⟩ := M.ex
  exact pe_meth he c hm F hr hb .nil pass0 ha hst hl ht
theorem pe_mcal0 {pl : Sem Bool} (he : PE X o ta) (c : Cls X.K C) (M : MCal X.prog X.w X.K X.mg X.base C m k ps sp) (hr : Room k X.A)
    (ht : eval (.Call (.Attribute o m apos) [] [] pos) X.env = (do
      let self_ ← eval o X.env
      standAt apos.atName
      let (fn, first) ← holding [self_] (getMethod self_ m pl)
      callWith pos fn first (backTo pos (starEach [] X.env)) (backToKw pos (keywordEach [] X.env))) := by rfl) :
    PE X (.Call (.Attribute o m apos) [] [] pos) (tMeth C m sp [] E0 ta tNil) := by
  obtain ⟨f, fd, hm, F, hb⟩ := M.ex
  exact pe_meth0 he c hm F hr hb .nil pass0 ht
theorem pe_mk (hm : X.mg x = some (.ref C)) (M : MkC X.prog X.w X.K X.mg X.base C k ps sp) (hr : Room (k + 1) X.A) (hg : Gl X x) (ha : PA X (e :: es) t)
    (hd : (x == ("__debug__" : Str)) = false := by decide) (he : starEach (e :: es) X.env = (false, eval e X.env) :: starEach es X.env := by rfl) (hl : (backTo pos (starEach es X.env)).any (·.1) = false := by rfl) :
    PE X (.Call (.Name x p) (e :: es) [] pos) (tMake C sp [] E0 t) := by
  obtain ⟨f, fd, hmk, F, hb⟩ := M.ex
  exact pe_make hmk F hr hg hm hb .nil pass0 ha hd he hl
theorem k_fld (ek : X.K = K) (he : PE X e ta) (hb : attributeBase e f X.env (eval e X.env) = eval e X.env) : PE X (.Attribute e f pos) (tFld K ta f) := by subst ek; exact pe_fld he hb
theorem k_sfld (ek : X.K = K) (ha : PE X o ta) (hv : PE X value tv) (hs : swapsWith value (some (.Attribute o f pos')) pos.line X.env = pure false) : PS X (.Assign [.Attribute o f pos'] value pos) (sFld K ta tv f) := by subst ek; exact ps_fld ha hv hs
end
/-- the parameters' order: the i-th of the values by position (0), of the defaults that lack (1), of the keywords (2) -/
def pick {α : Type} : List (Nat × Nat) → List α → List α → List α → List α
  | [], _, _, _ => []
  | (k, i) :: r, us, mv, ws => match (match k with | 0 => us | 1 => mv | _ => ws)[i]? with
    | some x => x :: pick r us mv ws
    | none => pick r us mv ws
theorem vals_pick : ∀ (ix : List (Nat × Nat)) {vs mz zs : List V} {us mv ws : List Value}, Vals vs us → Vals mz mv → Vals zs ws → Vals (pick ix vs mz zs) (pick ix us mv ws)
  | [], _, _, _, _, _, _, _, _, _ => .nil
  | (k, i) :: r, vs, mz, zs, us, mv, ws, h1, h2, h3 => by
    have hsel : Vals (match k with | 0 => vs | 1 => mz | _ => zs) (match k with | 0 => us | 1 => mv | _ => ws) := by
      match k with
      | 0 => exact h1
      | 1 => exact h2
      | _ + 2 => exact h3
    have ih := vals_pick r h1 h2 h3
    unfold pick
    cases e : (match k with | 0 => vs | 1 => mz | _ => zs)[i]? with
    | none =>
      rw [hsel.none_of e]
      exact ih
    | some x =>
      obtain ⟨u, hu, ru⟩ := hsel.get e
      rw [hu]
      exact .cons ru ih
theorem kbindsN {K : PySem.W.Frag} {x qual : Str} {params : Arguments} {body : List Stmt} {scope : Scope} {f : Addr} {fd : FuncData} {ps : List Str} (F : FunD K x qual params body scope [] [] f fd) (n : Nat) (ks : List Str) (ix : List (Nat × Nat))
    (h : ∀ (kV doc pm : Value) (an : Option Addr) (cdv ct : Value) (us ws : List Value), us.length = n → ws.length = ks.length →
      bindArgs (PySem.W.fnOf x qual params body scope .none kV doc pm an cdv ct) ⟨us, ks.zip ws⟩ = pure (ps.zip (pick ix us [] ws))) : ∃ g, KBn K fd ps n ks g (fun vs zs => pick ix vs [] zs) := by
  obtain ⟨oc, od, dV, kV, doc, pm, an, cdv, ct, osl, rfl, lk, hcd, hD, hK⟩ := F.ex
  rcases hD with ⟨_, rfl⟩ | ⟨e, _⟩
  · exact ⟨fun us ws => pick ix us [] ws, fun s us ws X l1 l2 => .of_eq (h kV doc pm an cdv ct us ws l1 l2), fun r1 r2 => vals_pick ix r1 .nil r2⟩
  · exact absurd rfl e
theorem kbindsK {K : PySem.W.Frag} {x qual : Str} {params : Arguments} {body : List Stmt} {scope : Scope} {kws : List (Str × V)} {f : Addr} {fd : FuncData} {ps : List Str} (F : FunD K x qual params body scope [] kws f fd) (n : Nat) (ks : List Str) (ms : List (Str × V)) (ix : List (Nat × Nat)) (hk : kws ≠ []) (hms : ∀ q ∈ ms, q ∈ kws)
    (h : ∀ (D : Addr) (doc pm : Value) (an : Option Addr) (cdv ct : Value) (us mv ws : List Value), us.length = n → mv.length = ms.length → ws.length = ks.length →
      KwChain D ((ms.map (·.1)).zip mv) (bindArgs (PySem.W.fnOf x qual params body scope .none (.ref D) doc pm an cdv ct) ⟨us, ks.zip ws⟩) (ps.zip (pick ix us mv ws))) : ∃ g, KBn K fd ps n ks g (fun vs zs => pick ix vs (ms.map (·.2)) zs) := by
  obtain ⟨mv, hb⟩ := F.kbinds0 n ks ms (fun us mv ws => pick ix us mv ws) hk hms (fun h1 h2 h3 => vals_pick ix h1 h2 h3) h
  exact ⟨_, hb⟩
/-- all but a stays -/
def Chg (a : Addr) (H H' : Hp) : Prop := ∀ b o, b ≠ a → H b = some o → H' b = some o
theorem Chg.refl {a : Addr} {H : Hp} : Chg a H H := fun _ _ _ h => h
theorem Chg.trans {a : Addr} {H H1 H2 : Hp} (x : Chg a H H1) (y : Chg a H1 H2) : Chg a H H2 := fun b o n h => y b o n (x b o n h)
theorem Chg.upd {a : Addr} {H : Hp} {o : HO} : Chg a H (upd H a o) := fun b _ n h => by rw [upd_ne n]; exact h
theorem Chg.new {a p : Addr} {H : Hp} {o : HO} (hp : H p = none) : Chg a H (L2.upd H p o) := fun b u _ h => by
  rw [upd_ne (ne_of_none h hp)]; exact h
theorem Same.chg {a : Addr} {H H' : Hp} (s : Same H H') : Chg a H H' := fun b o _ h => s b o h
theorem sm_chg {a : Addr} {H H' : Hp} (s : L2.Same H H') : Chg a H H' := fun b o _ h => s b o h
theorem same_new {H : Hp} {p : Addr} {o : HO} (hp : H p = none) : Same H (L2.upd H p o) := fun b u h => by
  rw [upd_ne (ne_of_none h hp)]; exact h

/-- a step of the walk that asks nothing else: found by its head -/
class Step (A : Prop) (B : outParam Prop) : Prop where
  imp : B → A
/-! ### readings, step by step: each g_.. takes one head away -/
section
variable {D : Ends} {σ : L2.St} {H : Hp} {Q : VK} {QB : Bool → Hp → Prop} {QL : List V → Hp → Prop}
theorem g_seq {t u : TS} (h : t { D with nx := u D } σ H) : tSeq t u D σ H := h
instance st_g_seq {t u : TS} : Step (tSeq t u D σ H) (t { D with nx := u D } σ H) := ⟨fun z => g_seq z⟩
theorem g_asg {te : TE} {g : TG} (h : te σ H fun x H1 => g x σ H1 D.nx) : tAsg te g D σ H := h
instance st_g_asg {te : TE} {g : TG} : Step (tAsg te g D σ H) (te σ H fun x H1 => g x σ H1 D.nx) := ⟨fun z => g_asg z⟩
def ParR (i j : Nat) (D : Ends) (σ : L2.St) (vs : List V) (H1 : Hp) : Prop := ∃ v w, vs = [v, w] ∧ D.nx ((σ.set i (some v)).set j (some w)) H1
theorem g_par {i j : Nat} {ta : TA} (h : ta σ H (ParR i j D σ)) : tPar i j ta D σ H := h
instance st_g_par {i j : Nat} {ta : TA} : Step (tPar i j ta D σ H) (ta σ H (ParR i j D σ)) := ⟨fun z => g_par z⟩
theorem g_parR {i j : Nat} {v w : V} (h : gName i v σ H fun σ1 H1 => gName j w σ1 H1 D.nx) : ParR i j D σ [v, w] H := ⟨v, w, rfl, h⟩
instance st_g_parR {i j : Nat} {v w : V} : Step (ParR i j D σ [v, w] H) (gName i v σ H fun σ1 H1 => gName j w σ1 H1 D.nx) := ⟨fun z => g_parR z⟩
def ParR3 (i j l : Nat) (D : Ends) (σ : L2.St) (vs : List V) (H1 : Hp) : Prop := ∃ v w u, vs = [v, w, u] ∧ D.nx (((σ.set i (some v)).set j (some w)).set l (some u)) H1
theorem g_par3 {i j l : Nat} {ta : TA} (h : ta σ H (ParR3 i j l D σ)) : tPar3 i j l ta D σ H := h
instance st_g_par3 {i j l : Nat} {ta : TA} : Step (tPar3 i j l ta D σ H) (ta σ H (ParR3 i j l D σ)) := ⟨fun z => g_par3 z⟩
theorem g_parR3 {i j l : Nat} {v w u : V} (h : gName i v σ H fun σ1 H1 => gName j w σ1 H1 fun σ2 H2 => gName l u σ2 H2 D.nx) : ParR3 i j l D σ [v, w, u] H := ⟨v, w, u, rfl, h⟩
instance st_g_parR3 {i j l : Nat} {v w u : V} : Step (ParR3 i j l D σ [v, w, u] H) (gName i v σ H fun σ1 H1 => gName j w σ1 H1 fun σ2 H2 => gName l u σ2 H2 D.nx) := ⟨fun z => g_parR3 z⟩
theorem g_aug {i : Nat} {te : TE} {ti : TIp} (h : tVar i σ H fun x _ => te σ H fun y H1 => ti x y H1 fun z H2 => gName i z σ H2 D.nx) : tAug i te ti D σ H := h
instance st_g_aug {i : Nat} {te : TE} {ti : TIp} : Step (tAug i te ti D σ H) (tVar i σ H fun x _ => te σ H fun y H1 => ti x y H1 fun z H2 => gName i z σ H2 D.nx) := ⟨fun z => g_aug z⟩
theorem g_ipI {f : Int → Int → Int} {i j : Int} (h : Q (.int (f i j)) H) : ipI f (.int i) (.int j) H Q := ⟨i, j, rfl, rfl, h⟩
instance st_g_ipI {f : Int → Int → Int} {i j : Int} : Step (ipI f (.int i) (.int j) H Q) (Q (.int (f i j)) H) := ⟨fun z => g_ipI z⟩
theorem g_ifS {c : TT} {t u : TS} (h : c σ H fun b H1 => if b = true then t D σ H1 else u D σ H1) : tIfS c t u D σ H := h
instance st_g_ifS {c : TT} {t u : TS} : Step (tIfS c t u D σ H) (c σ H fun b H1 => if b = true then t D σ H1 else u D σ H1) := ⟨fun z => g_ifS z⟩
theorem g_ret {te : TE} (h : te σ H D.rt) : tRet te D σ H := h
instance st_g_ret {te : TE} : Step (tRet te D σ H) (te σ H D.rt) := ⟨fun z => g_ret z⟩
theorem g_retN (h : D.rt .non H) : tRetN D σ H := h
instance st_g_retN : Step (tRetN D σ H) (D.rt .non H) := ⟨fun z => g_retN z⟩
theorem g_drop {te : TE} (h : te σ H fun _ H1 => D.nx σ H1) : tDrop te D σ H := h
instance st_g_drop {te : TE} : Step (tDrop te D σ H) (te σ H fun _ H1 => D.nx σ H1) := ⟨fun z => g_drop z⟩
theorem g_next (h : D.nx σ H) : tNext D σ H := h
instance st_g_next : Step (tNext D σ H) (D.nx σ H) := ⟨fun z => g_next z⟩
theorem g_brk (h : D.bk σ H) : tBreak D σ H := h
instance st_g_brk : Step (tBreak D σ H) (D.bk σ H) := ⟨fun z => g_brk z⟩
theorem g_cont (h : D.ct σ H) : tCont D σ H := h
instance st_g_cont : Step (tCont D σ H) (D.ct σ H) := ⟨fun z => g_cont z⟩
theorem g_c {v : V} (h : Q v H) : tC v σ H Q := h
instance st_g_c {v : V} : Step (tC v σ H Q) (Q v H) := ⟨fun z => g_c z⟩
theorem g_op {r : R2} {ta tb : TE} (h : ta σ H fun x H1 => tb σ H1 fun y H2 => r x y H2 Q) : tOp r ta tb σ H Q := h
instance st_g_op {r : R2} {ta tb : TE} : Step (tOp r ta tb σ H Q) (ta σ H fun x H1 => tb σ H1 fun y H2 => r x y H2 Q) := ⟨fun z => g_op z⟩
theorem g_un {r : V → Hp → VK → Prop} {ta : TE} (h : ta σ H fun x H1 => r x H1 Q) : tUn r ta σ H Q := h
instance st_g_un {r : V → Hp → VK → Prop} {ta : TE} : Step (tUn r ta σ H Q) (ta σ H fun x H1 => r x H1 Q) := ⟨fun z => g_un z⟩
theorem g_cb {r : List V → Hp → VK → Prop} {t : TA} (h : t σ H fun vs H1 => r vs H1 Q) : tCB r t σ H Q := h
instance st_g_cb {r : List V → Hp → VK → Prop} {t : TA} : Step (tCB r t σ H Q) (t σ H fun vs H1 => r vs H1 Q) := ⟨fun z => g_cb z⟩
theorem g_nil (h : QL [] H) : tNil σ H QL := h
instance st_g_nil : Step (tNil σ H QL) (QL [] H) := ⟨fun z => g_nil z⟩
theorem g_cons {ta : TE} {t : TA} (h : ta σ H fun x H1 => t σ H1 fun xs H2 => QL (x :: xs) H2) : tCons ta t σ H QL := h
instance st_g_cons {ta : TE} {t : TA} : Step (tCons ta t σ H QL) (ta σ H fun x H1 => t σ H1 fun xs H2 => QL (x :: xs) H2) := ⟨fun z => g_cons z⟩
def NewL (Q : VK) (xs : List V) (H1 : Hp) : Prop := xs.length ≤ sizeLine ∧ ∀ p, H1 p = none → Q (.ref p) (upd H1 p (.lst xs))
def NewT (Q : VK) (xs : List V) (H1 : Hp) : Prop := xs.length ≤ sizeLine ∧ ∀ p, H1 p = none → Q (.ref p) (upd H1 p (.tup xs))
theorem g_lst {t : TA} (h : t σ H fun xs H1 => NewL Q xs H1) : tLst t σ H Q := h
instance st_g_lst {t : TA} : Step (tLst t σ H Q) (t σ H fun xs H1 => NewL Q xs H1) := ⟨fun z => g_lst z⟩
theorem g_tup {t : TA} (h : t σ H fun xs H1 => NewT Q xs H1) : tTup t σ H Q := h
instance st_g_tup {t : TA} : Step (tTup t σ H Q) (t σ H fun xs H1 => NewT Q xs H1) := ⟨fun z => g_tup z⟩
theorem g_newL {xs : List V} (l : xs.length ≤ 1000) (h : ∀ p, H p = none → Q (.ref p) (upd H p (.lst xs))) : NewL Q xs H := ⟨Nat.le_of_lt (small1000 l), h⟩
theorem g_newT {xs : List V} (l : xs.length ≤ 1000) (h : ∀ p, H p = none → Q (.ref p) (upd H p (.tup xs))) : NewT Q xs H := ⟨Nat.le_of_lt (small1000 l), h⟩
theorem g_call {sp : Sp} {E : XK} {t : TA} (h : t σ H fun vs H1 => sp vs H1 Q E) : tCall sp [] E t σ H Q := by
  show t σ H fun vs H1 => sp (vs ++ []) H1 Q E
  simp only [List.append_nil]
  exact h
instance st_g_call {sp : Sp} {E : XK} {t : TA} : Step (tCall sp [] E t σ H Q) (t σ H fun vs H1 => sp vs H1 Q E) := ⟨fun z => g_call z⟩
theorem g_if {t : TT} {ta tb : TE} (h : t σ H fun c H1 => if c = true then ta σ H1 Q else tb σ H1 Q) : tIf t ta tb σ H Q := h
instance st_g_if {t : TT} {ta tb : TE} : Step (tIf t ta tb σ H Q) (t σ H fun c H1 => if c = true then ta σ H1 Q else tb σ H1 Q) := ⟨fun z => g_if z⟩
theorem g_andV {ta tb : TE} (h : ta σ H fun x H1 => ∃ c, x = .bl c ∧ if c = true then tb σ H1 Q else Q (.bl false) H1) : tAndV ta tb σ H Q := h
instance st_g_andV {ta tb : TE} : Step (tAndV ta tb σ H Q) (ta σ H fun x H1 => ∃ c, x = .bl c ∧ if c = true then tb σ H1 Q else Q (.bl false) H1) := ⟨fun z => g_andV z⟩
theorem g_orV {ta tb : TE} (h : ta σ H fun x H1 => ∃ c, x = .bl c ∧ if c = true then Q (.bl true) H1 else tb σ H1 Q) : tOrV ta tb σ H Q := h
instance st_g_orV {ta tb : TE} : Step (tOrV ta tb σ H Q) (ta σ H fun x H1 => ∃ c, x = .bl c ∧ if c = true then Q (.bl true) H1 else tb σ H1 Q) := ⟨fun z => g_orV z⟩
def ChR (r : R2) (tc : TE) (σ : L2.St) (Q : VK) (y z : V) (H3 : Hp) : Prop := ∃ k, z = .bl k ∧ (if k = true then tc σ H3 fun w H4 => r y w H4 Q else Q (.bl false) H3)
theorem g_chain {r r' : R2} {ta tb tc : TE} (h : ta σ H fun x H1 => tb σ H1 fun y H2 => r x y H2 (ChR r' tc σ Q y)) : tChain r r' ta tb tc σ H Q := h
instance st_g_chain {r r' : R2} {ta tb tc : TE} : Step (tChain r r' ta tb tc σ H Q) (ta σ H fun x H1 => tb σ H1 fun y H2 => r x y H2 (ChR r' tc σ Q y)) := ⟨fun z => g_chain z⟩
theorem g_chR {r : R2} {tc : TE} {y : V} {b : Bool} (h : if b = true then tc σ H fun w H4 => r y w H4 Q else Q (.bl false) H) : ChR r tc σ Q y (.bl b) H := ⟨b, rfl, h⟩
instance st_g_chR {r : R2} {tc : TE} {y : V} {b : Bool} : Step (ChR r tc σ Q y (.bl b) H) (if b = true then tc σ H fun w H4 => r y w H4 Q else Q (.bl false) H) := ⟨fun z => g_chR z⟩
theorem g_notV {ta : TE} (h : ta σ H fun x H1 => ∃ c, x = .bl c ∧ Q (.bl (!c)) H1) : tNotV ta σ H Q := h
instance st_g_notV {ta : TE} : Step (tNotV ta σ H Q) (ta σ H fun x H1 => ∃ c, x = .bl c ∧ Q (.bl (!c)) H1) := ⟨fun z => g_notV z⟩
theorem g_b {t : TE} (h : t σ H fun x H1 => ∃ c, x = .bl c ∧ QB c H1) : tB t σ H QB := h
instance st_g_b {t : TE} : Step (tB t σ H QB) (t σ H fun x H1 => ∃ c, x = .bl c ∧ QB c H1) := ⟨fun z => g_b z⟩
theorem g_test {t : TE} (h : t σ H fun x H1 => ∃ c, x = .bl c ∧ QB c H1) : tTest t σ H QB := h
instance st_g_test {t : TE} : Step (tTest t σ H QB) (t σ H fun x H1 => ∃ c, x = .bl c ∧ QB c H1) := ⟨fun z => g_test z⟩
theorem g_and {t u : TT} (h : t σ H fun c H1 => if c = true then u σ H1 QB else QB false H1) : tAnd t u σ H QB := h
instance st_g_and {t u : TT} : Step (tAnd t u σ H QB) (t σ H fun c H1 => if c = true then u σ H1 QB else QB false H1) := ⟨fun z => g_and z⟩
theorem g_or {t u : TT} (h : t σ H fun c H1 => if c = true then QB true H1 else u σ H1 QB) : tOr t u σ H QB := h
instance st_g_or {t u : TT} : Step (tOr t u σ H QB) (t σ H fun c H1 => if c = true then QB true H1 else u σ H1 QB) := ⟨fun z => g_or z⟩
theorem g_not {t : TT} (h : t σ H fun c H1 => QB (!c) H1) : tNot t σ H QB := h
instance st_g_not {t : TT} : Step (tNot t σ H QB) (t σ H fun c H1 => QB (!c) H1) := ⟨fun z => g_not z⟩
theorem g_yes (h : QB true H) : tYes σ H QB := h
instance st_g_yes : Step (tYes σ H QB) (QB true H) := ⟨fun z => g_yes z⟩
theorem g_bl {b : Bool} {R : Bool → Prop} (h : R b) : ∃ c, V.bl b = V.bl c ∧ R c := ⟨b, rfl, h⟩
instance st_g_bl {b : Bool} {R : Bool → Prop} : Step (∃ c, V.bl b = V.bl c ∧ R c) (R b) := ⟨fun z => g_bl z⟩
theorem g_sub {to ti : TE} {t : TSet} {v : V} {N : L2.St → Hp → Prop} (h : to σ H fun o H1 => ti σ H1 fun i H2 => t o i v H2 fun H3 => N σ H3) : gSub to ti t v σ H N := h
instance st_g_sub {to ti : TE} {t : TSet} {v : V} {N : L2.St → Hp → Prop} : Step (gSub to ti t v σ H N) (to σ H fun o H1 => ti σ H1 fun i H2 => t o i v H2 fun H3 => N σ H3) := ⟨fun z => g_sub z⟩
def KArg (n m : Nat) (sp : Sp) (gV : List V → List V → List V) (E : XK) (Q : VK) (vs zs : List V) (H : Hp) : Prop := vs.length = n ∧ zs.length = m ∧ sp (gV vs zs) H Q E
theorem g_callN {n m : Nat} {sp : Sp} {gV : List V → List V → List V} {E : XK} {t tk : TA} (h : t σ H fun vs H1 => tk σ H1 fun zs H2 => KArg n m sp gV E Q vs zs H2) : tCallN n m sp gV E t tk σ H Q := h
instance st_g_callN {n m : Nat} {sp : Sp} {gV : List V → List V → List V} {E : XK} {t tk : TA} : Step (tCallN n m sp gV E t tk σ H Q) (t σ H fun vs H1 => tk σ H1 fun zs H2 => KArg n m sp gV E Q vs zs H2) := ⟨fun z => g_callN z⟩
theorem g_kArg {n m : Nat} {sp : Sp} {gV : List V → List V → List V} {E : XK} {vs zs ws : List V} (h1 : vs.length = n) (h2 : zs.length = m) (e : gV vs zs = ws) (h : sp ws H Q E) : KArg n m sp gV E Q vs zs H := ⟨h1, h2, by rw [e]; exact h⟩
def BmR (K : PySem.W.Frag) (T : String) (r : V → List V → Hp → VK → Prop) (t : TA) (σ : L2.St) (Q : VK) (x : V) (H1 : Hp) : Prop := tyV K T x H1 ∧ t σ H1 fun xs H2 => r x xs H2 Q
theorem g_bm {K : PySem.W.Frag} {T : String} {r : V → List V → Hp → VK → Prop} {to : TE} {t : TA} (h : to σ H (BmR K T r t σ Q)) : tBM K T r to t σ H Q := h
instance st_g_bm {K : PySem.W.Frag} {T : String} {r : V → List V → Hp → VK → Prop} {to : TE} {t : TA} : Step (tBM K T r to t σ H Q) (to σ H (BmR K T r t σ Q)) := ⟨fun z => g_bm z⟩
theorem g_bmL {K : PySem.W.Frag} {r : V → List V → Hp → VK → Prop} {t : TA} {p : Addr} {xs : List V} (h : SqL K H p xs) (q : t σ H fun ys H2 => r (.ref p) ys H2 Q) : BmR K "list" r t σ Q (.ref p) H := ⟨.inl ⟨rfl, xs, h⟩, q⟩
def FldR (K : PySem.W.Frag) (f : Str) (Q : VK) (x : V) (H1 : Hp) : Prop := ∃ a C dx fs v, x = .ref a ∧ H1 a = some (.ins C dx fs) ∧ Cls K C ∧ NoAttr K C f ∧ fs.lookup f = some v ∧ Q v H1
theorem g_fld {K : PySem.W.Frag} {ta : TE} {f : Str} (h : ta σ H (FldR K f Q)) : tFld K ta f σ H Q := h
instance st_g_fld {K : PySem.W.Frag} {ta : TE} {f : Str} : Step (tFld K ta f σ H Q) (ta σ H (FldR K f Q)) := ⟨fun z => g_fld z⟩
theorem g_fldR {K : PySem.W.Frag} {f : Str} {a C dx : Addr} {fs : List (Str × V)} {v : V} (h : H a = some (.ins C dx fs)) (c : Cls K C) (n : NoAttr K C f) (l : fs.lookup f = some v) (q : Q v H) : FldR K f Q (.ref a) H := ⟨a, C, dx, fs, v, rfl, h, c, n, l, q⟩
def MethR (C : Addr) (m : Str) (sp : Sp) (E : XK) (t : TA) (σ : L2.St) (Q : VK) (x : V) (H1 : Hp) : Prop := ∃ a dx fs, x = .ref a ∧ H1 a = some (.ins C dx fs) ∧ fs.lookup m = none ∧ t σ H1 fun vs H2 => sp (x :: vs) H2 Q E
theorem g_meth {C : Addr} {m : Str} {sp : Sp} {E : XK} {ta : TE} {t : TA} (h : ta σ H (MethR C m sp E t σ Q)) : tMeth C m sp [] E ta t σ H Q := by
  show ta σ H fun x H1 => ∃ a dx fs, x = .ref a ∧ H1 a = some (.ins C dx fs) ∧ fs.lookup m = none ∧ t σ H1 fun vs H2 => sp (x :: (vs ++ [])) H2 Q E
  simp only [List.append_nil]
  exact h
instance st_g_meth {C : Addr} {m : Str} {sp : Sp} {E : XK} {ta : TE} {t : TA} : Step (tMeth C m sp [] E ta t σ H Q) (ta σ H (MethR C m sp E t σ Q)) := ⟨fun z => g_meth z⟩
theorem g_methR {C : Addr} {m : Str} {sp : Sp} {E : XK} {t : TA} {a dx : Addr} {fs : List (Str × V)} (h : H a = some (.ins C dx fs)) (l : fs.lookup m = none) (q : t σ H fun vs H2 => sp (.ref a :: vs) H2 Q E) : MethR C m sp E t σ Q (.ref a) H := ⟨a, dx, fs, rfl, h, l, q⟩
def SFldR (K : PySem.W.Frag) (f : Str) (D : Ends) (σ : L2.St) (y x : V) (H2 : Hp) : Prop := ∃ a C dx fs, x = .ref a ∧ H2 a = some (.ins C dx fs) ∧ Cls K C ∧ NoAttr K C f ∧ fs.length < 1000 ∧ D.nx σ (upd H2 a (.ins C dx (putF f y fs)))
theorem g_sfld {K : PySem.W.Frag} {ta tv : TE} {f : Str} (h : tv σ H fun y H1 => ta σ H1 (SFldR K f D σ y)) : sFld K ta tv f D σ H := h
instance st_g_sfld {K : PySem.W.Frag} {ta tv : TE} {f : Str} : Step (sFld K ta tv f D σ H) (tv σ H fun y H1 => ta σ H1 (SFldR K f D σ y)) := ⟨fun z => g_sfld z⟩
theorem g_sfldR {K : PySem.W.Frag} {f : Str} {a C dx : Addr} {fs : List (Str × V)} {y : V} (h : H a = some (.ins C dx fs)) (c : Cls K C) (n : NoAttr K C f) (l : fs.length < 1000) (q : D.nx σ (upd H a (.ins C dx (putF f y fs)))) : SFldR K f D σ y (.ref a) H := ⟨a, C, dx, fs, rfl, h, c, n, l, q⟩
/-! values -/
theorem g_rI0 {g : Int → Int → V} {i j : Int} (h : Q (g i j) H) : rI0 g (.int i) (.int j) H Q := ⟨i, j, rfl, rfl, h⟩
instance st_g_rI0 {g : Int → Int → V} {i j : Int} : Step (rI0 g (.int i) (.int j) H Q) (Q (g i j) H) := ⟨fun z => g_rI0 z⟩
theorem g_rI {C : Int → Int → Prop} {g : Int → Int → V} {i j : Int} (c : C i j) (h : Q (g i j) H) : rI C g (.int i) (.int j) H Q := ⟨i, j, rfl, rfl, c, h⟩
theorem g_rU {g : Int → V} {i : Int} (h : Q (g i) H) : rU g (.int i) H Q := ⟨i, rfl, h⟩
instance st_g_rU {g : Int → V} {i : Int} : Step (rU g (.int i) H Q) (Q (g i) H) := ⟨fun z => g_rU z⟩
theorem g_eqI {i j : Int} (h : Q (.bl (decide (i = j))) H) : rEq (.int i) (.int j) H Q :=
  ⟨rfl, by rw [show decide (V.int i = V.int j) = decide (i = j) from by simp only [V.int.injEq]]; exact h⟩
instance st_g_eqI {i j : Int} : Step (rEq (.int i) (.int j) H Q) (Q (.bl (decide (i = j))) H) := ⟨fun z => g_eqI z⟩
theorem g_neI {i j : Int} (h : Q (.bl (!decide (i = j))) H) : rNe (.int i) (.int j) H Q :=
  ⟨rfl, by rw [show decide (V.int i = V.int j) = decide (i = j) from by simp only [V.int.injEq]]; exact h⟩
instance st_g_neI {i j : Int} : Step (rNe (.int i) (.int j) H Q) (Q (.bl (!decide (i = j))) H) := ⟨fun z => g_neI z⟩
theorem g_eqS {i j : Str} (h : Q (.bl (decide (i = j))) H) : rEq (.str i) (.str j) H Q :=
  ⟨rfl, by rw [show decide (V.str i = V.str j) = decide (i = j) from by simp only [V.str.injEq]]; exact h⟩
instance st_g_eqS {i j : Str} : Step (rEq (.str i) (.str j) H Q) (Q (.bl (decide (i = j))) H) := ⟨fun z => g_eqS z⟩
theorem g_eqB {i j : Bool} (h : Q (.bl (decide (i = j))) H) : rEq (.bl i) (.bl j) H Q :=
  ⟨rfl, by rw [show decide (V.bl i = V.bl j) = decide (i = j) from by simp only [V.bl.injEq]]; exact h⟩
instance st_g_eqB {i j : Bool} : Step (rEq (.bl i) (.bl j) H Q) (Q (.bl (decide (i = j))) H) := ⟨fun z => g_eqB z⟩
theorem g_neB {i j : Bool} (h : Q (.bl (!decide (i = j))) H) : rNe (.bl i) (.bl j) H Q :=
  ⟨rfl, by rw [show decide (V.bl i = V.bl j) = decide (i = j) from by simp only [V.bl.injEq]]; exact h⟩
instance st_g_neB {i j : Bool} : Step (rNe (.bl i) (.bl j) H Q) (Q (.bl (!decide (i = j))) H) := ⟨fun z => g_neB z⟩
theorem g_isN {x : V} (h : Q (.bl (decide (x = .non))) H) : (∃ _ : Unit, True) ∧ Q (.bl (decide (x = .non))) H := ⟨⟨(), trivial⟩, h⟩
theorem g_ixL {K : PySem.W.Frag} {p : Addr} {xs : List V} {i : Int} {v : V} (h : SqL K H p xs) (e : atI xs i = some v) (q : Q v H) : rIxL K (.ref p) (.int i) H Q := ⟨p, xs, i, v, rfl, rfl, h, e, q⟩
theorem g_setL {p : Addr} {xs : List V} {k : Int} {j : Nat} {v : V} {N : Hp → Prop} (h : H p = some (.lst xs)) (e : ixN xs.length k = some j) (q : N (upd H p (.lst (xs.set j v)))) : rSetL (.ref p) (.int k) v H N := ⟨p, xs, k, j, rfl, rfl, h, e, q⟩
theorem g_p6 (h : Q (.int 1000000) H) : rI CPow (fun i j => V.int (i ^ j.toNat)) (.int 10) (.int 6) H Q := ⟨10, 6, rfl, rfl, ⟨by decide, by decide, by decide⟩, h⟩
instance st_g_p6 : Step (rI CPow (fun i j => V.int (i ^ j.toNat)) (.int 10) (.int 6) H Q) (Q (.int 1000000) H) := ⟨fun z => g_p6 z⟩
theorem g_p18 (h : Q (.int 1000000000000000000) H) : rI CPow (fun i j => V.int (i ^ j.toNat)) (.int 10) (.int 18) H Q := ⟨10, 18, rfl, rfl, ⟨by decide, by decide, by decide⟩, h⟩
instance st_g_p18 : Step (rI CPow (fun i j => V.int (i ^ j.toNat)) (.int 10) (.int 18) H Q) (Q (.int 1000000000000000000) H) := ⟨fun z => g_p18 z⟩
theorem g_sl {r : V → Option Int → Option Int → Hp → VK → Prop} {te : TE} {tl th : TO} (h : te σ H fun x H1 => tl σ H1 fun l H2 => th σ H2 fun u H3 => r x l u H3 Q) : tSl r te tl th σ H Q := h
instance st_g_sl {r : V → Option Int → Option Int → Hp → VK → Prop} {te : TE} {tl th : TO} : Step (tSl r te tl th σ H Q) (te σ H fun x H1 => tl σ H1 fun l H2 => th σ H2 fun u H3 => r x l u H3 Q) := ⟨fun z => g_sl z⟩
def PartR (x : V) (R : Option Int → Hp → Prop) (H : Hp) : Prop := ∃ i, x = .int i ∧ R (some i) H
theorem g_part {te : TE} {R : Option Int → Hp → Prop} (h : te σ H fun x H1 => PartR x R H1) : tPart te σ H R := h
instance st_g_part {te : TE} {R : Option Int → Hp → Prop} : Step (tPart te σ H R) (te σ H fun x H1 => PartR x R H1) := ⟨fun z => g_part z⟩
theorem g_partI {i : Int} {R : Option Int → Hp → Prop} (h : R (some i) H) : PartR (.int i) R H := ⟨i, rfl, h⟩
instance st_g_partI {i : Int} {R : Option Int → Hp → Prop} : Step (PartR (.int i) R H) (R (some i) H) := ⟨fun z => g_partI z⟩
theorem g_cat {l b : Addr} {xs zs : List V} (h1 : H l = some (.lst xs)) (h2 : H b = some (.lst zs)) (hl : xs.length + zs.length ≤ 1000) (q : ∀ p, H p = none → Q (.ref p) (upd H p (.lst (xs ++ zs)))) : rCat (.ref l) (.ref b) H Q :=
  ⟨l, b, xs, zs, rfl, rfl, h1, h2, Nat.le_of_lt (small1000 hl), q⟩
theorem g_ixS {K : PySem.W.Frag} {p : Addr} {xs : List V} {i : Int} {v : V} (h : SqL K H p xs) (e : atI xs i = some v) (q : Q v H) : rIxL K (.ref p) (.int i) H Q := g_ixL h e q
theorem g_noPart {R : Option Int → Hp → Prop} (h : R none H) : tNoPart σ H R := h
instance st_g_noPart {R : Option Int → Hp → Prop} : Step (tNoPart σ H R) (R none H) := ⟨fun z => g_noPart z⟩
theorem g_slL {K : PySem.W.Frag} {a : Addr} {xs : List V} {lo hi : Option Int} (h : SqL K H a xs) (q : ∀ p, H p = none → Q (.ref p) (upd H p (.lst (cutV xs lo hi)))) : rSlL K (.ref a) lo hi H Q := ⟨a, xs, rfl, h, q⟩
theorem g_in {K : PySem.W.Frag} {p : Addr} {x : V} {xs : List V} (h : SqL K H p xs ∨ SqT K H p xs) (fx : flatV x = true) (fs : xs.all flatV = true) (q : Q (.bl (inV x xs)) H) : rIn K false x (.ref p) H Q := ⟨p, xs, rfl, h, fx, fs, q⟩
theorem g_notin {K : PySem.W.Frag} {p : Addr} {x : V} {xs : List V} (h : SqL K H p xs ∨ SqT K H p xs) (fx : flatV x = true) (fs : xs.all flatV = true) (q : Q (.bl (!inV x xs)) H) : rIn K true x (.ref p) H Q := ⟨p, xs, rfl, h, fx, fs, q⟩
theorem flat_ints (ns : List Int) : (ns.map V.int).all flatV = true := by
  induction ns with
  | nil => rfl
  | cons n r ih => rw [List.map_cons, List.all_cons, ih]; rfl
theorem in_ints (i : Int) (ns : List Int) : inV (.int i) (ns.map V.int) = decide (i ∈ ns) := by
  unfold inV
  induction ns with
  | nil => rfl
  | cons n r ih =>
    rw [List.map_cons, List.any_cons, ih]
    show (n == i || decide (i ∈ r)) = decide (i ∈ n :: r)
    by_cases e : n = i
    · subst e; simp
    · have e2 : ¬ i = n := fun z => e z.symm
      simp [e, e2]
theorem g_inI {K : PySem.W.Frag} {p : Addr} {i : Int} {ns : List Int} (h : SqL K H p (ns.map V.int) ∨ SqT K H p (ns.map V.int)) (q : Q (.bl (decide (i ∈ ns))) H) : rIn K false (.int i) (.ref p) H Q :=
  g_in h rfl (flat_ints ns) (by rw [in_ints]; exact q)
theorem g_notinI {K : PySem.W.Frag} {p : Addr} {i : Int} {ns : List Int} (h : SqL K H p (ns.map V.int) ∨ SqT K H p (ns.map V.int)) (q : Q (.bl (!decide (i ∈ ns))) H) : rIn K true (.int i) (.ref p) H Q :=
  g_notin h rfl (flat_ints ns) (by rw [in_ints]; exact q)
/-! tests known and open -/
theorem g_iteD {p A B : Prop} [Decidable p] (h1 : p → A) (h2 : ¬ p → B) : if decide p = true then A else B := by
  by_cases h : p
  · rw [if_pos (decide_eq_true h)]; exact h1 h
  · rw [if_neg (by simp [h])]; exact h2 h
theorem g_iteN {p A B : Prop} [Decidable p] (h1 : ¬ p → A) (h2 : p → B) : if (!decide p) = true then A else B := by
  by_cases h : p
  · rw [if_neg (by simp [h])]; exact h2 h
  · rw [if_pos (by simp [h])]; exact h1 h
theorem g_iteY {p A B : Prop} [Decidable p] (h : p) (h1 : A) : if decide p = true then A else B := by
  rw [if_pos (decide_eq_true h)]; exact h1
theorem g_iteX {p A B : Prop} [Decidable p] (h : ¬ p) (h1 : B) : if decide p = true then A else B := by
  rw [if_neg (by simp [h])]; exact h1
theorem g_iteNY {p A B : Prop} [Decidable p] (h : ¬ p) (h1 : A) : if (!decide p) = true then A else B := by
  rw [if_pos (by simp [h])]; exact h1
theorem g_iteNX {p A B : Prop} [Decidable p] (h : p) (h1 : B) : if (!decide p) = true then A else B := by
  rw [if_neg (by simp [h])]; exact h1
theorem g_iteCT {b : Bool} {A B : Prop} (h : b = true) (q : A) : if b = true then A else B := by rw [if_pos h]; exact q
theorem g_iteCF {b : Bool} {A B : Prop} (h : b = false) (q : B) : if b = true then A else B := by rw [h, if_neg Bool.false_ne_true]; exact q
theorem g_iteBB {b : Bool} {A B : Prop} (h1 : b = true → A) (h2 : b = false → B) : if b = true then A else B := by
  cases b
  · rw [if_neg Bool.false_ne_true]; exact h2 rfl
  · rw [if_pos rfl]; exact h1 rfl
end
/-! ### built-ins, named -/
section
variable {X : Cx} {σ : L2.St} {H : Hp} {Q : VK}
def qInt : List V → Hp → VK → Prop := fun xs H Q => ∃ i, xs = [.int i] ∧ Q (.int i) H
theorem c_int : CallR X (.type "int") qInt := fun pins s σ H xs us Q I r h => call_int1 pins s σ H xs us Q I r (.inl h)
theorem g_int {i : Int} (h : Q (.int i) H) : qInt [.int i] H Q := ⟨i, rfl, h⟩
instance st_g_int {i : Int} : Step (qInt [.int i] H Q) (Q (.int i) H) := ⟨fun z => g_int z⟩
def qLen (K : PySem.W.Frag) : List V → Hp → VK → Prop := fun xs H Q => ∃ p ys, xs = [.ref p] ∧ (SqL K H p ys ∨ SqT K H p ys) ∧ Q (.int ys.length) H
theorem c_len : CallR X (.builtin "len") (qLen X.K) := call_len_seq
theorem g_len {K : PySem.W.Frag} {p : Addr} {ys : List V} (h : SqL K H p ys ∨ SqT K H p ys) (q : Q (.int ys.length) H) : qLen K [.ref p] H Q := ⟨p, ys, rfl, h, q⟩
def qList (K : PySem.W.Frag) : List V → Hp → VK → Prop := fun xs H Q => ∃ p ys, xs = [.ref p] ∧ (SqL K H p ys ∨ SqT K H p ys) ∧ ∀ l, H l = none → Q (.ref l) (upd H l (.lst ys))
theorem c_list : CallR X (.type "list") (qList X.K) := call_list_of
theorem g_list {K : PySem.W.Frag} {p : Addr} {ys : List V} (h : SqL K H p ys ∨ SqT K H p ys) (q : ∀ l, H l = none → Q (.ref l) (upd H l (.lst ys))) : qList K [.ref p] H Q := ⟨p, ys, rfl, h, q⟩
def qTuple (K : PySem.W.Frag) : List V → Hp → VK → Prop := fun xs H Q => ∃ p ys, xs = [.ref p] ∧ SqL K H p ys ∧ ∀ l, H l = none → Q (.ref l) (upd H l (.tup ys))
theorem c_tuple : CallR X (.type "tuple") (qTuple X.K) := fun pins s σ H xs us Q I r ⟨p, ys, e, h, q⟩ => call_tuple_of pins s σ H xs us Q I r ⟨p, ys, e, .inl ⟨h, q⟩⟩
theorem g_tuple {K : PySem.W.Frag} {p : Addr} {ys : List V} (h : SqL K H p ys) (q : ∀ l, H l = none → Q (.ref l) (upd H l (.tup ys))) : qTuple K [.ref p] H Q := ⟨p, ys, rfl, h, q⟩
theorem g_sum {K : PySem.W.Frag} {a : Addr} {ns : List Int} (h : SqL K H a (ns.map V.int)) (q : Q (.int ns.sum) H) : rSum K [.ref a] H Q := ⟨a, ns, rfl, h, q⟩
theorem g_max {K : PySem.W.Frag} {a : Addr} {ns : List Int} (h : SqL K H a (ns.map V.int)) (l : 0 < ns.length) (q : ∀ m, m ∈ ns → (∀ y, y ∈ ns → y ≤ m) → Q (.int m) H) : rMax K [.ref a] H Q := ⟨a, ns, rfl, h, l, q⟩
theorem g_any {K : PySem.W.Frag} {a : Addr} {bs : List Bool} (h : SqL K H a (bs.map V.bl)) (q : Q (.bl (bs.any id)) H) : rAny K [.ref a] H Q := ⟨a, bs, rfl, h, q⟩
theorem g_all {K : PySem.W.Frag} {a : Addr} {bs : List Bool} (h : SqL K H a (bs.map V.bl)) (q : Q (.bl (bs.all id)) H) : rAll K [.ref a] H Q := ⟨a, bs, rfl, h, q⟩
def qIsN : R2 := fun x y H Q => y = .non ∧ Q (.bl (decide (x = .non))) H
theorem o_isN : OpR X (compareOp .Is) qIsN := op_isN
theorem g_isNr {r : Addr} (h : Q (.bl false) H) : qIsN (.ref r) .non H Q := ⟨rfl, by rw [decide_eq_false (by intro e; cases e)]; exact h⟩
instance st_g_isNr {r : Addr} : Step (qIsN (.ref r) .non H Q) (Q (.bl false) H) := ⟨fun z => g_isNr z⟩
theorem g_isNn (h : Q (.bl true) H) : qIsN .non .non H Q := ⟨rfl, h⟩
instance st_g_isNn : Step (qIsN .non .non H Q) (Q (.bl true) H) := ⟨fun z => g_isNn z⟩
theorem g_isNb {b : Bool} (h : Q (.bl false) H) : qIsN (.bl b) .non H Q := ⟨rfl, by rw [decide_eq_false (by intro e; cases e)]; exact h⟩
instance st_g_isNb {b : Bool} : Step (qIsN (.bl b) .non H Q) (Q (.bl false) H) := ⟨fun z => g_isNb z⟩
theorem g_isNs {z : Str} (h : Q (.bl false) H) : qIsN (.str z) .non H Q := ⟨rfl, by rw [decide_eq_false (by intro e; cases e)]; exact h⟩
instance st_g_isNs {z : Str} : Step (qIsN (.str z) .non H Q) (Q (.bl false) H) := ⟨fun z => g_isNs z⟩
theorem g_isNi {i : Int} (h : Q (.bl false) H) : qIsN (.int i) .non H Q := ⟨rfl, by rw [decide_eq_false (by intro e; cases e)]; exact h⟩
instance st_g_isNi {i : Int} : Step (qIsN (.int i) .non H Q) (Q (.bl false) H) := ⟨fun z => g_isNi z⟩
end

theorem g_v0 {v : V} {r : L2.St} {H : Hp} {Q : VK} (h : Q v H) : tVar 0 (some v :: r) H Q := ⟨v, rfl, h⟩
instance st_g_v0 {v : V} {r : L2.St} {H : Hp} {Q : VK} : Step (tVar 0 (some v :: r) H Q) (Q v H) := ⟨fun z => g_v0 z⟩
theorem g_n0 {y : Option V} {v : V} {r : L2.St} {H : Hp} {N : L2.St → Hp → Prop} (h : N (some v :: r) H) : gName 0 v (y :: r) H N := h
instance st_g_n0 {y : Option V} {v : V} {r : L2.St} {H : Hp} {N : L2.St → Hp → Prop} : Step (gName 0 v (y :: r) H N) (N (some v :: r) H) := ⟨fun z => g_n0 z⟩
theorem g_v1 {x0 : Option V} {v : V} {r : L2.St} {H : Hp} {Q : VK} (h : Q v H) : tVar 1 (x0 :: some v :: r) H Q := ⟨v, rfl, h⟩
instance st_g_v1 {x0 : Option V} {v : V} {r : L2.St} {H : Hp} {Q : VK} : Step (tVar 1 (x0 :: some v :: r) H Q) (Q v H) := ⟨fun z => g_v1 z⟩
theorem g_n1 {x0 y : Option V} {v : V} {r : L2.St} {H : Hp} {N : L2.St → Hp → Prop} (h : N (x0 :: some v :: r) H) : gName 1 v (x0 :: y :: r) H N := h
instance st_g_n1 {x0 y : Option V} {v : V} {r : L2.St} {H : Hp} {N : L2.St → Hp → Prop} : Step (gName 1 v (x0 :: y :: r) H N) (N (x0 :: some v :: r) H) := ⟨fun z => g_n1 z⟩
theorem g_v2 {x0 x1 : Option V} {v : V} {r : L2.St} {H : Hp} {Q : VK} (h : Q v H) : tVar 2 (x0 :: x1 :: some v :: r) H Q := ⟨v, rfl, h⟩
instance st_g_v2 {x0 x1 : Option V} {v : V} {r : L2.St} {H : Hp} {Q : VK} : Step (tVar 2 (x0 :: x1 :: some v :: r) H Q) (Q v H) := ⟨fun z => g_v2 z⟩
theorem g_n2 {x0 x1 y : Option V} {v : V} {r : L2.St} {H : Hp} {N : L2.St → Hp → Prop} (h : N (x0 :: x1 :: some v :: r) H) : gName 2 v (x0 :: x1 :: y :: r) H N := h
instance st_g_n2 {x0 x1 y : Option V} {v : V} {r : L2.St} {H : Hp} {N : L2.St → Hp → Prop} : Step (gName 2 v (x0 :: x1 :: y :: r) H N) (N (x0 :: x1 :: some v :: r) H) := ⟨fun z => g_n2 z⟩
theorem g_v3 {x0 x1 x2 : Option V} {v : V} {r : L2.St} {H : Hp} {Q : VK} (h : Q v H) : tVar 3 (x0 :: x1 :: x2 :: some v :: r) H Q := ⟨v, rfl, h⟩
instance st_g_v3 {x0 x1 x2 : Option V} {v : V} {r : L2.St} {H : Hp} {Q : VK} : Step (tVar 3 (x0 :: x1 :: x2 :: some v :: r) H Q) (Q v H) := ⟨fun z => g_v3 z⟩
theorem g_n3 {x0 x1 x2 y : Option V} {v : V} {r : L2.St} {H : Hp} {N : L2.St → Hp → Prop} (h : N (x0 :: x1 :: x2 :: some v :: r) H) : gName 3 v (x0 :: x1 :: x2 :: y :: r) H N := h
instance st_g_n3 {x0 x1 x2 y : Option V} {v : V} {r : L2.St} {H : Hp} {N : L2.St → Hp → Prop} : Step (gName 3 v (x0 :: x1 :: x2 :: y :: r) H N) (N (x0 :: x1 :: x2 :: some v :: r) H) := ⟨fun z => g_n3 z⟩
theorem g_v4 {x0 x1 x2 x3 : Option V} {v : V} {r : L2.St} {H : Hp} {Q : VK} (h : Q v H) : tVar 4 (x0 :: x1 :: x2 :: x3 :: some v :: r) H Q := ⟨v, rfl, h⟩
instance st_g_v4 {x0 x1 x2 x3 : Option V} {v : V} {r : L2.St} {H : Hp} {Q : VK} : Step (tVar 4 (x0 :: x1 :: x2 :: x3 :: some v :: r) H Q) (Q v H) := ⟨fun z => g_v4 z⟩
theorem g_n4 {x0 x1 x2 x3 y : Option V} {v : V} {r : L2.St} {H : Hp} {N : L2.St → Hp → Prop} (h : N (x0 :: x1 :: x2 :: x3 :: some v :: r) H) : gName 4 v (x0 :: x1 :: x2 :: x3 :: y :: r) H N := h
instance st_g_n4 {x0 x1 x2 x3 y : Option V} {v : V} {r : L2.St} {H : Hp} {N : L2.St → Hp → Prop} : Step (gName 4 v (x0 :: x1 :: x2 :: x3 :: y :: r) H N) (N (x0 :: x1 :: x2 :: x3 :: some v :: r) H) := ⟨fun z => g_n4 z⟩
theorem g_v5 {x0 x1 x2 x3 x4 : Option V} {v : V} {r : L2.St} {H : Hp} {Q : VK} (h : Q v H) : tVar 5 (x0 :: x1 :: x2 :: x3 :: x4 :: some v :: r) H Q := ⟨v, rfl, h⟩
instance st_g_v5 {x0 x1 x2 x3 x4 : Option V} {v : V} {r : L2.St} {H : Hp} {Q : VK} : Step (tVar 5 (x0 :: x1 :: x2 :: x3 :: x4 :: some v :: r) H Q) (Q v H) := ⟨fun z => g_v5 z⟩
theorem g_n5 {x0 x1 x2 x3 x4 y : Option V} {v : V} {r : L2.St} {H : Hp} {N : L2.St → Hp → Prop} (h : N (x0 :: x1 :: x2 :: x3 :: x4 :: some v :: r) H) : gName 5 v (x0 :: x1 :: x2 :: x3 :: x4 :: y :: r) H N := h
instance st_g_n5 {x0 x1 x2 x3 x4 y : Option V} {v : V} {r : L2.St} {H : Hp} {N : L2.St → Hp → Prop} : Step (gName 5 v (x0 :: x1 :: x2 :: x3 :: x4 :: y :: r) H N) (N (x0 :: x1 :: x2 :: x3 :: x4 :: some v :: r) H) := ⟨fun z => g_n5 z⟩
theorem g_v6 {x0 x1 x2 x3 x4 x5 : Option V} {v : V} {r : L2.St} {H : Hp} {Q : VK} (h : Q v H) : tVar 6 (x0 :: x1 :: x2 :: x3 :: x4 :: x5 :: some v :: r) H Q := ⟨v, rfl, h⟩
instance st_g_v6 {x0 x1 x2 x3 x4 x5 : Option V} {v : V} {r : L2.St} {H : Hp} {Q : VK} : Step (tVar 6 (x0 :: x1 :: x2 :: x3 :: x4 :: x5 :: some v :: r) H Q) (Q v H) := ⟨fun z => g_v6 z⟩
theorem g_n6 {x0 x1 x2 x3 x4 x5 y : Option V} {v : V} {r : L2.St} {H : Hp} {N : L2.St → Hp → Prop} (h : N (x0 :: x1 :: x2 :: x3 :: x4 :: x5 :: some v :: r) H) : gName 6 v (x0 :: x1 :: x2 :: x3 :: x4 :: x5 :: y :: r) H N := h
instance st_g_n6 {x0 x1 x2 x3 x4 x5 y : Option V} {v : V} {r : L2.St} {H : Hp} {N : L2.St → Hp → Prop} : Step (gName 6 v (x0 :: x1 :: x2 :: x3 :: x4 :: x5 :: y :: r) H N) (N (x0 :: x1 :: x2 :: x3 :: x4 :: x5 :: some v :: r) H) := ⟨fun z => g_n6 z⟩
theorem g_v7 {x0 x1 x2 x3 x4 x5 x6 : Option V} {v : V} {r : L2.St} {H : Hp} {Q : VK} (h : Q v H) : tVar 7 (x0 :: x1 :: x2 :: x3 :: x4 :: x5 :: x6 :: some v :: r) H Q := ⟨v, rfl, h⟩
instance st_g_v7 {x0 x1 x2 x3 x4 x5 x6 : Option V} {v : V} {r : L2.St} {H : Hp} {Q : VK} : Step (tVar 7 (x0 :: x1 :: x2 :: x3 :: x4 :: x5 :: x6 :: some v :: r) H Q) (Q v H) := ⟨fun z => g_v7 z⟩
theorem g_n7 {x0 x1 x2 x3 x4 x5 x6 y : Option V} {v : V} {r : L2.St} {H : Hp} {N : L2.St → Hp → Prop} (h : N (x0 :: x1 :: x2 :: x3 :: x4 :: x5 :: x6 :: some v :: r) H) : gName 7 v (x0 :: x1 :: x2 :: x3 :: x4 :: x5 :: x6 :: y :: r) H N := h
instance st_g_n7 {x0 x1 x2 x3 x4 x5 x6 y : Option V} {v : V} {r : L2.St} {H : Hp} {N : L2.St → Hp → Prop} : Step (gName 7 v (x0 :: x1 :: x2 :: x3 :: x4 :: x5 :: x6 :: y :: r) H N) (N (x0 :: x1 :: x2 :: x3 :: x4 :: x5 :: x6 :: some v :: r) H) := ⟨fun z => g_n7 z⟩
theorem g_v8 {x0 x1 x2 x3 x4 x5 x6 x7 : Option V} {v : V} {r : L2.St} {H : Hp} {Q : VK} (h : Q v H) : tVar 8 (x0 :: x1 :: x2 :: x3 :: x4 :: x5 :: x6 :: x7 :: some v :: r) H Q := ⟨v, rfl, h⟩
instance st_g_v8 {x0 x1 x2 x3 x4 x5 x6 x7 : Option V} {v : V} {r : L2.St} {H : Hp} {Q : VK} : Step (tVar 8 (x0 :: x1 :: x2 :: x3 :: x4 :: x5 :: x6 :: x7 :: some v :: r) H Q) (Q v H) := ⟨fun z => g_v8 z⟩
theorem g_n8 {x0 x1 x2 x3 x4 x5 x6 x7 y : Option V} {v : V} {r : L2.St} {H : Hp} {N : L2.St → Hp → Prop} (h : N (x0 :: x1 :: x2 :: x3 :: x4 :: x5 :: x6 :: x7 :: some v :: r) H) : gName 8 v (x0 :: x1 :: x2 :: x3 :: x4 :: x5 :: x6 :: x7 :: y :: r) H N := h
instance st_g_n8 {x0 x1 x2 x3 x4 x5 x6 x7 y : Option V} {v : V} {r : L2.St} {H : Hp} {N : L2.St → Hp → Prop} : Step (gName 8 v (x0 :: x1 :: x2 :: x3 :: x4 :: x5 :: x6 :: x7 :: y :: r) H N) (N (x0 :: x1 :: x2 :: x3 :: x4 :: x5 :: x6 :: x7 :: some v :: r) H) := ⟨fun z => g_n8 z⟩
theorem g_v9 {x0 x1 x2 x3 x4 x5 x6 x7 x8 : Option V} {v : V} {r : L2.St} {H : Hp} {Q : VK} (h : Q v H) : tVar 9 (x0 :: x1 :: x2 :: x3 :: x4 :: x5 :: x6 :: x7 :: x8 :: some v :: r) H Q := ⟨v, rfl, h⟩
instance st_g_v9 {x0 x1 x2 x3 x4 x5 x6 x7 x8 : Option V} {v : V} {r : L2.St} {H : Hp} {Q : VK} : Step (tVar 9 (x0 :: x1 :: x2 :: x3 :: x4 :: x5 :: x6 :: x7 :: x8 :: some v :: r) H Q) (Q v H) := ⟨fun z => g_v9 z⟩
theorem g_n9 {x0 x1 x2 x3 x4 x5 x6 x7 x8 y : Option V} {v : V} {r : L2.St} {H : Hp} {N : L2.St → Hp → Prop} (h : N (x0 :: x1 :: x2 :: x3 :: x4 :: x5 :: x6 :: x7 :: x8 :: some v :: r) H) : gName 9 v (x0 :: x1 :: x2 :: x3 :: x4 :: x5 :: x6 :: x7 :: x8 :: y :: r) H N := h
instance st_g_n9 {x0 x1 x2 x3 x4 x5 x6 x7 x8 y : Option V} {v : V} {r : L2.St} {H : Hp} {N : L2.St → Hp → Prop} : Step (gName 9 v (x0 :: x1 :: x2 :: x3 :: x4 :: x5 :: x6 :: x7 :: x8 :: y :: r) H N) (N (x0 :: x1 :: x2 :: x3 :: x4 :: x5 :: x6 :: x7 :: x8 :: some v :: r) H) := ⟨fun z => g_n9 z⟩
theorem g_v10 {x0 x1 x2 x3 x4 x5 x6 x7 x8 x9 : Option V} {v : V} {r : L2.St} {H : Hp} {Q : VK} (h : Q v H) : tVar 10 (x0 :: x1 :: x2 :: x3 :: x4 :: x5 :: x6 :: x7 :: x8 :: x9 :: some v :: r) H Q := ⟨v, rfl, h⟩
instance st_g_v10 {x0 x1 x2 x3 x4 x5 x6 x7 x8 x9 : Option V} {v : V} {r : L2.St} {H : Hp} {Q : VK} : Step (tVar 10 (x0 :: x1 :: x2 :: x3 :: x4 :: x5 :: x6 :: x7 :: x8 :: x9 :: some v :: r) H Q) (Q v H) := ⟨fun z => g_v10 z⟩
theorem g_n10 {x0 x1 x2 x3 x4 x5 x6 x7 x8 x9 y : Option V} {v : V} {r : L2.St} {H : Hp} {N : L2.St → Hp → Prop} (h : N (x0 :: x1 :: x2 :: x3 :: x4 :: x5 :: x6 :: x7 :: x8 :: x9 :: some v :: r) H) : gName 10 v (x0 :: x1 :: x2 :: x3 :: x4 :: x5 :: x6 :: x7 :: x8 :: x9 :: y :: r) H N := h
instance st_g_n10 {x0 x1 x2 x3 x4 x5 x6 x7 x8 x9 y : Option V} {v : V} {r : L2.St} {H : Hp} {N : L2.St → Hp → Prop} : Step (gName 10 v (x0 :: x1 :: x2 :: x3 :: x4 :: x5 :: x6 :: x7 :: x8 :: x9 :: y :: r) H N) (N (x0 :: x1 :: x2 :: x3 :: x4 :: x5 :: x6 :: x7 :: x8 :: x9 :: some v :: r) H) := ⟨fun z => g_n10 z⟩
theorem g_v11 {x0 x1 x2 x3 x4 x5 x6 x7 x8 x9 x10 : Option V} {v : V} {r : L2.St} {H : Hp} {Q : VK} (h : Q v H) : tVar 11 (x0 :: x1 :: x2 :: x3 :: x4 :: x5 :: x6 :: x7 :: x8 :: x9 :: x10 :: some v :: r) H Q := ⟨v, rfl, h⟩
instance st_g_v11 {x0 x1 x2 x3 x4 x5 x6 x7 x8 x9 x10 : Option V} {v : V} {r : L2.St} {H : Hp} {Q : VK} : Step (tVar 11 (x0 :: x1 :: x2 :: x3 :: x4 :: x5 :: x6 :: x7 :: x8 :: x9 :: x10 :: some v :: r) H Q) (Q v H) := ⟨fun z => g_v11 z⟩
theorem g_n11 {x0 x1 x2 x3 x4 x5 x6 x7 x8 x9 x10 y : Option V} {v : V} {r : L2.St} {H : Hp} {N : L2.St → Hp → Prop} (h : N (x0 :: x1 :: x2 :: x3 :: x4 :: x5 :: x6 :: x7 :: x8 :: x9 :: x10 :: some v :: r) H) : gName 11 v (x0 :: x1 :: x2 :: x3 :: x4 :: x5 :: x6 :: x7 :: x8 :: x9 :: x10 :: y :: r) H N := h
instance st_g_n11 {x0 x1 x2 x3 x4 x5 x6 x7 x8 x9 x10 y : Option V} {v : V} {r : L2.St} {H : Hp} {N : L2.St → Hp → Prop} : Step (gName 11 v (x0 :: x1 :: x2 :: x3 :: x4 :: x5 :: x6 :: x7 :: x8 :: x9 :: x10 :: y :: r) H N) (N (x0 :: x1 :: x2 :: x3 :: x4 :: x5 :: x6 :: x7 :: x8 :: x9 :: x10 :: some v :: r) H) := ⟨fun z => g_n11 z⟩
theorem g_v12 {x0 x1 x2 x3 x4 x5 x6 x7 x8 x9 x10 x11 : Option V} {v : V} {r : L2.St} {H : Hp} {Q : VK} (h : Q v H) : tVar 12 (x0 :: x1 :: x2 :: x3 :: x4 :: x5 :: x6 :: x7 :: x8 :: x9 :: x10 :: x11 :: some v :: r) H Q := ⟨v, rfl, h⟩
instance st_g_v12 {x0 x1 x2 x3 x4 x5 x6 x7 x8 x9 x10 x11 : Option V} {v : V} {r : L2.St} {H : Hp} {Q : VK} : Step (tVar 12 (x0 :: x1 :: x2 :: x3 :: x4 :: x5 :: x6 :: x7 :: x8 :: x9 :: x10 :: x11 :: some v :: r) H Q) (Q v H) := ⟨fun z => g_v12 z⟩
theorem g_n12 {x0 x1 x2 x3 x4 x5 x6 x7 x8 x9 x10 x11 y : Option V} {v : V} {r : L2.St} {H : Hp} {N : L2.St → Hp → Prop} (h : N (x0 :: x1 :: x2 :: x3 :: x4 :: x5 :: x6 :: x7 :: x8 :: x9 :: x10 :: x11 :: some v :: r) H) : gName 12 v (x0 :: x1 :: x2 :: x3 :: x4 :: x5 :: x6 :: x7 :: x8 :: x9 :: x10 :: x11 :: y :: r) H N := h
instance st_g_n12 {x0 x1 x2 x3 x4 x5 x6 x7 x8 x9 x10 x11 y : Option V} {v : V} {r : L2.St} {H : Hp} {N : L2.St → Hp → Prop} : Step (gName 12 v (x0 :: x1 :: x2 :: x3 :: x4 :: x5 :: x6 :: x7 :: x8 :: x9 :: x10 :: x11 :: y :: r) H N) (N (x0 :: x1 :: x2 :: x3 :: x4 :: x5 :: x6 :: x7 :: x8 :: x9 :: x10 :: x11 :: some v :: r) H) := ⟨fun z => g_n12 z⟩
theorem g_v13 {x0 x1 x2 x3 x4 x5 x6 x7 x8 x9 x10 x11 x12 : Option V} {v : V} {r : L2.St} {H : Hp} {Q : VK} (h : Q v H) : tVar 13 (x0 :: x1 :: x2 :: x3 :: x4 :: x5 :: x6 :: x7 :: x8 :: x9 :: x10 :: x11 :: x12 :: some v :: r) H Q := ⟨v, rfl, h⟩
instance st_g_v13 {x0 x1 x2 x3 x4 x5 x6 x7 x8 x9 x10 x11 x12 : Option V} {v : V} {r : L2.St} {H : Hp} {Q : VK} : Step (tVar 13 (x0 :: x1 :: x2 :: x3 :: x4 :: x5 :: x6 :: x7 :: x8 :: x9 :: x10 :: x11 :: x12 :: some v :: r) H Q) (Q v H) := ⟨fun z => g_v13 z⟩
theorem g_n13 {x0 x1 x2 x3 x4 x5 x6 x7 x8 x9 x10 x11 x12 y : Option V} {v : V} {r : L2.St} {H : Hp} {N : L2.St → Hp → Prop} (h : N (x0 :: x1 :: x2 :: x3 :: x4 :: x5 :: x6 :: x7 :: x8 :: x9 :: x10 :: x11 :: x12 :: some v :: r) H) : gName 13 v (x0 :: x1 :: x2 :: x3 :: x4 :: x5 :: x6 :: x7 :: x8 :: x9 :: x10 :: x11 :: x12 :: y :: r) H N := h
instance st_g_n13 {x0 x1 x2 x3 x4 x5 x6 x7 x8 x9 x10 x11 x12 y : Option V} {v : V} {r : L2.St} {H : Hp} {N : L2.St → Hp → Prop} : Step (gName 13 v (x0 :: x1 :: x2 :: x3 :: x4 :: x5 :: x6 :: x7 :: x8 :: x9 :: x10 :: x11 :: x12 :: y :: r) H N) (N (x0 :: x1 :: x2 :: x3 :: x4 :: x5 :: x6 :: x7 :: x8 :: x9 :: x10 :: x11 :: x12 :: some v :: r) H) := ⟨fun z => g_n13 z⟩
theorem g_v14 {x0 x1 x2 x3 x4 x5 x6 x7 x8 x9 x10 x11 x12 x13 : Option V} {v : V} {r : L2.St} {H : Hp} {Q : VK} (h : Q v H) : tVar 14 (x0 :: x1 :: x2 :: x3 :: x4 :: x5 :: x6 :: x7 :: x8 :: x9 :: x10 :: x11 :: x12 :: x13 :: some v :: r) H Q := ⟨v, rfl, h⟩
instance st_g_v14 {x0 x1 x2 x3 x4 x5 x6 x7 x8 x9 x10 x11 x12 x13 : Option V} {v : V} {r : L2.St} {H : Hp} {Q : VK} : Step (tVar 14 (x0 :: x1 :: x2 :: x3 :: x4 :: x5 :: x6 :: x7 :: x8 :: x9 :: x10 :: x11 :: x12 :: x13 :: some v :: r) H Q) (Q v H) := ⟨fun z => g_v14 z⟩
theorem g_n14 {x0 x1 x2 x3 x4 x5 x6 x7 x8 x9 x10 x11 x12 x13 y : Option V} {v : V} {r : L2.St} {H : Hp} {N : L2.St → Hp → Prop} (h : N (x0 :: x1 :: x2 :: x3 :: x4 :: x5 :: x6 :: x7 :: x8 :: x9 :: x10 :: x11 :: x12 :: x13 :: some v :: r) H) : gName 14 v (x0 :: x1 :: x2 :: x3 :: x4 :: x5 :: x6 :: x7 :: x8 :: x9 :: x10 :: x11 :: x12 :: x13 :: y :: r) H N := h
instance st_g_n14 {x0 x1 x2 x3 x4 x5 x6 x7 x8 x9 x10 x11 x12 x13 y : Option V} {v : V} {r : L2.St} {H : Hp} {N : L2.St → Hp → Prop} : Step (gName 14 v (x0 :: x1 :: x2 :: x3 :: x4 :: x5 :: x6 :: x7 :: x8 :: x9 :: x10 :: x11 :: x12 :: x13 :: y :: r) H N) (N (x0 :: x1 :: x2 :: x3 :: x4 :: x5 :: x6 :: x7 :: x8 :: x9 :: x10 :: x11 :: x12 :: x13 :: some v :: r) H) := ⟨fun z => g_n14 z⟩
theorem g_v15 {x0 x1 x2 x3 x4 x5 x6 x7 x8 x9 x10 x11 x12 x13 x14 : Option V} {v : V} {r : L2.St} {H : Hp} {Q : VK} (h : Q v H) : tVar 15 (x0 :: x1 :: x2 :: x3 :: x4 :: x5 :: x6 :: x7 :: x8 :: x9 :: x10 :: x11 :: x12 :: x13 :: x14 :: some v :: r) H Q := ⟨v, rfl, h⟩
instance st_g_v15 {x0 x1 x2 x3 x4 x5 x6 x7 x8 x9 x10 x11 x12 x13 x14 : Option V} {v : V} {r : L2.St} {H : Hp} {Q : VK} : Step (tVar 15 (x0 :: x1 :: x2 :: x3 :: x4 :: x5 :: x6 :: x7 :: x8 :: x9 :: x10 :: x11 :: x12 :: x13 :: x14 :: some v :: r) H Q) (Q v H) := ⟨fun z => g_v15 z⟩
theorem g_n15 {x0 x1 x2 x3 x4 x5 x6 x7 x8 x9 x10 x11 x12 x13 x14 y : Option V} {v : V} {r : L2.St} {H : Hp} {N : L2.St → Hp → Prop} (h : N (x0 :: x1 :: x2 :: x3 :: x4 :: x5 :: x6 :: x7 :: x8 :: x9 :: x10 :: x11 :: x12 :: x13 :: x14 :: some v :: r) H) : gName 15 v (x0 :: x1 :: x2 :: x3 :: x4 :: x5 :: x6 :: x7 :: x8 :: x9 :: x10 :: x11 :: x12 :: x13 :: x14 :: y :: r) H N := h

instance st_g_n15 {x0 x1 x2 x3 x4 x5 x6 x7 x8 x9 x10 x11 x12 x13 x14 y : Option V} {v : V} {r : L2.St} {H : Hp} {N : L2.St → Hp → Prop} : Step (gName 15 v (x0 :: x1 :: x2 :: x3 :: x4 :: x5 :: x6 :: x7 :: x8 :: x9 :: x10 :: x11 :: x12 :: x13 :: x14 :: y :: r) H N) (N (x0 :: x1 :: x2 :: x3 :: x4 :: x5 :: x6 :: x7 :: x8 :: x9 :: x10 :: x11 :: x12 :: x13 :: x14 :: some v :: r) H) := ⟨fun z => g_n15 z⟩
theorem g_ixL0 {K : PySem.W.Frag} {p : Addr} {H : Hp} {Q : VK} {v : V} {r : List V} (h : SqL K H p (v :: r)) (q : Q v H) : rIxL K (.ref p) (.int 0) H Q := g_ixL h (atI_nat (j := 0) rfl) q
theorem g_setL0 {p : Addr} {H : Hp} {N : Hp → Prop} {y : V} {v : V} {r : List V} (h : H p = some (.lst (y :: r))) (q : N (upd H p (.lst (v :: r)))) : rSetL (.ref p) (.int 0) v H N :=
  ⟨p, _, 0, 0, rfl, rfl, h, by unfold ixN; rw [if_pos (by omega), if_pos (by simp only [List.length_cons]; omega)]; rfl, q⟩
theorem g_ixL1 {K : PySem.W.Frag} {p : Addr} {H : Hp} {Q : VK} {x0 : V} {v : V} {r : List V} (h : SqL K H p (x0 :: v :: r)) (q : Q v H) : rIxL K (.ref p) (.int 1) H Q := g_ixL h (atI_nat (j := 1) rfl) q
theorem g_setL1 {p : Addr} {H : Hp} {N : Hp → Prop} {x0 y : V} {v : V} {r : List V} (h : H p = some (.lst (x0 :: y :: r))) (q : N (upd H p (.lst (x0 :: v :: r)))) : rSetL (.ref p) (.int 1) v H N :=
  ⟨p, _, 1, 1, rfl, rfl, h, by unfold ixN; rw [if_pos (by omega), if_pos (by simp only [List.length_cons]; omega)]; rfl, q⟩
theorem g_ixL2 {K : PySem.W.Frag} {p : Addr} {H : Hp} {Q : VK} {x0 x1 : V} {v : V} {r : List V} (h : SqL K H p (x0 :: x1 :: v :: r)) (q : Q v H) : rIxL K (.ref p) (.int 2) H Q := g_ixL h (atI_nat (j := 2) rfl) q
theorem g_setL2 {p : Addr} {H : Hp} {N : Hp → Prop} {x0 x1 y : V} {v : V} {r : List V} (h : H p = some (.lst (x0 :: x1 :: y :: r))) (q : N (upd H p (.lst (x0 :: x1 :: v :: r)))) : rSetL (.ref p) (.int 2) v H N :=
  ⟨p, _, 2, 2, rfl, rfl, h, by unfold ixN; rw [if_pos (by omega), if_pos (by simp only [List.length_cons]; omega)]; rfl, q⟩
theorem g_ixL3 {K : PySem.W.Frag} {p : Addr} {H : Hp} {Q : VK} {x0 x1 x2 : V} {v : V} {r : List V} (h : SqL K H p (x0 :: x1 :: x2 :: v :: r)) (q : Q v H) : rIxL K (.ref p) (.int 3) H Q := g_ixL h (atI_nat (j := 3) rfl) q
theorem g_setL3 {p : Addr} {H : Hp} {N : Hp → Prop} {x0 x1 x2 y : V} {v : V} {r : List V} (h : H p = some (.lst (x0 :: x1 :: x2 :: y :: r))) (q : N (upd H p (.lst (x0 :: x1 :: x2 :: v :: r)))) : rSetL (.ref p) (.int 3) v H N :=
  ⟨p, _, 3, 3, rfl, rfl, h, by unfold ixN; rw [if_pos (by omega), if_pos (by simp only [List.length_cons]; omega)]; rfl, q⟩
theorem g_ixL4 {K : PySem.W.Frag} {p : Addr} {H : Hp} {Q : VK} {x0 x1 x2 x3 : V} {v : V} {r : List V} (h : SqL K H p (x0 :: x1 :: x2 :: x3 :: v :: r)) (q : Q v H) : rIxL K (.ref p) (.int 4) H Q := g_ixL h (atI_nat (j := 4) rfl) q
theorem g_setL4 {p : Addr} {H : Hp} {N : Hp → Prop} {x0 x1 x2 x3 y : V} {v : V} {r : List V} (h : H p = some (.lst (x0 :: x1 :: x2 :: x3 :: y :: r))) (q : N (upd H p (.lst (x0 :: x1 :: x2 :: x3 :: v :: r)))) : rSetL (.ref p) (.int 4) v H N :=
  ⟨p, _, 4, 4, rfl, rfl, h, by unfold ixN; rw [if_pos (by omega), if_pos (by simp only [List.length_cons]; omega)]; rfl, q⟩
theorem g_ixL5 {K : PySem.W.Frag} {p : Addr} {H : Hp} {Q : VK} {x0 x1 x2 x3 x4 : V} {v : V} {r : List V} (h : SqL K H p (x0 :: x1 :: x2 :: x3 :: x4 :: v :: r)) (q : Q v H) : rIxL K (.ref p) (.int 5) H Q := g_ixL h (atI_nat (j := 5) rfl) q
theorem g_setL5 {p : Addr} {H : Hp} {N : Hp → Prop} {x0 x1 x2 x3 x4 y : V} {v : V} {r : List V} (h : H p = some (.lst (x0 :: x1 :: x2 :: x3 :: x4 :: y :: r))) (q : N (upd H p (.lst (x0 :: x1 :: x2 :: x3 :: x4 :: v :: r)))) : rSetL (.ref p) (.int 5) v H N :=
  ⟨p, _, 5, 5, rfl, rfl, h, by unfold ixN; rw [if_pos (by omega), if_pos (by simp only [List.length_cons]; omega)]; rfl, q⟩
theorem g_ixL6 {K : PySem.W.Frag} {p : Addr} {H : Hp} {Q : VK} {x0 x1 x2 x3 x4 x5 : V} {v : V} {r : List V} (h : SqL K H p (x0 :: x1 :: x2 :: x3 :: x4 :: x5 :: v :: r)) (q : Q v H) : rIxL K (.ref p) (.int 6) H Q := g_ixL h (atI_nat (j := 6) rfl) q
theorem g_setL6 {p : Addr} {H : Hp} {N : Hp → Prop} {x0 x1 x2 x3 x4 x5 y : V} {v : V} {r : List V} (h : H p = some (.lst (x0 :: x1 :: x2 :: x3 :: x4 :: x5 :: y :: r))) (q : N (upd H p (.lst (x0 :: x1 :: x2 :: x3 :: x4 :: x5 :: v :: r)))) : rSetL (.ref p) (.int 6) v H N :=
  ⟨p, _, 6, 6, rfl, rfl, h, by unfold ixN; rw [if_pos (by omega), if_pos (by simp only [List.length_cons]; omega)]; rfl, q⟩
theorem g_ixL7 {K : PySem.W.Frag} {p : Addr} {H : Hp} {Q : VK} {x0 x1 x2 x3 x4 x5 x6 : V} {v : V} {r : List V} (h : SqL K H p (x0 :: x1 :: x2 :: x3 :: x4 :: x5 :: x6 :: v :: r)) (q : Q v H) : rIxL K (.ref p) (.int 7) H Q := g_ixL h (atI_nat (j := 7) rfl) q
theorem g_setL7 {p : Addr} {H : Hp} {N : Hp → Prop} {x0 x1 x2 x3 x4 x5 x6 y : V} {v : V} {r : List V} (h : H p = some (.lst (x0 :: x1 :: x2 :: x3 :: x4 :: x5 :: x6 :: y :: r))) (q : N (upd H p (.lst (x0 :: x1 :: x2 :: x3 :: x4 :: x5 :: x6 :: v :: r)))) : rSetL (.ref p) (.int 7) v H N :=
  ⟨p, _, 7, 7, rfl, rfl, h, by unfold ixN; rw [if_pos (by omega), if_pos (by simp only [List.length_cons]; omega)]; rfl, q⟩
theorem g_ixL8 {K : PySem.W.Frag} {p : Addr} {H : Hp} {Q : VK} {x0 x1 x2 x3 x4 x5 x6 x7 : V} {v : V} {r : List V} (h : SqL K H p (x0 :: x1 :: x2 :: x3 :: x4 :: x5 :: x6 :: x7 :: v :: r)) (q : Q v H) : rIxL K (.ref p) (.int 8) H Q := g_ixL h (atI_nat (j := 8) rfl) q
theorem g_setL8 {p : Addr} {H : Hp} {N : Hp → Prop} {x0 x1 x2 x3 x4 x5 x6 x7 y : V} {v : V} {r : List V} (h : H p = some (.lst (x0 :: x1 :: x2 :: x3 :: x4 :: x5 :: x6 :: x7 :: y :: r))) (q : N (upd H p (.lst (x0 :: x1 :: x2 :: x3 :: x4 :: x5 :: x6 :: x7 :: v :: r)))) : rSetL (.ref p) (.int 8) v H N :=
  ⟨p, _, 8, 8, rfl, rfl, h, by unfold ixN; rw [if_pos (by omega), if_pos (by simp only [List.length_cons]; omega)]; rfl, q⟩
theorem g_ixL9 {K : PySem.W.Frag} {p : Addr} {H : Hp} {Q : VK} {x0 x1 x2 x3 x4 x5 x6 x7 x8 : V} {v : V} {r : List V} (h : SqL K H p (x0 :: x1 :: x2 :: x3 :: x4 :: x5 :: x6 :: x7 :: x8 :: v :: r)) (q : Q v H) : rIxL K (.ref p) (.int 9) H Q := g_ixL h (atI_nat (j := 9) rfl) q
theorem g_setL9 {p : Addr} {H : Hp} {N : Hp → Prop} {x0 x1 x2 x3 x4 x5 x6 x7 x8 y : V} {v : V} {r : List V} (h : H p = some (.lst (x0 :: x1 :: x2 :: x3 :: x4 :: x5 :: x6 :: x7 :: x8 :: y :: r))) (q : N (upd H p (.lst (x0 :: x1 :: x2 :: x3 :: x4 :: x5 :: x6 :: x7 :: x8 :: v :: r)))) : rSetL (.ref p) (.int 9) v H N :=
  ⟨p, _, 9, 9, rfl, rfl, h, by unfold ixN; rw [if_pos (by omega), if_pos (by simp only [List.length_cons]; omega)]; rfl, q⟩

theorem Chg.put {a : Addr} {H H1 : Hp} {o : HO} (h : Chg a H H1) : Chg a H (L2.upd H1 a o) := h.trans Chg.upd
theorem Chg.lay {a p : Addr} {H H1 : Hp} {o : HO} (h : Chg a H H1) (hp : H1 p = none) : Chg a H (L2.upd H1 p o) := h.trans (Chg.new hp)
theorem Chg.putn {a D : Addr} {H H1 : Hp} {o : HO} (h : Chg a H H1) (hD : H D = none) : Chg a H (L2.upd H1 D o) := fun b u n e => by
  rw [upd_ne (ne_of_none e hD)]
  exact h b u n e
theorem Same.lay {p : Addr} {H H1 : Hp} {o : HO} (h : Same H H1) (hp : H1 p = none) : Same H (L2.upd H1 p o) := h.trans (same_new hp)

theorem g_cut {t u : TS} {D : Ends} {σ : L2.St} {H : Hp} (Mid : L2.St → Hp → Prop) (h1 : t { D with nx := Mid } σ H) (h2 : ∀ σ' H', Mid σ' H' → u D σ' H') : C8.tCut t u D σ H := ⟨Mid, h1, h2⟩
/-! ### heaps -/
theorem h_same {H : Hp} {a : Addr} {o u : HO} (e : o = u) : upd H a o a = some u := by rw [upd_same, e]
theorem h_ne {H : Hp} {a b : Addr} {o u : HO} (n : b ≠ a) (h : H b = some u) : upd H a o b = some u := by rw [upd_ne n]; exact h
theorem h_chg {H H' : Hp} {a b : Addr} {u : HO} (c : Chg a H H') (n : b ≠ a) (h : H b = some u) : H' b = some u := c b u n h
theorem h_sm {H H' : Hp} {b : Addr} {u : HO} (c : Same H H') (h : H b = some u) : H' b = some u := c b u h
/-! ### the rules that speak of the written part, with that part as a letter -/
section
variable {X : Cx} {K : PySem.W.Frag}
def qIx (K : PySem.W.Frag) : R2 := fun x y H Q => ∃ p xs i v, x = .ref p ∧ y = .int i ∧ (SqL K H p xs ∨ SqT K H p xs) ∧ atI xs i = some v ∧ Q v H
theorem k_ix (e : X.K = K) : IxR X (qIx K) := by
  subst e
  intro value slice pins s σ H x y v u Q I rx ry h hs
  obtain ⟨p, xs, i, z, e1, e2, h1 | h1, h2, h3⟩ := h
  · exact ix_list value slice pins s σ H x y v u Q I rx ry ⟨p, xs, i, z, e1, e2, h1, h2, h3⟩ hs
  · exact ix_tup value slice pins s σ H x y v u Q I rx ry ⟨p, xs, i, z, e1, e2, h1, h2, h3⟩ hs
theorem g_qix {H : Hp} {Q : VK} {p : Addr} {xs : List V} {i : Int} {v : V} (h : SqL K H p xs ∨ SqT K H p xs) (e : atI xs i = some v) (q : Q v H) : qIx K (.ref p) (.int i) H Q := ⟨p, xs, i, v, rfl, rfl, h, e, q⟩
theorem k_in (e : X.K = K) : OpR X (compareOp .In) (rIn K false) := by subst e; exact op_in_seq
theorem k_notin (e : X.K = K) : OpR X (compareOp .NotIn) (rIn K true) := by subst e; exact op_notIn_seq
theorem k_isi (e : X.K = K) : CallR X (.builtin "isinstance") (rIsi K) := by subst e; exact call_isi
theorem k_isiT (e : X.K = K) : CallR X (.builtin "isinstance") (rIsiT K) := by subst e; exact call_isiT
theorem k_len (e : X.K = K) : CallR X (.builtin "len") (qLen K) := by subst e; exact c_len
theorem k_list (e : X.K = K) : CallR X (.type "list") (qList K) := by subst e; exact c_list
theorem k_tuple (e : X.K = K) : CallR X (.type "tuple") (qTuple K) := by subst e; exact c_tuple
theorem k_sum (e : X.K = K) (c : X.calm = true) : CallR X (.builtin "sum") (rSum K) := by subst e; exact cr_sum c
theorem k_any (e : X.K = K) (c : X.calm = true) : CallR X (.builtin "any") (rAny K) := by subst e; exact cr_any c
theorem k_all (e : X.K = K) (c : X.calm = true) : CallR X (.builtin "all") (rAll K) := by subst e; exact cr_all c
theorem k_max (e : X.K = K) (c : X.calm = true) : CallR X (.builtin "max") (rMax K) := by subst e; exact cr_max c
theorem k_min (e : X.K = K) (c : X.calm = true) : CallR X (.builtin "min") (rMin K) := by subst e; exact cr_min c
theorem k_sl (e : X.K = K) : SlR X (rSlL K) := by subst e; exact sl_list
theorem k_index (e : X.K = K) : MtR X "list.index" (rIndex K) := by subst e; exact mt_index
theorem k_eqD (e : X.K = K) (hu : X.A.units + 64 < cLine) : OpR X (compareOp .Eq) (rEqD K) := by subst e; exact op_eqD hu
theorem k_neD (e : X.K = K) (hu : X.A.units + 64 < cLine) : OpR X (compareOp .NotEq) (rNeD K) := by subst e; exact op_neD hu
theorem k_pil {tg l : Expr} {tl : TE} (e : X.K = K) (hl : PE X l tl) : PI X tg l (iList K tl) := by subst e; exact pi_list hl
theorem k_pit {tg l : Expr} {tl : TE} (e : X.K = K) (hl : PE X l tl) : PI X tg l (iTup K tl) := by subst e; exact pi_tup hl
theorem k_pgt {es : List Expr} {k : Nat} {t : TGs} {n : Nat} {pos : Pos} (e : X.K = K) (hc : X.calm = true) (h : PGs X es t)
    (hn : (assignEach es X.env).length = n) (hst : (assignEach es X.env).findIdx? (·.1) = none) : PG X (.Tuple es k pos) (gTup K n t) := by subst e; exact pg_tup hc h hn hst
end
theorem g_qix0 {K : PySem.W.Frag} {p : Addr} {H : Hp} {Q : VK} {v : V} {r : List V} (h : SqL K H p (v :: r) ∨ SqT K H p (v :: r)) (q : Q v H) : qIx K (.ref p) (.int 0) H Q := g_qix h (atI_nat (j := 0) rfl) q
theorem g_qix1 {K : PySem.W.Frag} {p : Addr} {H : Hp} {Q : VK} {x0 : V} {v : V} {r : List V} (h : SqL K H p (x0 :: v :: r) ∨ SqT K H p (x0 :: v :: r)) (q : Q v H) : qIx K (.ref p) (.int 1) H Q := g_qix h (atI_nat (j := 1) rfl) q
theorem g_qix2 {K : PySem.W.Frag} {p : Addr} {H : Hp} {Q : VK} {x0 x1 : V} {v : V} {r : List V} (h : SqL K H p (x0 :: x1 :: v :: r) ∨ SqT K H p (x0 :: x1 :: v :: r)) (q : Q v H) : qIx K (.ref p) (.int 2) H Q := g_qix h (atI_nat (j := 2) rfl) q
theorem g_qix3 {K : PySem.W.Frag} {p : Addr} {H : Hp} {Q : VK} {x0 x1 x2 : V} {v : V} {r : List V} (h : SqL K H p (x0 :: x1 :: x2 :: v :: r) ∨ SqT K H p (x0 :: x1 :: x2 :: v :: r)) (q : Q v H) : qIx K (.ref p) (.int 3) H Q := g_qix h (atI_nat (j := 3) rfl) q
theorem g_qix4 {K : PySem.W.Frag} {p : Addr} {H : Hp} {Q : VK} {x0 x1 x2 x3 : V} {v : V} {r : List V} (h : SqL K H p (x0 :: x1 :: x2 :: x3 :: v :: r) ∨ SqT K H p (x0 :: x1 :: x2 :: x3 :: v :: r)) (q : Q v H) : qIx K (.ref p) (.int 4) H Q := g_qix h (atI_nat (j := 4) rfl) q
theorem g_qix5 {K : PySem.W.Frag} {p : Addr} {H : Hp} {Q : VK} {x0 x1 x2 x3 x4 : V} {v : V} {r : List V} (h : SqL K H p (x0 :: x1 :: x2 :: x3 :: x4 :: v :: r) ∨ SqT K H p (x0 :: x1 :: x2 :: x3 :: x4 :: v :: r)) (q : Q v H) : qIx K (.ref p) (.int 5) H Q := g_qix h (atI_nat (j := 5) rfl) q
theorem g_qix6 {K : PySem.W.Frag} {p : Addr} {H : Hp} {Q : VK} {x0 x1 x2 x3 x4 x5 : V} {v : V} {r : List V} (h : SqL K H p (x0 :: x1 :: x2 :: x3 :: x4 :: x5 :: v :: r) ∨ SqT K H p (x0 :: x1 :: x2 :: x3 :: x4 :: x5 :: v :: r)) (q : Q v H) : qIx K (.ref p) (.int 6) H Q := g_qix h (atI_nat (j := 6) rfl) q
theorem g_qix7 {K : PySem.W.Frag} {p : Addr} {H : Hp} {Q : VK} {x0 x1 x2 x3 x4 x5 x6 : V} {v : V} {r : List V} (h : SqL K H p (x0 :: x1 :: x2 :: x3 :: x4 :: x5 :: x6 :: v :: r) ∨ SqT K H p (x0 :: x1 :: x2 :: x3 :: x4 :: x5 :: x6 :: v :: r)) (q : Q v H) : qIx K (.ref p) (.int 7) H Q := g_qix h (atI_nat (j := 7) rfl) q
theorem g_qix8 {K : PySem.W.Frag} {p : Addr} {H : Hp} {Q : VK} {x0 x1 x2 x3 x4 x5 x6 x7 : V} {v : V} {r : List V} (h : SqL K H p (x0 :: x1 :: x2 :: x3 :: x4 :: x5 :: x6 :: x7 :: v :: r) ∨ SqT K H p (x0 :: x1 :: x2 :: x3 :: x4 :: x5 :: x6 :: x7 :: v :: r)) (q : Q v H) : qIx K (.ref p) (.int 8) H Q := g_qix h (atI_nat (j := 8) rfl) q
theorem g_qix9 {K : PySem.W.Frag} {p : Addr} {H : Hp} {Q : VK} {x0 x1 x2 x3 x4 x5 x6 x7 x8 : V} {v : V} {r : List V} (h : SqL K H p (x0 :: x1 :: x2 :: x3 :: x4 :: x5 :: x6 :: x7 :: x8 :: v :: r) ∨ SqT K H p (x0 :: x1 :: x2 :: x3 :: x4 :: x5 :: x6 :: x7 :: x8 :: v :: r)) (q : Q v H) : qIx K (.ref p) (.int 9) H Q := g_qix h (atI_nat (j := 9) rfl) q
theorem chg_same {H H' : Hp} {D : Addr} (c : Chg D H H') (hD : H D = none) : Same H H' := fun b o e => c b o (ne_of_none e hD) e
theorem seqT_same {K : PySem.W.Frag} {H H' : Hp} {a : Addr} {xs : List V} (s : Same H H') (h : SqT K H a xs) : SqT K H' a xs := by
  rcases h with (h | ⟨o, h⟩) | h
  · exact .inl (.inl (s _ _ h))
  · exact .inl (.inr ⟨o, s _ _ h⟩)
  · exact .inr h
theorem lt_same {K : PySem.W.Frag} {H H' : Hp} {a : Addr} {xs : List V} (s : Same H H') (h : SqL K H a xs ∨ SqT K H a xs) : SqL K H' a xs ∨ SqT K H' a xs := by
  rcases h with h | h
  · exact .inl (s.seq h)
  · exact .inr (seqT_same s h)
/-! ### a conditional expression as a test -/
def tIfT (t ta tb : TT) : TT := fun σ H Q => t σ H fun k H1 => if k = true then ta σ H1 Q else tb σ H1 Q
theorem pt_ifE {X : Cx} {c a b : Expr} {pos : Pos} {t ta tb : TT} (hc : PT X c t) (ha : PT X a ta) (hb : PT X b tb) : PT X (.IfExp c a b pos) (tIfT t ta tb) := by
  refine ⟨fun pins s σ H Q I hw => PyProof.Rows.isTrue_IfExp (thn (hc.run pins s σ H _ I hw) fun k s1 ⟨H1, I1, q1⟩ => ?_)⟩
  cases k with
  | true => exact ha.run pins s1 σ H1 Q I1 (by simpa using q1)
  | false => exact hb.run pins s1 σ H1 Q I1 (by simpa using q1)
theorem g_ifT {t ta tb : TT} {σ : L2.St} {H : Hp} {Q : Bool → Hp → Prop} (h : t σ H fun k H1 => if k = true then ta σ H1 Q else tb σ H1 Q) : tIfT t ta tb σ H Q := h
instance st_g_ifT {t ta tb : TT} {σ : L2.St} {H : Hp} {Q : Bool → Hp → Prop} : Step (tIfT t ta tb σ H Q) (t σ H fun k H1 => if k = true then ta σ H1 Q else tb σ H1 Q) := ⟨fun z => g_ifT z⟩
/-! ### list(range(..)) -/
section
variable {σ : L2.St} {H : Hp} {Q : VK}
def RgNew (Q : VK) (a b : Int) (H1 : Hp) : Prop := RgOk a b ∧ ∀ q, H1 q = none → Q (.ref q) (upd H1 q (.lst (rgV a b)))
theorem g_lstRg {te : L2.St → Hp → (Int → Int → Hp → Prop) → Prop} (h : te σ H (RgNew Q)) : tLstRg te σ H Q := h
instance st_g_lstRg {te : L2.St → Hp → (Int → Int → Hp → Prop) → Prop} : Step (tLstRg te σ H Q) (te σ H (RgNew Q)) := ⟨fun z => g_lstRg z⟩
def Rg1R (R : Int → Int → Hp → Prop) (x : V) (H : Hp) : Prop := ∃ n, x = .int n ∧ R 0 n H
theorem g_tRg1 {ta : TE} {R : Int → Int → Hp → Prop} (h : ta σ H (Rg1R R)) : tRg1 ta σ H R := h
instance st_g_tRg1 {ta : TE} {R : Int → Int → Hp → Prop} : Step (tRg1 ta σ H R) (ta σ H (Rg1R R)) := ⟨fun z => g_tRg1 z⟩
theorem g_rg1R {R : Int → Int → Hp → Prop} {n : Int} (h : R 0 n H) : Rg1R R (.int n) H := ⟨n, rfl, h⟩
instance st_g_rg1R {R : Int → Int → Hp → Prop} {n : Int} : Step (Rg1R R (.int n) H) (R 0 n H) := ⟨fun z => g_rg1R z⟩
theorem g_rgNew {a b : Int} (c : 0 ≤ a ∧ b ≤ 16777216 ∧ a ≤ 16777216 ∧ 0 ≤ b) (h : ∀ q, H q = none → Q (.ref q) (upd H q (.lst (rgV a b)))) : RgNew Q a b H := ⟨.of_le c.1 c.2.1 c.2.2.1 c.2.2.2, h⟩
end
/-! ### lists of ints compared -/
def dInts (ns : List Int) : List PyData := ns.map PyData.int
theorem dp_ints {K : PySem.W.Frag} {H : Hp} : ∀ ns : List Int, DpAll K H (ns.map V.int) (dInts ns)
  | [] => .nil
  | n :: r => .cons (.int n) (dp_ints r)
theorem can_ints : ∀ ns : List Int, (PyData.list (dInts ns)).canLay0 = true ∧ PyData.depthAll (dInts ns) = 0
  | [] => ⟨rfl, rfl⟩
  | n :: r => by
    obtain ⟨h1, h2⟩ := can_ints r
    refine ⟨?_, ?_⟩
    · show (PyData.canLay0 (.int n) && PyData.canLayAll0 (dInts r)) = true
      rw [show PyData.canLayAll0 (dInts r) = true from h1]
      rfl
    · show max (PyData.depth (.int n)) (PyData.depthAll (dInts r)) = 0
      rw [h2]
      rfl
theorem shaped_ints (ns : List Int) : SeqAt.shaped (.list (dInts ns)) = true := by
  obtain ⟨h1, h2⟩ := can_ints ns
  unfold SeqAt.shaped
  rw [h1, Bool.true_and]
  exact decide_eq_true (by show PyData.depthAll (dInts ns) + 1 ≤ 64; rw [h2]; decide)
theorem eqv_ints : ∀ a b : List Int, PyData.eqvAll (dInts a) (dInts b) = decide (a = b)
  | [], [] => rfl
  | [], _ :: _ => rfl
  | _ :: _, [] => rfl
  | x :: a, y :: b => by
    show (x == y && PyData.eqvAll (dInts a) (dInts b)) = decide (x :: a = y :: b)
    rw [eqv_ints a b]
    by_cases e : x = y
    · subst e; simp
    · simp [e]
theorem g_eqDI {K : PySem.W.Frag} {H : Hp} {Q : VK} {p q : Addr} {a b : List Int} (h1 : SqL K H p (a.map V.int)) (h2 : SqL K H q (b.map V.int)) (h : Q (.bl (decide (a = b))) H) : rEqD K (.ref p) (.ref q) H Q :=
  ⟨.list (dInts a), .list (dInts b), .lst h1 (dp_ints a), .lst h2 (dp_ints b), shaped_ints a, shaped_ints b, by
    have e : PyData.eqv (.list (dInts a)) (.list (dInts b)) = decide (a = b) := eqv_ints a b
    rw [e]; exact h⟩
theorem g_neDI {K : PySem.W.Frag} {H : Hp} {Q : VK} {p q : Addr} {a b : List Int} (h1 : SqL K H p (a.map V.int)) (h2 : SqL K H q (b.map V.int)) (h : Q (.bl (!decide (a = b))) H) : rNeD K (.ref p) (.ref q) H Q :=
  ⟨.list (dInts a), .list (dInts b), .lst h1 (dp_ints a), .lst h2 (dp_ints b), shaped_ints a, shaped_ints b, by
    have e : PyData.eqv (.list (dInts a)) (.list (dInts b)) = decide (a = b) := eqv_ints a b
    rw [e]; exact h⟩
theorem sqL_new {K : PySem.W.Frag} {H : Hp} {p a : Addr} {o : HO} {xs : List V} (hp : H p = none) (h : SqL K H a xs) : SqL K (upd H p o) a xs := (same_new hp).seq h
theorem sqT_new {K : PySem.W.Frag} {H : Hp} {p a : Addr} {o : HO} {xs : List V} (hp : H p = none) (h : SqT K H a xs) : SqT K (upd H p o) a xs := seqT_same (same_new hp) h
theorem sqL_sm {K : PySem.W.Frag} {H H' : Hp} {a : Addr} {xs : List V} (s : L2.Same H H') (h : SqL K H a xs) : SqL K H' a xs := s.seq h
theorem tyL {K : PySem.W.Frag} {H : Hp} {a : Addr} {xs : List V} (h : SqL K H a xs) : TyX K H (.ref a) (.type "list") := by
  rcases h with (h | ⟨o, h⟩) | ⟨o, its, n, h, c, _⟩
  · exact .base (.lst h)
  · exact .base (.frz h)
  · exact .kList h c
theorem tyT {K : PySem.W.Frag} {H : Hp} {a : Addr} {xs : List V} (h : SqT K H a xs) : TyX K H (.ref a) (.type "tuple") := by
  rcases h with (h | ⟨o, h⟩) | ⟨o, its, n, h, c, _⟩
  · exact .base (.tup h)
  · exact .fTuple h
  · exact .kTuple h c
/-! ### isinstance -/
theorem kb_int_int : kitB "int" "int" = some true := by decide +kernel
theorem kb_int_str : kitB "int" "str" = some false := by decide +kernel
theorem kb_int_bool : kitB "int" "bool" = some false := by decide +kernel
theorem kb_int_list : kitB "int" "list" = some false := by decide +kernel
theorem kb_int_tuple : kitB "int" "tuple" = some false := by decide +kernel
theorem kb_str_int : kitB "str" "int" = some false := by decide +kernel
theorem kb_str_str : kitB "str" "str" = some true := by decide +kernel
theorem kb_str_bool : kitB "str" "bool" = some false := by decide +kernel
theorem kb_str_list : kitB "str" "list" = some false := by decide +kernel
theorem kb_str_tuple : kitB "str" "tuple" = some false := by decide +kernel
theorem kb_bool_int : kitB "bool" "int" = some true := by decide +kernel
theorem kb_bool_str : kitB "bool" "str" = some false := by decide +kernel
theorem kb_bool_bool : kitB "bool" "bool" = some true := by decide +kernel
theorem kb_bool_list : kitB "bool" "list" = some false := by decide +kernel
theorem kb_bool_tuple : kitB "bool" "tuple" = some false := by decide +kernel
theorem kb_NoneType_int : kitB "NoneType" "int" = some false := by decide +kernel
theorem kb_NoneType_str : kitB "NoneType" "str" = some false := by decide +kernel
theorem kb_NoneType_bool : kitB "NoneType" "bool" = some false := by decide +kernel
theorem kb_NoneType_list : kitB "NoneType" "list" = some false := by decide +kernel
theorem kb_NoneType_tuple : kitB "NoneType" "tuple" = some false := by decide +kernel
theorem kb_list_int : kitB "list" "int" = some false := by decide +kernel
theorem kb_list_str : kitB "list" "str" = some false := by decide +kernel
theorem kb_list_bool : kitB "list" "bool" = some false := by decide +kernel
theorem kb_list_list : kitB "list" "list" = some true := by decide +kernel
theorem kb_list_tuple : kitB "list" "tuple" = some false := by decide +kernel
theorem kb_tuple_int : kitB "tuple" "int" = some false := by decide +kernel
theorem kb_tuple_str : kitB "tuple" "str" = some false := by decide +kernel
theorem kb_tuple_bool : kitB "tuple" "bool" = some false := by decide +kernel
theorem kb_tuple_list : kitB "tuple" "list" = some false := by decide +kernel
theorem kb_tuple_tuple : kitB "tuple" "tuple" = some true := by decide +kernel
class KbC (t T : String) (b : outParam Bool) : Prop where
  h : kitB t T = some b
instance ki_int_int : KbC "int" "int" true := ⟨kb_int_int⟩
instance ki_int_str : KbC "int" "str" false := ⟨kb_int_str⟩
instance ki_int_bool : KbC "int" "bool" false := ⟨kb_int_bool⟩
instance ki_int_list : KbC "int" "list" false := ⟨kb_int_list⟩
instance ki_int_tuple : KbC "int" "tuple" false := ⟨kb_int_tuple⟩
instance ki_str_int : KbC "str" "int" false := ⟨kb_str_int⟩
instance ki_str_str : KbC "str" "str" true := ⟨kb_str_str⟩
instance ki_str_bool : KbC "str" "bool" false := ⟨kb_str_bool⟩
instance ki_str_list : KbC "str" "list" false := ⟨kb_str_list⟩
instance ki_str_tuple : KbC "str" "tuple" false := ⟨kb_str_tuple⟩
instance ki_bool_int : KbC "bool" "int" true := ⟨kb_bool_int⟩
instance ki_bool_str : KbC "bool" "str" false := ⟨kb_bool_str⟩
instance ki_bool_bool : KbC "bool" "bool" true := ⟨kb_bool_bool⟩
instance ki_bool_list : KbC "bool" "list" false := ⟨kb_bool_list⟩
instance ki_bool_tuple : KbC "bool" "tuple" false := ⟨kb_bool_tuple⟩
instance ki_NoneType_int : KbC "NoneType" "int" false := ⟨kb_NoneType_int⟩
instance ki_NoneType_str : KbC "NoneType" "str" false := ⟨kb_NoneType_str⟩
instance ki_NoneType_bool : KbC "NoneType" "bool" false := ⟨kb_NoneType_bool⟩
instance ki_NoneType_list : KbC "NoneType" "list" false := ⟨kb_NoneType_list⟩
instance ki_NoneType_tuple : KbC "NoneType" "tuple" false := ⟨kb_NoneType_tuple⟩
instance ki_list_int : KbC "list" "int" false := ⟨kb_list_int⟩
instance ki_list_str : KbC "list" "str" false := ⟨kb_list_str⟩
instance ki_list_bool : KbC "list" "bool" false := ⟨kb_list_bool⟩
instance ki_list_list : KbC "list" "list" true := ⟨kb_list_list⟩
instance ki_list_tuple : KbC "list" "tuple" false := ⟨kb_list_tuple⟩
instance ki_tuple_int : KbC "tuple" "int" false := ⟨kb_tuple_int⟩
instance ki_tuple_str : KbC "tuple" "str" false := ⟨kb_tuple_str⟩
instance ki_tuple_bool : KbC "tuple" "bool" false := ⟨kb_tuple_bool⟩
instance ki_tuple_list : KbC "tuple" "list" false := ⟨kb_tuple_list⟩
instance ki_tuple_tuple : KbC "tuple" "tuple" true := ⟨kb_tuple_tuple⟩
theorem g_isi {K : PySem.W.Frag} {H : Hp} {Q : VK} {x : V} {t T : String} {b : Bool} (ty : TyX K H x (.type t)) (hb : kitB t T = some b) (h : Q (.bl b) H) : rIsi K [x, .ty T] H Q :=
  ⟨x, .ty T, .type t, .type T, b, rfl, .ty T, ty, kit_ty hb, h⟩
theorem g_isiT2 {K : PySem.W.Frag} {H : Hp} {Q : VK} {x : V} {tp : Addr} {t T1 T2 : String} {b1 b2 : Bool} (e : H tp = some (.tup [.ty T1, .ty T2])) (ty : TyX K H x (.type t)) (h1 : kitB t T1 = some b1) (h2 : kitB t T2 = some b2)
    (h : Q (.bl (b1 || b2)) H) : rIsiT K [x, .ref tp] H Q := by
  refine ⟨x, tp, [.ty T1, .ty T2], .type t, [.type T1, .type T2], b1 || b2, rfl, e, .cons (.ty _) (.cons (.ty _) .nil), ty, ?_, h⟩
  refine kitAny_cons (kit_ty h1) (fun z => ?_) (fun z => by rw [z]; rfl)
  rw [z, Bool.false_or]
  exact kitAny_cons (kit_ty h2) (fun z => by rw [z]; exact kitAny_nil) (fun z => z)
/-! ### comprehensions and loops -/
section
variable {K : PySem.W.Frag} {g : TG} {tt : TT} {te : TE} {tb : TS} {vs : List Nat} {D0 : Ends} {σ σ0 : L2.St} {H : Hp} {Q : VK} {J : It} {a : Addr}
/-- one turn of a comprehension: the item x, the block's slots σ0, the list at D so far -/
def TurnD (D : Addr) (N : Hp → Prop) (y : V) (H4 : Hp) : Prop := ∃ acc, H4 D = some (.lst acc) ∧ acc.length < sizeLine ∧ N (upd H4 D (.lst (acc ++ [y])))
def TurnC (te : TE) (σ2 : L2.St) (D : Addr) (N : Hp → Prop) (b : Bool) (H3 : Hp) : Prop := if b = true then te σ2 H3 (TurnD D N) else N H3
def TurnB (tt : TT) (te : TE) (vs : List Nat) (σ0 : L2.St) (D : Addr) (N : Hp → Prop) (σ2 : L2.St) (H2 : Hp) : Prop := wipe σ2 vs = σ0 ∧ tt σ2 H2 (TurnC te σ2 D N)
def Turn1 (g : TG) (tt : TT) (te : TE) (vs : List Nat) (σ0 : L2.St) (D : Addr) (x : V) (H : Hp) (N : Hp → Prop) : Prop := g x σ0 H (TurnB tt te vs σ0 D N)
theorem g_turn1 {D : Addr} {x : V} {N : Hp → Prop} (h : g x σ0 H (TurnB tt te vs σ0 D N)) : Turn1 g tt te vs σ0 D x H N := h
instance st_g_turn1 {D : Addr} {x : V} {N : Hp → Prop} : Step (Turn1 g tt te vs σ0 D x H N) (g x σ0 H (TurnB tt te vs σ0 D N)) := ⟨fun z => g_turn1 z⟩
theorem g_turnB {D : Addr} {N : Hp → Prop} (e : wipe σ vs = σ0) (h : tt σ H (TurnC te σ D N)) : TurnB tt te vs σ0 D N σ H := ⟨e, h⟩
theorem g_turnCt {D : Addr} {N : Hp → Prop} (h : te σ H (TurnD D N)) : TurnC te σ D N true H := by unfold TurnC; rw [if_pos rfl]; exact h
instance st_g_turnCt {D : Addr} {N : Hp → Prop} : Step (TurnC te σ D N true H) (te σ H (TurnD D N)) := ⟨fun z => g_turnCt z⟩
theorem g_turnC {D : Addr} {N : Hp → Prop} {p : Prop} [Decidable p] (h1 : p → te σ H (TurnD D N)) (h2 : ¬ p → N H) : TurnC te σ D N (decide p) H := by
  unfold TurnC
  exact g_iteD h1 h2
theorem g_turnCb {D : Addr} {N : Hp → Prop} {b : Bool} (h1 : b = true → te σ H (TurnD D N)) (h2 : b = false → N H) : TurnC te σ D N b H := by
  unfold TurnC
  exact g_iteBB h1 h2
theorem g_turnD {D : Addr} {N : Hp → Prop} {y : V} {acc : List V} (h : H D = some (.lst acc)) (l : acc.length ≤ 1000) (q : N (upd H D (.lst (acc ++ [y])))) : TurnD D N y H := ⟨acc, h, small1000 l, q⟩
def LcG (J : It) (g : TG) (tt : TT) (te : TE) (vs : List Nat) (σ : L2.St) (Q : VK) (H1 : Hp) : Prop := ∀ D, H1 D = none → ∃ W : Nat → Nat → Hp → Prop,
  (∃ m, W 0 m (upd H1 D (.lst []))) ∧ ∀ i m H, W i m H → (J.stop i H ∧ Q (.ref D) H) ∨ (J.go i H ∧ ∃ Nx : Hp → Prop,
    (∀ H', Nx H' → ∃ m', m' < m ∧ W (i + 1) m' H') ∧ ∀ x H', J.yld i H x H' → Turn1 g tt te vs (wipe σ vs) D x H' Nx)
theorem g_lc {wi : TI} (h : wi σ H fun J H1 => LcG J g tt te vs σ Q H1) : tLc wi g tt te vs σ H Q := h
instance st_g_lc {wi : TI} : Step (tLc wi g tt te vs σ H Q) (wi σ H fun J H1 => LcG J g tt te vs σ Q H1) := ⟨fun z => g_lc z⟩
def ForG (J : It) (g : TG) (tb : TS) (D : Ends) (σ : L2.St) (H1 : Hp) : Prop := ∃ W : Nat → Nat → L2.St → Hp → Prop, (∃ m, W 0 m σ H1) ∧ ∀ i m σ H, W i m σ H →
  (J.stop i H ∧ D.nx σ H) ∨ (J.go i H ∧ ∃ N : L2.St → Hp → Prop, (∀ σ' H', N σ' H' → ∃ m', m' < m ∧ W (i + 1) m' σ' H') ∧
    ∀ x H', J.yld i H x H' → g x σ H' fun σ2 H2 => tb { D with nx := N, ct := N, bk := D.nx } σ2 H2)
theorem g_for {wi : TI} (h : wi σ H fun J H1 => ForG J g tb D0 σ H1) : tFor wi g tb D0 σ H := h
instance st_g_for {wi : TI} : Step (tFor wi g tb D0 σ H) (wi σ H fun J H1 => ForG J g tb D0 σ H1) := ⟨fun z => g_for z⟩
variable {R : It → Hp → Prop}
def Rng1R (ws : List V) (R : It → Hp → Prop) (H : Hp) : Prop := ∃ j : Int, ws = [.int j] ∧ -(2 ^ 62) ≤ j ∧ j < 2 ^ 62 ∧ R (Itr 0 j.toNat) H
theorem g_iRng1 {ta : TA} (h : ta σ H fun ws H1 => Rng1R ws R H1) : iRng1 ta σ H R := h
instance st_g_iRng1 {ta : TA} : Step (iRng1 ta σ H R) (ta σ H fun ws H1 => Rng1R ws R H1) := ⟨fun z => g_iRng1 z⟩
theorem g_rng1 {v : Int} (c : -(2 ^ 62) ≤ v ∧ v < 2 ^ 62) (h : R (Itr 0 v.toNat) H) : Rng1R [.int v] R H := ⟨v, rfl, c.1, c.2, h⟩
def Rng2R (ws : List V) (R : It → Hp → Prop) (H : Hp) : Prop := ∃ i j : Int, ws = [.int i, .int j] ∧ (-(2 ^ 62) ≤ i ∧ i < 2 ^ 62 ∧ -(2 ^ 62) ≤ j ∧ j < 2 ^ 62) ∧ R (Itr i (j - i).toNat) H
theorem g_iRng2 {ta : TA} (h : ta σ H fun ws H1 => Rng2R ws R H1) : iRng2 ta σ H R := h
instance st_g_iRng2 {ta : TA} : Step (iRng2 ta σ H R) (ta σ H fun ws H1 => Rng2R ws R H1) := ⟨fun z => g_iRng2 z⟩
theorem g_rng2 {i j : Int} (c : -(2 ^ 62) ≤ i ∧ i < 2 ^ 62 ∧ -(2 ^ 62) ≤ j ∧ j < 2 ^ 62) (h : R (Itr i (j - i).toNat) H) : Rng2R [.int i, .int j] R H := ⟨i, j, rfl, c, h⟩
def LstR (K : PySem.W.Frag) (x : V) (R : It → Hp → Prop) (H : Hp) : Prop := ∃ a, x = .ref a ∧ (∃ xs, SqL K H a xs) ∧ R (Itl K a) H
theorem g_iList {tl : TE} (h : tl σ H fun x H1 => LstR K x R H1) : iList K tl σ H R := h
instance st_g_iList {tl : TE} : Step (iList K tl σ H R) (tl σ H fun x H1 => LstR K x R H1) := ⟨fun z => g_iList z⟩
theorem g_lstR {xs : List V} (c : SqL K H a xs) (h : R (Itl K a) H) : LstR K (.ref a) R H := ⟨a, rfl, ⟨xs, c⟩, h⟩
def TupR (K : PySem.W.Frag) (x : V) (R : It → Hp → Prop) (H : Hp) : Prop := ∃ a, x = .ref a ∧ (∃ xs, SqT K H a xs) ∧ R (Itt K a) H
theorem g_iTup {tl : TE} (h : tl σ H fun x H1 => TupR K x R H1) : iTup K tl σ H R := h
instance st_g_iTup {tl : TE} : Step (iTup K tl σ H R) (tl σ H fun x H1 => TupR K x R H1) := ⟨fun z => g_iTup z⟩
theorem g_tupR {xs : List V} (c : SqT K H a xs) (h : R (Itt K a) H) : TupR K (.ref a) R H := ⟨a, rfl, ⟨xs, c⟩, h⟩
def WhB (tb : TS) (D : Ends) (W : Nat → L2.St → Hp → Prop) (m : Nat) (σ : L2.St) (b : Bool) (H1 : Hp) : Prop :=
  if b = true then ∃ N : L2.St → Hp → Prop, (∀ σ' H', N σ' H' → ∃ m', m' < m ∧ W m' σ' H') ∧ tb { D with nx := N, ct := N, bk := D.nx } σ H1 else D.nx σ H1
theorem g_while {c : TT} (W : Nat → L2.St → Hp → Prop) (h0 : ∃ m, W m σ H) (hs : ∀ m σ H, W m σ H → c σ H (WhB tb D0 W m σ)) : tWhile c tb D0 σ H := ⟨W, h0, hs⟩
theorem g_whB {W : Nat → L2.St → Hp → Prop} {m : Nat} {p : Prop} [Decidable p] (h1 : p → tb { D0 with nx := fun σ' H' => ∃ m', m' < m ∧ W m' σ' H', ct := fun σ' H' => ∃ m', m' < m ∧ W m' σ' H', bk := D0.nx } σ H)
    (h2 : ¬ p → D0.nx σ H) : WhB tb D0 W m σ (decide p) H := by
  unfold WhB
  exact g_iteD (fun h => ⟨_, fun _ _ z => z, h1 h⟩) h2
/-- a comprehension over a range: Pv by the turns done and the heap, the new list at D -/
theorem lcR {lo : Int} {n : Nat} (hw : wipe σ vs = σ0) (h : ∀ D, H D = none → ∃ Pv : Nat → Hp → Prop, Pv 0 (upd H D (.lst [])) ∧
    (∀ (i : Nat) (H' : Hp), i < n → Pv i H' → Turn1 g tt te vs σ0 D (.int (lo + i)) H' (Pv (i + 1))) ∧ ∀ H', Pv n H' → Q (.ref D) H') : LcG (Itr lo n) g tt te vs σ Q H := by
  subst hw
  intro D hD
  obtain ⟨Pv, h0, hs, hd⟩ := h D hD
  refine ⟨fun i m H => m = n - i ∧ i ≤ n ∧ Pv i H, ⟨n, by simp, Nat.zero_le _, h0⟩, ?_⟩
  rintro i m H ⟨rfl, hi, p⟩
  rcases Nat.lt_or_ge i n with hlt | hge
  · exact .inr ⟨hlt, Pv (i + 1), fun H' p' => ⟨n - (i + 1), by omega, rfl, hlt, p'⟩, fun x H' ⟨e1, e2⟩ => by subst e1 e2; exact hs i _ hlt p⟩
  · have e : i = n := by omega
    subst e
    exact .inl ⟨Nat.le_refl _, hd H p⟩
theorem lcL {xs : List V} (hw : wipe σ vs = σ0) (h : ∀ D, H D = none → ∃ Pv : Nat → Hp → Prop, Pv 0 (upd H D (.lst [])) ∧ (∀ i H', i ≤ xs.length → Pv i H' → SqL K H' a xs) ∧
    (∀ (i : Nat) (x : V) (H' : Hp), xs[i]? = some x → Pv i H' → Turn1 g tt te vs σ0 D x H' (Pv (i + 1))) ∧ ∀ H', Pv xs.length H' → Q (.ref D) H') : LcG (Itl K a) g tt te vs σ Q H := by
  subst hw
  intro D hD
  obtain ⟨Pv, h0, hl, hs, hd⟩ := h D hD
  refine ⟨fun i m H => m = xs.length - i ∧ i ≤ xs.length ∧ Pv i H, ⟨xs.length, by simp, Nat.zero_le _, h0⟩, ?_⟩
  rintro i m H ⟨rfl, hi, p⟩
  have q := hl i H hi p
  rcases Nat.lt_or_ge i xs.length with hlt | hge
  · exact .inr ⟨⟨xs, xs[i], q, by simp [hlt]⟩, Pv (i + 1), fun H' p' => ⟨xs.length - (i + 1), by omega, rfl, hlt, p'⟩, fun x H' ⟨e1, e2⟩ => by subst e1; exact hs i x _ (e2 xs q) p⟩
  · have e : i = xs.length := by omega
    subst e
    exact .inl ⟨⟨xs, q, Nat.le_refl _⟩, hd H p⟩
/-- over a list of ints, nothing changed within a turn: p tells which items are kept, f what stands for them -/
theorem lcP {S : List Int} {f : Int → V} {p : Int → Bool} (hw : wipe σ vs = σ0) (hS : SqL K H a (S.map V.int)) (hl : S.length ≤ 1000)
    (turn : ∀ (D : Addr) (acc : List V) (x : Int) (N : Hp → Prop), H D = none → x ∈ S → (p x = true → TurnD D N (f x) (upd H D (.lst acc))) → (p x = false → N (upd H D (.lst acc))) →
      Turn1 g tt te vs σ0 D (.int x) (upd H D (.lst acc)) N)
    (q : ∀ D, H D = none → Q (.ref D) (upd H D (.lst ((S.filter p).map f)))) : LcG (Itl K a) g tt te vs σ Q H := by
  refine lcL (xs := S.map V.int) hw fun D hD => ⟨fun i H' => H' = upd H D (.lst (((S.take i).filter p).map f)), rfl, ?_, ?_, ?_⟩
  · rintro i H' _ rfl
    exact (same_new hD).seq hS
  · rintro i x H' hx rfl
    rw [List.getElem?_map, Option.map_eq_some_iff] at hx
    obtain ⟨n, hn, rfl⟩ := hx
    have hlt : i < S.length := (List.getElem?_eq_some_iff.mp hn).1
    refine turn D _ n _ hD (List.mem_of_getElem? hn) (fun hp => g_turnD upd_same ?_ ?_) (fun hp => ?_)
    · rw [List.length_map]
      have h1 := List.length_filter_le p (S.take i)
      rw [List.length_take] at h1
      omega
    · dsimp only
      rw [upd_upd, List.take_add_one, hn, List.filter_append, List.map_append]
      simp [hp]
    · dsimp only
      rw [List.take_add_one, hn, List.filter_append]
      simp [hp]
  · rintro H' rfl
    rw [List.length_map, List.take_length]
    exact q D hD
/-- the same over range(n) -/
theorem lcPR {n : Nat} {f : Nat → V} {p : Nat → Bool} (hw : wipe σ vs = σ0) (hl : n ≤ 1000)
    (turn : ∀ (D : Addr) (acc : List V) (x : Nat) (N : Hp → Prop), H D = none → x < n → (p x = true → TurnD D N (f x) (upd H D (.lst acc))) → (p x = false → N (upd H D (.lst acc))) →
      Turn1 g tt te vs σ0 D (.int (0 + (x : Int))) (upd H D (.lst acc)) N)
    (q : ∀ D, H D = none → Q (.ref D) (upd H D (.lst (((List.range n).filter p).map f)))) : LcG (Itr 0 n) g tt te vs σ Q H := by
  refine lcR hw fun D hD => ⟨fun i H' => H' = upd H D (.lst (((List.range i).filter p).map f)), rfl, ?_, ?_⟩
  · rintro i H' hi rfl
    refine turn D _ i _ hD hi (fun hp => g_turnD upd_same ?_ ?_) (fun hp => ?_)
    · rw [List.length_map]
      have h1 := List.length_filter_le p (List.range i)
      rw [List.length_range] at h1
      omega
    · dsimp only
      rw [upd_upd, List.range_succ, List.filter_append, List.map_append]
      simp [hp]
    · dsimp only
      rw [List.range_succ, List.filter_append]
      simp [hp]
  · rintro H' rfl
    exact q D hD
theorem forL {xs : List V} (h : ∃ Pv : Nat → L2.St → Hp → Prop, Pv 0 σ H ∧ (∀ i σ' H', i ≤ xs.length → Pv i σ' H' → SqL K H' a xs) ∧
    (∀ i x σ' H', xs[i]? = some x → Pv i σ' H' → g x σ' H' fun σ2 H2 => tb { D0 with nx := Pv (i + 1), ct := Pv (i + 1), bk := D0.nx } σ2 H2) ∧ ∀ σ' H', Pv xs.length σ' H' → D0.nx σ' H') : ForG (Itl K a) g tb D0 σ H := by
  obtain ⟨Pv, h0, hl, hs, hd⟩ := h
  exact for_list Pv h0 hl hs hd
theorem forR {lo : Int} {n : Nat} (h : ∃ Pv : Nat → L2.St → Hp → Prop, Pv 0 σ H ∧
    (∀ i σ' H', i < n → Pv i σ' H' → g (.int (lo + i)) σ' H' fun σ2 H2 => tb { D0 with nx := Pv (i + 1), ct := Pv (i + 1), bk := D0.nx } σ2 H2) ∧ ∀ σ' H', Pv n σ' H' → D0.nx σ' H') : ForG (Itr lo n) g tb D0 σ H := by
  obtain ⟨Pv, h0, hs, hd⟩ := h
  exact for_range Pv h0 hs hd
theorem forT {xs : List V} (h : ∃ Pv : Nat → L2.St → Hp → Prop, Pv 0 σ H ∧ (∀ i σ' H', i ≤ xs.length → Pv i σ' H' → SqT K H' a xs) ∧
    (∀ i x σ' H', xs[i]? = some x → Pv i σ' H' → g x σ' H' fun σ2 H2 => tb { D0 with nx := Pv (i + 1), ct := Pv (i + 1), bk := D0.nx } σ2 H2) ∧ ∀ σ' H', Pv xs.length σ' H' → D0.nx σ' H') : ForG (Itt K a) g tb D0 σ H := by
  obtain ⟨Pv, h0, hl, hs, hd⟩ := h
  exact for_tup Pv h0 hl hs hd
theorem g_app {p : Addr} {xs : List V} {y : V} {H : Hp} {Q : VK} (h : H p = some (.lst xs)) (hl : xs.length < 1000) (q : Q .non (upd H p (.lst (xs ++ [y])))) : rAppend (.ref p) [y] H Q :=
  ⟨p, xs, y, rfl, rfl, h, small1000 (Nat.le_of_lt hl), q⟩
/-- a turn that changes nothing: the item is kept if p says so, and f of it stands in the new list -/
def Pure1 (g : TG) (tt : TT) (te : TE) (vs : List Nat) (σ0 : L2.St) (p : V → Bool) (f : V → V) (x : V) (H : Hp) : Prop :=
  g x σ0 H fun σ2 H2 => wipe σ2 vs = σ0 ∧ tt σ2 H2 fun b H3 => if b = true then te σ2 H3 fun y H4 => p x = true ∧ y = f x ∧ H4 = H else p x = false ∧ H3 = H
end
theorem pure_step {H : Hp} {D : Addr} {xs : List V} {i : Nat} {x y : V} {p : V → Bool} {f : V → V} (hx : xs[i]? = some x) (hp : p x = true) (hy : y = f x) (hl : xs.length ≤ 1000) :
    ∃ acc, (upd H D (.lst (((xs.take i).filter p).map f))) D = some (.lst acc) ∧ acc.length < sizeLine ∧
      upd (upd H D (.lst (((xs.take i).filter p).map f))) D (.lst (acc ++ [y])) = upd H D (.lst (((xs.take (i + 1)).filter p).map f)) := by
  refine ⟨_, upd_same, small1000 ?_, ?_⟩
  · rw [List.length_map]
    have h1 := List.length_filter_le p (xs.take i)
    have h2 : (xs.take i).length ≤ xs.length := by rw [List.length_take]; exact Nat.min_le_right _ _
    omega
  · rw [upd_upd, List.take_add_one, hx, List.filter_append, List.map_append, hy]
    simp [hp]
theorem pure_skip {H : Hp} {D : Addr} {xs : List V} {i : Nat} {x : V} {p : V → Bool} {f : V → V} (hx : xs[i]? = some x) (hp : p x = false) :
    upd H D (.lst (((xs.take i).filter p).map f)) = upd H D (.lst (((xs.take (i + 1)).filter p).map f)) := by
  rw [List.take_add_one, hx, List.filter_append]
  simp [hp]
theorem cxK {CX : CXT} {P : Program} {w : World} {K : PySem.W.Frag} {mg : Str → Option Value} {base : Heap} {N : List Str} {q : Str} {sc : Scope} {f : Addr} {cdv : Value}
    {A : PySem.Around} {outer : List PySem.Env} {s : Shared} {H : Hp} {E : XK} : (cxOf CX P w K mg base N q sc f cdv A outer s H E).K = K := rfl
end Q
-- step instances

set_option Elab.async false
set_option linter.all false
set_option maxRecDepth 100000
namespace PySem
/-! enumerate(t) over a tuple -/
set_option maxHeartbeats 1000000 in
theorem qMeetsEnum {v : Value} {o : Obj} {HH : Heap → Prop} (B : Begins v o HH) :
    Meets (Builtin.«enumerate.__new__» ⟨[.type "enumerate", v], []⟩) (fun _ R s => HH s.heap ∧ R (.ok (.ret (.ref (s.heap.push o).objs.size)))
      { s with heap := (s.heap.push o).push { cls := .type "enumerate", data := .fields #[.none, .bool false, .ref s.heap.objs.size, rawInt 0, .none, .none] } }) :=
  .of_wp fun prog w A R s hyp => by
    obtain ⟨hp, gg, dd, tk, os⟩ := s
    obtain ⟨hstart, hyp⟩ := hyp
    have hsub := sub_enumerate
    have goIter : ∀ {A' : Around} {E : Value → Shared → Prop} {Q : Value → Shared → Prop}, Q (.ref hp.objs.size) ⟨hp.push o, gg, dd, tk, os⟩ → wpAny (model prog w) A' (pyIter v) Q E ⟨hp, gg, dd, tk, os⟩ :=
      fun z => B.iter prog w _ _ ⟨hp, gg, dd, tk, os⟩ _ hstart z
    wp_walk using goIter
    refine wpAny_stack_any fun st => wpAny_pure ?_
    split
    · rename_i c _ _ _ _ _
      cases (c == Value.type "enumerate") <;> (wp_walk using goIter; exact ⟨_, rfl, hyp⟩)
    · wp_walk using goIter
      exact ⟨_, rfl, hyp⟩
theorem qEnumBegin {prog : Program} {w : World} {A : Around} {E : Value → Shared → Prop} {s : Shared} {v : Value} {o : Obj} {HH : Heap → Prop} {Q : Value → Shared → Prop} (B : Begins v o HH) (hb : HH s.heap)
    (done : ∀ h', IsEnum h' (s.heap.objs.size + 1) s.heap.objs.size 0 .none → h'.get? s.heap.objs.size = some o →
      (∀ b o, s.heap.get? b = some o → h'.get? b = some o) → Q (.ref (s.heap.objs.size + 1)) { s with heap := h' }) :
    wpAny (model prog w) A (call (.type "enumerate") [v]) Q E s := by
  refine callType_new F.called_enumerate (by decide) (F.typeCall_enumerate_1 _) (F.newCall_enumerate_1 _) (fun obj => F.args_object_init_2 obj _) F.entry_enumerate_new (qMeetsEnum B) ⟨hb, ?_⟩
  have size1 : (s.heap.push o).objs.size = s.heap.objs.size + 1 := Heap.size_push ..
  show _ ∧ _
  rw [size1]
  have isE : IsEnum ((s.heap.push o).push { cls := .type "enumerate", data := .fields #[.none, .bool false, .ref s.heap.objs.size, rawInt 0, .none, .none] }) (s.heap.objs.size + 1) s.heap.objs.size 0 .none := by
    have z := Heap.get?_push_size (s.heap.push o) (o := { cls := .type "enumerate", data := .fields #[.none, .bool false, .ref s.heap.objs.size, rawInt 0, .none, .none] }) rfl
    rw [size1] at z
    exact z
  exact ⟨⟨_, isE, rfl⟩, done _ isE (Heap.get?_push_of_some _ (Heap.get?_push_size _ B.free)) fun b o x => Heap.get?_push_of_some _ (Heap.get?_push_of_some _ x)⟩
theorem qEnumEnd {prog : Program} {w : World} {A : Around} {E : Value → Shared → Prop} {s : Shared} {e it t : Addr} {i : Nat} {k : Int} {items : Array Value} {old : Value} {Q : Option Value → Shared → Prop} (hh : A.handled = none)
    (isE : IsEnum s.heap e it k old) (iti : s.heap.IsTupleIter it t i) (ht : s.heap.IsTuple t items) (no : items[i]? = none)
    (done : ∀ h', Heap.ExtBut it s.heap h' → Q none { s with heap := h' }) : wpAny (model prog w) A (pyNext (.ref e)) Q E s := by
  have tyE : s.TypeIs (.ref e) "enumerate" := ⟨_, isE, rfl⟩
  unfold pyNext
  refine wpAny_bind (wpAny_attempt (wpAny_callSpecial?_slot (name := Str.ofString "__next__") tyE F.slot_enumerate_next ?_))
  refine wpAny_call_entry F.slot_enumerate_next tyE F.entry_enumerate_next ?_ (F.args_enumerate_next_1 _)
  show wpAny _ _ (field (.ref e) 2 >>= _) _ _ s
  refine wpAny_bind (wpAny_field isE rfl (x := .ref it) rfl (wpAny_bind ?_))
  refine wpAny_nextOf_tuple_end (show A.in1.handled = none from hh) iti ht no fun h' x eb ⟨ox, hox, cx⟩ => ?_
  refine wpAny_bind (wpAny_isInstance (T := "StopIteration") (b := true) ⟨ox, hox, cx⟩ isSubtype_stop ?_)
  exact wpAny_pure (done _ eb)
end PySem
namespace Q
open PySem PySem.Spec L2 RZ
/-- the turns of enumerate over a tuple: a new pair each -/
def Iet (K : PySem.W.Frag) (a : Addr) : It :=
  ⟨fun i H => ∃ (xs : List V) (x : V), SqT K H a xs ∧ xs[i]? = some x,
    fun i H v H' => ∃ T x, v = .ref T ∧ H T = none ∧ H' = upd H T (.tup [.int (i : Nat), x]) ∧ ∀ xs, SqT K H a xs → xs[i]? = some x,
    fun i H => ∃ xs : List V, SqT K H a xs ∧ xs.length ≤ i⟩
theorem turnT {P : Program} {w : World} {K : PySem.W.Frag} {elts : List Expr} {kk : Nat} {tpos : Pos} (a e it : Addr) :
    L2.Turn P w K (.Tuple elts kk tpos) (Iet K a) [e, it] e (fun i h => (∃ old, IsEnum h e it ((i : Nat) : Int) old) ∧ h.IsTupleIter it a i ∧ e ≠ it) where
  mem := List.mem_cons_self ..
  obj := fun i h st b hb => by
    obtain ⟨⟨old, isE⟩, ⟨oi, hoi, _, hdi⟩, _⟩ := st
    rcases List.mem_cons.mp hb with z | z
    · exact ⟨_, by rw [z]; exact isE, fun v q => by cases q⟩
    · have z2 : b = it := by simpa using z
      exact ⟨oi, by rw [z2]; exact hoi, fun v q => by rw [hdi] at q; cases q⟩
  keep := fun i h h' ⟨⟨old, isE⟩, iti, ne⟩ k => ⟨⟨old, k e (by simp) _ isE⟩, iti.at fun o q => k it (by simp) o q, ne⟩
  item := by
    intro X hP hw hK hc i pins s σ H E I hf st hg
    subst hP hw hK
    obtain ⟨⟨old, isE⟩, iti, ne⟩ := st
    obtain ⟨xs, x, hq, hx⟩ := hg
    obtain ⟨its, rv, p, hz⟩ := I.tuple hq
    obtain ⟨u, hu, ru⟩ := rv.get hx
    have hT : s.heap.IsTuple a its.toArray := p
    have sz_e : e < s.heap.objs.size := Heap.lt_size isE
    have sz_i : it < s.heap.objs.size := by obtain ⟨_, q, _⟩ := iti; exact Heap.lt_size q
    have a_it : a ≠ it := fun z => by
      obtain ⟨o1, e1, c1, _⟩ := iti
      obtain ⟨o2, e2, c2, _⟩ := hT
      rw [z, e1] at e2
      cases e2
      rw [c1] at c2
      injection c2 with c3
      exact absurd c3 (by decide)
    have a_e : e ≠ a := fun z => by
      obtain ⟨o2, e2, c2, _⟩ := hT
      rw [← z, isE] at e2
      cases e2
      injection c2 with c3
      exact absurd c3 (by decide)
    have D := Draws.tuple (prog := X.prog) (w := X.w) (A := X.A.in1) (show X.A.in1.handled = none from I.ok.hd hc) it a a_it its.toArray
    have ilt : i < its.toArray.size := by
      have z := List.getElem?_eq_some_iff.mp hu
      rw [List.size_toArray]
      exact z.1
    refine wpAny_pyNext_enum_itemD D isE ⟨iti, hT⟩ ilt ne (by simp [a_e, ne]) fun y h' tk hy ho st' hTup hsz hk => ?_
    have ey : y = u := by
      have z : its.toArray[i]? = some u := by simpa using hu
      rw [z] at hy
      exact (Option.some.inj hy).symm
    subst ey
    refine ⟨_, rfl, wpAny_letOwnedTupleGo_enum (s := { s with heap := h', toks := tk + 1 }) ho fun h'' he' sb => ?_⟩
    have hT2 : h''.get? s.heap.objs.size = some { cls := .type "tuple", data := .seq #[.int i tk, y] } := (sb.2 _ (Nat.ne_of_gt sz_e)).trans hTup
    have new : ObjOk X.prog X.w (upd H s.heap.objs.size (.tup [.int (i : Nat), x])) h'' s.heap.objs.size (.tup [.int (i : Nat), x]) :=
      ⟨by show 2 ≤ sizeLine; decide, [.int i tk, y], .cons ⟨_, rfl⟩ (.cons ru .nil), ⟨_, hT2, rfl, _, rfl⟩⟩
    have I1 : Inv X pins σ (upd H s.heap.objs.size (.tup [.int (i : Nat), x])) { s with heap := h'', toks := tk + 1 } :=
      I.turnedNew (ch := [e, it]) (fun b ob hb q => (sb.2 b (fun z => hb (by simp [z]))).trans (hk b ob (fun z => hb (by simp [z])) (fun z => hb (by simp [z])) q)) hf (Nat.le_refl _) new
    refine ⟨.ref s.heap.objs.size, _, I1, rfl, ⟨_, x, rfl, I.hok.fresh (Nat.le_refl _), rfl, fun ys hy => by rw [I.tuple_inj hy hq]; exact hx⟩,
      ⟨⟨y, ?_⟩, st'.1.at fun o q => (sb.2 it (Ne.symm ne)).trans q, ne⟩, fun b hb => ?_⟩
    · rw [show ((i + 1 : Nat) : Int) = (i : Int) + 1 from by omega]
      exact he'
    · have lt : b < s.heap.objs.size := by
        rcases List.mem_cons.mp hb with z | z
        · rw [z]; exact sz_e
        · rw [show b = it from by simpa using z]; exact sz_i
      rw [upd_ne (Nat.ne_of_lt lt)]
      exact (hf b hb).1
  done := by
    intro X hP hw hK hc i pins s σ H E I hf st hg
    subst hP hw hK
    obtain ⟨⟨old, isE⟩, iti, ne⟩ := st
    obtain ⟨xs, hq, hx⟩ := hg
    obtain ⟨its, rv, p, hz⟩ := I.tuple hq
    obtain ⟨f0, f1, f2, f3, f4, f5⟩ := hf it (by simp)
    have hT : s.heap.IsTuple a its.toArray := p
    have none_i : its.toArray[i]? = none := by
      have z := rv.length
      rw [List.getElem?_toArray]
      exact List.getElem?_eq_none_iff.mpr (by omega)
    exact qEnumEnd (I.ok.hd hc) isE iti hT none_i fun h' eb => ⟨rfl, I.turned (t' := s.toks) (fun b o hb q => eb b o hb q) f0 f1 f3 f4 f5⟩
  self := fun A i s Q E ⟨⟨_, isE⟩, _⟩ hQ => wpAny_pyIter_enum isE hQ
/-- enumerate over a list or a tuple -/
def iEn2 (K : PySem.W.Frag) (ta : TA) : TI := fun σ H R => ta σ H fun vs H1 => ∃ a xs, vs = [.ref a] ∧ ((SqL K H1 a xs ∧ R (Ite K a) H1) ∨ (SqT K H1 a xs ∧ R (Iet K a) H1))
theorem pi_en2 {X : Cx} {e : Expr} {ta : TA} {p pos tpos : Pos} {elts : List Expr} {kk : Nat} (hg : Gl X "enumerate") (hm : X.mg "enumerate" = none) (ha : PA X [e] ta) (hs : starEach [e] X.env = [(false, eval e X.env)] := by rfl) :
    PI X (.Tuple elts kk tpos) (.Call (.Name "enumerate" p) [e] [] pos) (iEn2 X.K ta) := by
  refine ⟨fun pins s σ H R I h => ?_⟩
  refine PyProof.Rows.Call_ (ld_blt I hg hm PyProof.Rows.boot_enumerate (PyProof.Rows.callWith_type1 (thn (ha.run pos pins s σ H _ I h) fun us s1 ⟨vs, H1, I1, r1, q1⟩ => ?_) hs rfl))
  obtain ⟨a, xs, ex, hq⟩ := q1
  subst ex
  cases r1 with
  | cons r rr =>
    cases rr
    cases r
    have places : ∀ b ∈ [s1.heap.objs.size + 1, s1.heap.objs.size], s1.heap.objs.size ≤ b := fun b hb => by
      rcases List.mem_cons.mp hb with z | z
      · omega
      · have z2 : b = s1.heap.objs.size := by simpa using z
        omega
    rcases hq with ⟨hq, q⟩ | ⟨hq, q⟩
    · obtain ⟨its, rv, p', hz⟩ := I1.list hq
      refine call_enumerate_list p'.isList fun h' he hit hsz hk => wpAny_pyIter_enum he ?_
      exact ⟨s1.heap.objs.size + 1, [s1.heap.objs.size + 1, s1.heap.objs.size], _, _, H1, rfl, I1.kept (t' := s1.toks) hk, turn_enum a (s1.heap.objs.size + 1) s1.heap.objs.size,
        ⟨⟨.none, he⟩, hit, Nat.succ_ne_self _⟩, fun b hb => I1.fpOk (places b hb) (I1.hok.fresh (places b hb)), q⟩
    · obtain ⟨its, rv, p', hz⟩ := I1.tuple hq
      have hT : s1.heap.IsTuple a its.toArray := p'
      refine qEnumBegin (begins_tuple a its.toArray) hT fun h' he hit hk => wpAny_pyIter_enum he ?_
      exact ⟨s1.heap.objs.size + 1, [s1.heap.objs.size + 1, s1.heap.objs.size], _, _, H1, rfl, I1.kept (t' := s1.toks) hk, turnT a (s1.heap.objs.size + 1) s1.heap.objs.size,
        ⟨⟨.none, he⟩, ⟨_, hit, rfl, rfl⟩, Nat.succ_ne_self _⟩, fun b hb => I1.fpOk (places b hb) (I1.hok.fresh (places b hb)), q⟩
theorem k_en2 {X : Cx} {K : PySem.W.Frag} {e : Expr} {ta : TA} {p pos tpos : Pos} {elts : List Expr} {kk : Nat} (ek : X.K = K) (hg : Gl X "enumerate") (hm : X.mg "enumerate" = none) (ha : PA X [e] ta) (hs : starEach [e] X.env = [(false, eval e X.env)] := by rfl) :
    PI X (.Tuple elts kk tpos) (.Call (.Name "enumerate" p) [e] [] pos) (iEn2 K ta) := by subst ek; exact pi_en2 hg hm ha hs
section
variable {K : PySem.W.Frag} {g : TG} {tt : TT} {te : TE} {vs : List Nat} {σ σ0 : L2.St} {H : Hp} {Q : VK} {a : Addr} {R : It → Hp → Prop} {N : L2.St → Hp → Prop}
def En2R (K : PySem.W.Frag) (vs : List V) (R : It → Hp → Prop) (H : Hp) : Prop := ∃ a xs, vs = [.ref a] ∧ ((SqL K H a xs ∧ R (Ite K a) H) ∨ (SqT K H a xs ∧ R (Iet K a) H))
theorem g_iEn2 {ta : TA} (h : ta σ H fun ws H1 => En2R K ws R H1) : iEn2 K ta σ H R := h
instance st_g_iEn2 {ta : TA} : Step (iEn2 K ta σ H R) (ta σ H fun ws H1 => En2R K ws R H1) := ⟨fun z => g_iEn2 z⟩
theorem g_en2L {xs : List V} (c : SqL K H a xs) (h : R (Ite K a) H) : En2R K [.ref a] R H := ⟨a, xs, rfl, .inl ⟨c, h⟩⟩
theorem g_en2T {xs : List V} (c : SqT K H a xs) (h : R (Iet K a) H) : En2R K [.ref a] R H := ⟨a, xs, rfl, .inr ⟨c, h⟩⟩
def En1R (K : PySem.W.Frag) (vs : List V) (R : It → Hp → Prop) (H : Hp) : Prop := ∃ a xs, vs = [.ref a] ∧ SqL K H a xs ∧ R (Ite K a) H
theorem g_iEnum {ta : TA} (h : ta σ H fun ws H1 => En1R K ws R H1) : iEnum K ta σ H R := h
instance st_g_iEnum {ta : TA} : Step (iEnum K ta σ H R) (ta σ H fun ws H1 => En1R K ws R H1) := ⟨fun z => g_iEnum z⟩
theorem g_en1 {xs : List V} (c : SqL K H a xs) (h : R (Ite K a) H) : En1R K [.ref a] R H := ⟨a, xs, rfl, c, h⟩
theorem g_gTup {n : Nat} {t : TGs} {p : Addr} {xs : List V} (c : SqT K H p xs) (e : xs.length = n) (h : t xs σ H N) : gTup K n t (.ref p) σ H N := ⟨p, xs, rfl, c, e, h⟩
theorem g_gCons {t : TG} {u : TGs} {v : V} {r : List V} (h : t v σ H fun σ' H' => u r σ' H' N) : gCons t u (v :: r) σ H N := ⟨v, r, rfl, h⟩
instance st_g_gCons {t : TG} {u : TGs} {v : V} {r : List V} : Step (gCons t u (v :: r) σ H N) (t v σ H fun σ' H' => u r σ' H' N) := ⟨fun z => g_gCons z⟩
theorem g_gNil (h : N σ H) : gNil [] σ H N := ⟨rfl, h⟩
instance st_g_gNil : Step (gNil [] σ H N) (N σ H) := ⟨fun z => g_gNil z⟩
theorem lcE {xs : List V} (hw : wipe σ vs = σ0) (h : ∀ D, H D = none → ∃ Pv : Nat → Hp → Prop, Pv 0 (upd H D (.lst [])) ∧ (∀ i H', i ≤ xs.length → Pv i H' → SqL K H' a xs) ∧
    (∀ (i : Nat) (x : V) (T : Addr) (H' : Hp), xs[i]? = some x → Pv i H' → H' T = none → Turn1 g tt te vs σ0 D (.ref T) (upd H' T (.tup [.int (i : Nat), x])) (Pv (i + 1))) ∧
    ∀ H', Pv xs.length H' → Q (.ref D) H') : LcG (Ite K a) g tt te vs σ Q H := by
  subst hw
  intro D hD
  obtain ⟨Pv, h0, hl, hs, hd⟩ := h D hD
  refine ⟨fun i m H => m = xs.length - i ∧ i ≤ xs.length ∧ Pv i H, ⟨xs.length, by simp, Nat.zero_le _, h0⟩, ?_⟩
  rintro i m H ⟨rfl, hi, p⟩
  have q := hl i H hi p
  rcases Nat.lt_or_ge i xs.length with hlt | hge
  · exact .inr ⟨⟨xs, xs[i], q, by simp [hlt]⟩, Pv (i + 1), fun H' p' => ⟨xs.length - (i + 1), by omega, rfl, hlt, p'⟩, fun v H' ⟨T, x, e1, e2, e3, e4⟩ => by subst e1 e3; exact hs i x T _ (e4 xs q) p e2⟩
  · have e : i = xs.length := by omega
    subst e
    exact .inl ⟨⟨xs, q, Nat.le_refl _⟩, hd H p⟩
theorem lcET {xs : List V} (hw : wipe σ vs = σ0) (h : ∀ D, H D = none → ∃ Pv : Nat → Hp → Prop, Pv 0 (upd H D (.lst [])) ∧ (∀ i H', i ≤ xs.length → Pv i H' → SqT K H' a xs) ∧
    (∀ (i : Nat) (x : V) (T : Addr) (H' : Hp), xs[i]? = some x → Pv i H' → H' T = none → Turn1 g tt te vs σ0 D (.ref T) (upd H' T (.tup [.int (i : Nat), x])) (Pv (i + 1))) ∧
    ∀ H', Pv xs.length H' → Q (.ref D) H') : LcG (Iet K a) g tt te vs σ Q H := by
  subst hw
  intro D hD
  obtain ⟨Pv, h0, hl, hs, hd⟩ := h D hD
  refine ⟨fun i m H => m = xs.length - i ∧ i ≤ xs.length ∧ Pv i H, ⟨xs.length, by simp, Nat.zero_le _, h0⟩, ?_⟩
  rintro i m H ⟨rfl, hi, p⟩
  have q := hl i H hi p
  rcases Nat.lt_or_ge i xs.length with hlt | hge
  · exact .inr ⟨⟨xs, xs[i], q, by simp [hlt]⟩, Pv (i + 1), fun H' p' => ⟨xs.length - (i + 1), by omega, rfl, hlt, p'⟩, fun v H' ⟨T, x, e1, e2, e3, e4⟩ => by subst e1 e3; exact hs i x T _ (e4 xs q) p e2⟩
  · have e : i = xs.length := by omega
    subst e
    exact .inl ⟨⟨xs, q, Nat.le_refl _⟩, hd H p⟩
def ZipR (K : PySem.W.Frag) (vs : List V) (R : It → Hp → Prop) (H : Hp) : Prop := ∃ a b xs ys, vs = [.ref a, .ref b] ∧ ((SqL K H a xs ∧ SqL K H b ys ∧ R (Itz K a b) H) ∨ (SqT K H a xs ∧ SqT K H b ys ∧ R (ItzT K a b) H))
theorem g_iZipA {ta : TA} (h : ta σ H fun ws H1 => ZipR K ws R H1) : iZipA K ta σ H R := h
instance st_g_iZipA {ta : TA} : Step (iZipA K ta σ H R) (ta σ H fun ws H1 => ZipR K ws R H1) := ⟨fun z => g_iZipA z⟩
theorem g_zipL {b : Addr} {xs ys : List V} (c : SqL K H a xs) (d : SqL K H b ys) (h : R (Itz K a b) H) : ZipR K [.ref a, .ref b] R H := ⟨a, b, xs, ys, rfl, .inl ⟨c, d, h⟩⟩
theorem g_zipT {b : Addr} {xs ys : List V} (c : SqT K H a xs) (d : SqT K H b ys) (h : R (ItzT K a b) H) : ZipR K [.ref a, .ref b] R H := ⟨a, b, xs, ys, rfl, .inr ⟨c, d, h⟩⟩
theorem lcZ {b : Addr} {xs ys : List V} (hl : xs.length = ys.length) (hw : wipe σ vs = σ0) (h : ∀ D, H D = none → ∃ Pv : Nat → Hp → Prop, Pv 0 (upd H D (.lst [])) ∧ (∀ i H', Pv i H' → SqL K H' a xs ∧ SqL K H' b ys) ∧
    (∀ (i : Nat) (x y : V) (T : Addr) (H' : Hp), xs[i]? = some x → ys[i]? = some y → Pv i H' → H' T = none → Turn1 g tt te vs σ0 D (.ref T) (upd H' T (.tup [x, y])) (Pv (i + 1))) ∧
    ∀ H', Pv xs.length H' → Q (.ref D) H') : LcG (Itz K a b) g tt te vs σ Q H := by
  subst hw
  intro D hD
  obtain ⟨Pv, h0, hq, hs, hd⟩ := h D hD
  refine ⟨fun i m H => m = xs.length - i ∧ i ≤ xs.length ∧ Pv i H, ⟨xs.length, by simp, Nat.zero_le _, h0⟩, ?_⟩
  rintro i m H ⟨rfl, hi, p⟩
  obtain ⟨q1, q2⟩ := hq i H p
  rcases Nat.lt_or_ge i xs.length with hlt | hge
  · exact .inr ⟨⟨xs, ys, xs[i], ys[i]'(by omega), q1, q2, by simp [hlt], by simp⟩, Pv (i + 1), fun H' p' => ⟨xs.length - (i + 1), by omega, rfl, hlt, p'⟩,
      fun v H' ⟨T, x, y, e1, e2, e3, e4, e5⟩ => by subst e1 e3; exact hs i x y T _ (e4 xs q1) (e5 ys q2) p e2⟩
  · have e : i = xs.length := by omega
    subst e
    exact .inl ⟨⟨xs, ys, q1, q2, .inl (Nat.le_refl _)⟩, hd H p⟩
theorem lcZT {b : Addr} {xs ys : List V} (hl : xs.length = ys.length) (hw : wipe σ vs = σ0) (h : ∀ D, H D = none → ∃ Pv : Nat → Hp → Prop, Pv 0 (upd H D (.lst [])) ∧ (∀ i H', Pv i H' → SqT K H' a xs ∧ SqT K H' b ys) ∧
    (∀ (i : Nat) (x y : V) (T : Addr) (H' : Hp), xs[i]? = some x → ys[i]? = some y → Pv i H' → H' T = none → Turn1 g tt te vs σ0 D (.ref T) (upd H' T (.tup [x, y])) (Pv (i + 1))) ∧
    ∀ H', Pv xs.length H' → Q (.ref D) H') : LcG (ItzT K a b) g tt te vs σ Q H := by
  subst hw
  intro D hD
  obtain ⟨Pv, h0, hq, hs, hd⟩ := h D hD
  refine ⟨fun i m H => m = xs.length - i ∧ i ≤ xs.length ∧ Pv i H, ⟨xs.length, by simp, Nat.zero_le _, h0⟩, ?_⟩
  rintro i m H ⟨rfl, hi, p⟩
  obtain ⟨q1, q2⟩ := hq i H p
  rcases Nat.lt_or_ge i xs.length with hlt | hge
  · exact .inr ⟨⟨xs, ys, xs[i], ys[i]'(by omega), q1, q2, by simp [hlt], by simp⟩, Pv (i + 1), fun H' p' => ⟨xs.length - (i + 1), by omega, rfl, hlt, p'⟩,
      fun v H' ⟨T, x, y, e1, e2, e3, e4, e5⟩ => by subst e1 e3; exact hs i x y T _ (e4 xs q1) (e5 ys q2) p e2⟩
  · have e : i = xs.length := by omega
    subst e
    exact .inl ⟨⟨xs, ys, q1, q2, .inl (Nat.le_refl _)⟩, hd H p⟩
end
theorem k_zip {X : Cx} {K : PySem.W.Frag} {e e2 : Expr} {ta : TA} {p pos tpos : Pos} {elts : List Expr} {kk : Nat} (ek : X.K = K) (hg : Gl X "zip") (hm : X.mg "zip" = none) (ha : PA X [e, e2] ta)
    (hs : starEach [e, e2] X.env = (false, eval e X.env) :: starEach [e2] X.env := by rfl) (hl : (backTo pos (starEach [e2] X.env)).any (·.1) = false := by rfl) :
    PI X (.Tuple elts kk tpos) (.Call (.Name "zip" p) [e, e2] [] pos) (iZipA K ta) := by subst ek; exact pi_zipA hg hm ha hs hl
end Q
-- step instances

set_option Elab.async false
set_option linter.all false
set_option maxRecDepth 100000
set_option maxHeartbeats 2000000
/-! zip of lists and tuples, mixed -/
namespace Q
open PySem PySem.Spec L2 RZ
/-- a list (true) or a tuple (false) -/
def SqB (k : Bool) (K : PySem.W.Frag) (H : Hp) (a : Addr) (xs : List V) : Prop := if k = true then SqL K H a xs else SqT K H a xs
def IsB (k : Bool) (h : Heap) (a : Addr) (its : Array Value) : Prop := if k = true then h.IsList a its else h.IsTuple a its
def ItB (k : Bool) (h : Heap) (it a : Addr) (i : Nat) : Prop := if k = true then h.IsListIter it a i else h.IsTupleIter it a i
section
variable {X : Cx} {pins : List (Addr × Obj)} {σ : L2.St} {H : Hp} {s : Shared} {a it : Addr} {xs ys : List V} {k : Bool} {i : Nat} {h h' : Heap}
theorem sqB_of (I : Inv X pins σ H s) (c : SqB k X.K H a xs) : ∃ its : List Value, Vals xs its ∧ IsB k s.heap a its.toArray := by
  cases k
  · obtain ⟨its, r, p, _⟩ := I.tuple (show SqT X.K H a xs from c)
    exact ⟨its, r, show s.heap.IsTuple a its.toArray from p⟩
  · obtain ⟨its, r, p, _⟩ := I.list (show SqL X.K H a xs from c)
    exact ⟨its, r, show s.heap.IsList a its.toArray from p.isList⟩
theorem sqB_inj (I : Inv X pins σ H s) (c : SqB k X.K H a xs) (d : SqB k X.K H a ys) : xs = ys := by
  cases k
  · exact I.tuple_inj (show SqT X.K H a xs from c) d
  · exact I.list_inj (show SqL X.K H a xs from c) d
theorem ItB.keep (c : ItB k h it a i) (q : ∀ o, h.get? it = some o → h'.get? it = some o) : ItB k h' it a i := by
  cases k
  · exact Heap.IsTupleIter.at (show h.IsTupleIter it a i from c) q
  · exact Heap.IsListIter.at (show h.IsListIter it a i from c) q
theorem ItB.obj (c : ItB k h it a i) : ∃ o, h.get? it = some o ∧ ∀ v, o.data ≠ .cell v := by
  cases k
  · obtain ⟨o, e, _, d⟩ := (show h.IsTupleIter it a i from c)
    exact ⟨o, e, fun v z => by rw [d] at z; cases z⟩
  · obtain ⟨o, e, _, d⟩ := (show h.IsListIter it a i from c)
    exact ⟨o, e, fun v z => by rw [d] at z; cases z⟩
theorem IsB.lt {its : Array Value} (c : IsB k h a its) : a < h.objs.size := by
  cases k
  · obtain ⟨o, e, _⟩ := (show h.IsTuple a its from c)
    exact Heap.lt_size e
  · obtain ⟨o, e, _⟩ := (show h.IsList a its from c)
    exact Heap.lt_size e
theorem drawsB {P : Program} {w : World} {A : Around} (hh : A.handled = none) (k : Bool) (it l : Addr) (ne : l ≠ it) (items : Array Value) :
    Draws P w A it [it, l] items.size (fun i v => items[i]? = some v) (fun i h => ItB k h it l i ∧ IsB k h l items) := by
  cases k
  · exact Draws.tuple hh it l ne items
  · exact Draws.list hh it l ne items
def oB (k : Bool) (l : Addr) : Obj := { cls := .type (if k = true then "list_iterator" else "tuple_iterator"), data := .fields #[.ref l, .int 0 0] }
theorem beginsB (k : Bool) (l : Addr) (items : Array Value) : Begins (.ref l) (oB k l) fun h => IsB k h l items := by
  cases k
  · exact begins_tuple l items
  · exact begins_list l items
theorem oB_it {l : Addr} (e : h.get? it = some (oB k l)) : ItB k h it l 0 := by
  cases k
  · exact ⟨_, e, rfl, rfl⟩
  · exact ⟨_, e, rfl, rfl⟩
end
/-- the turns of zip over a and b: a new pair each -/
def Itm (K : PySem.W.Frag) (k l : Bool) (a b : Addr) : It :=
  ⟨fun i H => ∃ (xs ys : List V) (x y : V), SqB k K H a xs ∧ SqB l K H b ys ∧ xs[i]? = some x ∧ ys[i]? = some y,
    fun i H v H' => ∃ T x y, v = .ref T ∧ H T = none ∧ H' = upd H T (.tup [x, y]) ∧ (∀ xs, SqB k K H a xs → xs[i]? = some x) ∧ ∀ ys, SqB l K H b ys → ys[i]? = some y,
    fun i H => ∃ xs ys : List V, SqB k K H a xs ∧ SqB l K H b ys ∧ i ≤ xs.length ∧ i ≤ ys.length ∧ (i = xs.length ∨ i = ys.length)⟩
theorem turnM {P : Program} {w : World} {K : PySem.W.Frag} {elts : List Expr} {kk : Nat} {tpos : Pos} {k l : Bool} {a b z TI TO i1 i2 : Addr} (S : ZipSep2 z TI TO i1 i2 [i1, a] [i2, b]) :
    L2.Turn P w K (.Tuple elts kk tpos) (Itm K k l a b) [z, TI, TO, i1, i2] z
      (fun i h => IsZip h z TI TO .none ∧ IsTupOf2 h TI (.ref i1) (.ref i2) ∧ (∃ x y, IsTupOf2 h TO x y) ∧ ItB k h i1 a i ∧ ItB l h i2 b i) where
  mem := List.mem_cons_self ..
  obj := fun i h ⟨isZ, hTI, ⟨x, y, hTO⟩, t1, t2⟩ c hc => by
    have five : c = z ∨ c = TI ∨ c = TO ∨ c = i1 ∨ c = i2 := by simpa using hc
    rcases five with e | e | e | e | e <;> rw [e]
    · exact ⟨_, isZ, fun v q => by cases q⟩
    · exact ⟨_, hTI, fun v q => by cases q⟩
    · exact ⟨_, hTO, fun v q => by cases q⟩
    · exact t1.obj
    · exact t2.obj
  keep := fun i h h' ⟨isZ, hTI, ⟨x, y, hTO⟩, t1, t2⟩ kp =>
    ⟨kp z (by simp) _ isZ, kp TI (by simp) _ hTI, ⟨x, y, kp TO (by simp) _ hTO⟩, t1.keep fun o q => kp i1 (by simp) o q, t2.keep fun o q => kp i2 (by simp) o q⟩
  item := by
    intro X hP hw hK hc i pins s σ H E I hf ⟨isZ, hTI, ⟨x0, y0, hTO⟩, t1, t2⟩ ⟨xs, ys, x, y, cx, cy, hx, hy⟩
    subst hP hw hK
    obtain ⟨us, ru, pu⟩ := sqB_of I cx
    obtain ⟨vs, rv, pv⟩ := sqB_of I cy
    obtain ⟨u, hu, eu⟩ := ru.get hx
    obtain ⟨v, hv, ev⟩ := rv.get hy
    have hd : X.A.in1.handled = none := I.ok.hd hc
    have n1 : a ≠ i1 := fun e => by
      obtain ⟨o, e1, _⟩ := t1.obj
      have := S.sep1_2
      cases k
      · obtain ⟨o1, g1, c1, _⟩ := (show s.heap.IsTupleIter i1 a i from t1)
        obtain ⟨o2, g2, c2, _⟩ := (show s.heap.IsTuple a us.toArray from pu)
        rw [e, g1] at g2; cases g2; rw [c1] at c2; injection c2 with c3; exact absurd c3 (by decide)
      · obtain ⟨o1, g1, c1, _⟩ := (show s.heap.IsListIter i1 a i from t1)
        obtain ⟨o2, g2, c2, _⟩ := (show s.heap.IsList a us.toArray from pu)
        rw [e, g1] at g2; cases g2; rw [c1] at c2; injection c2 with c3; exact absurd c3 (by decide)
    have n2 : b ≠ i2 := fun e => by
      cases l
      · obtain ⟨o1, g1, c1, _⟩ := (show s.heap.IsTupleIter i2 b i from t2)
        obtain ⟨o2, g2, c2, _⟩ := (show s.heap.IsTuple b vs.toArray from pv)
        rw [e, g1] at g2; cases g2; rw [c1] at c2; injection c2 with c3; exact absurd c3 (by decide)
      · obtain ⟨o1, g1, c1, _⟩ := (show s.heap.IsListIter i2 b i from t2)
        obtain ⟨o2, g2, c2, _⟩ := (show s.heap.IsList b vs.toArray from pv)
        rw [e, g1] at g2; cases g2; rw [c1] at c2; injection c2 with c3; exact absurd c3 (by decide)
    have D1 := drawsB (P := X.prog) (w := X.w) hd k i1 a n1 us.toArray
    have D2 := drawsB (P := X.prog) (w := X.w) hd l i2 b n2 vs.toArray
    have lt1 : i < us.toArray.size := by rw [List.size_toArray]; exact (List.getElem?_eq_some_iff.mp hu).1
    have lt2 : i < vs.toArray.size := by rw [List.size_toArray]; exact (List.getElem?_eq_some_iff.mp hv).1
    have ltz : z < s.heap.objs.size := Heap.lt_size isZ
    refine wpAny_pyNext_zipD2_item S D1 D2 isZ hTI hTO ⟨t1, pu⟩ ⟨t2, pv⟩ lt1 lt2 fun p q h' tk hp hq z' TO' s1' s2' hT hsz hk => ?_
    have ep : u = p := by
      have e : us.toArray[i]? = some u := by simpa using hu
      rw [show us.toArray[i]? = some p from hp] at e
      exact (Option.some.inj e).symm
    have eq : v = q := by
      have e : vs.toArray[i]? = some v := by simpa using hv
      rw [show vs.toArray[i]? = some q from hq] at e
      exact (Option.some.inj e).symm
    subst ep eq
    refine ⟨_, rfl, wpAny_letOwnedTupleGo_zip (s := { s with heap := h', toks := tk }) z' fun h'' z'' sb => ?_⟩
    have pairAt : h''.get? s.heap.objs.size = some { cls := .type "tuple", data := .seq #[u, v] } := (sb.2 _ (Nat.ne_of_gt ltz)).trans hT
    have new : ObjOk X.prog X.w (upd H s.heap.objs.size (.tup [x, y])) h'' s.heap.objs.size (.tup [x, y]) :=
      ⟨by show 2 ≤ sizeLine; decide, [u, v], .cons eu (.cons ev .nil), ⟨_, pairAt, rfl, _, rfl⟩⟩
    have stay : ∀ c o, c ∉ [z, TI, TO, i1, i2] → s.heap.get? c = some o → h''.get? c = some o := fun c o hc e => by
      simp only [List.mem_cons, List.not_mem_nil, or_false, not_or] at hc
      exact (sb.2 c hc.1).trans (hk c o hc.1 hc.2.2.1 hc.2.2.2.1 hc.2.2.2.2 e)
    have I1 : Inv X pins σ (upd H s.heap.objs.size (.tup [x, y])) { s with heap := h'', toks := tk } := I.turnedNew (ch := [z, TI, TO, i1, i2]) stay hf (Nat.le_refl _) new
    refine ⟨.ref s.heap.objs.size, _, I1, rfl, ⟨_, x, y, rfl, I.hok.fresh (Nat.le_refl _), rfl, fun l hl => by rw [sqB_inj I hl cx]; exact hx, fun l hl => by rw [sqB_inj I hl cy]; exact hy⟩,
      ⟨z'', ?_, ⟨u, v, ?_⟩, ?_, ?_⟩, fun c hcm => ?_⟩
    · exact (sb.2 _ S.TIz).trans (hk _ _ S.TIz S.TITO S.TIi1 S.TIi2 hTI)
    · exact (sb.2 _ S.TOz).trans TO'
    · exact s1'.1.keep fun o e => (sb.2 _ S.zi1.symm).trans e
    · exact s2'.1.keep fun o e => (sb.2 _ S.zi2.symm).trans e
    · have five : c = z ∨ c = TI ∨ c = TO ∨ c = i1 ∨ c = i2 := by simpa using hcm
      have lt : c < s.heap.objs.size := by
        rcases five with e | e | e | e | e <;> rw [e]
        · exact ltz
        · exact Heap.lt_size hTI
        · exact Heap.lt_size hTO
        · obtain ⟨o, e1, _⟩ := t1.obj; exact Heap.lt_size e1
        · obtain ⟨o, e1, _⟩ := t2.obj; exact Heap.lt_size e1
      rw [upd_ne (Nat.ne_of_lt lt)]
      exact (hf c hcm).1
  done := by
    intro X hP hw hK hc i pins s σ H E I hf ⟨isZ, hTI, ⟨x0, y0, hTO⟩, t1, t2⟩ ⟨xs, ys, cx, cy, le1, le2, hend⟩
    subst hP hw hK
    obtain ⟨us, ru, pu⟩ := sqB_of I cx
    obtain ⟨vs, rv, pv⟩ := sqB_of I cy
    have l1 := ru.length
    have l2 := rv.length
    have hd : X.A.in1.handled = none := I.ok.hd hc
    have n1 : a ≠ i1 := fun e => by
      cases k
      · obtain ⟨o1, g1, c1, _⟩ := (show s.heap.IsTupleIter i1 a i from t1)
        obtain ⟨o2, g2, c2, _⟩ := (show s.heap.IsTuple a us.toArray from pu)
        rw [e, g1] at g2; cases g2; rw [c1] at c2; injection c2 with c3; exact absurd c3 (by decide)
      · obtain ⟨o1, g1, c1, _⟩ := (show s.heap.IsListIter i1 a i from t1)
        obtain ⟨o2, g2, c2, _⟩ := (show s.heap.IsList a us.toArray from pu)
        rw [e, g1] at g2; cases g2; rw [c1] at c2; injection c2 with c3; exact absurd c3 (by decide)
    have n2 : b ≠ i2 := fun e => by
      cases l
      · obtain ⟨o1, g1, c1, _⟩ := (show s.heap.IsTupleIter i2 b i from t2)
        obtain ⟨o2, g2, c2, _⟩ := (show s.heap.IsTuple b vs.toArray from pv)
        rw [e, g1] at g2; cases g2; rw [c1] at c2; injection c2 with c3; exact absurd c3 (by decide)
      · obtain ⟨o1, g1, c1, _⟩ := (show s.heap.IsListIter i2 b i from t2)
        obtain ⟨o2, g2, c2, _⟩ := (show s.heap.IsList b vs.toArray from pv)
        rw [e, g1] at g2; cases g2; rw [c1] at c2; injection c2 with c3; exact absurd c3 (by decide)
    have D1 := drawsB (P := X.prog) (w := X.w) hd k i1 a n1 us.toArray
    have D2 := drawsB (P := X.prog) (w := X.w) hd l i2 b n2 vs.toArray
    refine wpAny_pyNext_zipD2_end S D1 D2 isZ hTI hTO ⟨t1, pu⟩ ⟨t2, pv⟩ (by rw [List.size_toArray]; omega) (by rw [List.size_toArray]; omega) (by rw [List.size_toArray, List.size_toArray]; omega) fun h' tk hk => ⟨rfl, ?_⟩
    refine I.turnedL (t' := tk) (ch := [z, TI, TO, i1, i2]) (fun c o hc e => ?_) hf
    simp only [List.mem_cons, List.not_mem_nil, or_false, not_or] at hc
    exact hk c o hc.1 hc.2.2.1 hc.2.2.2.1 hc.2.2.2.2 e
  self := fun A i s Q E st go => wpAny_pyIter_zip st.1 go
/-- zip of two, each a list or a tuple -/
def iZm (K : PySem.W.Frag) (ta : TA) : TI := fun σ H R => ta σ H fun vs H1 => ∃ (k l : Bool) (a b : Addr) (xs ys : List V), vs = [.ref a, .ref b] ∧ SqB k K H1 a xs ∧ SqB l K H1 b ys ∧ R (Itm K k l a b) H1
theorem pi_zm {X : Cx} {e e2 : Expr} {ta : TA} {p pos tpos : Pos} {elts : List Expr} {kk : Nat} (hg : Gl X "zip") (hm : X.mg "zip" = none) (ha : PA X [e, e2] ta)
    (st : starEach [e, e2] X.env = (false, eval e X.env) :: starEach [e2] X.env := by rfl) (nost : (backTo pos (starEach [e2] X.env)).any (·.1) = false := by rfl) :
    PI X (.Tuple elts kk tpos) (.Call (.Name "zip" p) [e, e2] [] pos) (iZm X.K ta) := by
  refine ⟨fun pins s σ H R I h => ?_⟩
  refine PyProof.Rows.Call_ (ld_blt I hg hm PyProof.Rows.boot_zip (PyProof.Rows.callWith_type1 (thn (ha.run pos pins s σ H _ I h) fun us s1 ⟨vs, H1, I1, r1, q1⟩ => ?_) st nost))
  obtain ⟨k, l, a, b, xs, ys, ex, cx, cy, q1⟩ := q1
  subst ex
  cases r1 with
  | cons r rr =>
    cases rr with
    | cons r' rr =>
      cases rr
      cases r
      cases r'
      obtain ⟨u, ru, pu⟩ := sqB_of I1 cx
      obtain ⟨v, rv, pv⟩ := sqB_of I1 cy
      have apart : ∀ c ∈ [s1.heap.objs.size + 4, s1.heap.objs.size + 2, s1.heap.objs.size + 3, s1.heap.objs.size, s1.heap.objs.size + 1], FpOk X pins H1 c := fun c hc => by
        have five : c = s1.heap.objs.size + 4 ∨ c = s1.heap.objs.size + 2 ∨ c = s1.heap.objs.size + 3 ∨ c = s1.heap.objs.size ∨ c = s1.heap.objs.size + 1 := by simpa using hc
        have le : s1.heap.objs.size ≤ c := by
          rcases five with z | z | z | z | z
          · rw [z]; exact Nat.le_add_right ..
          · rw [z]; exact Nat.le_add_right ..
          · rw [z]; exact Nat.le_add_right ..
          · rw [z]; exact Nat.le_refl _
          · rw [z]; exact Nat.le_add_right ..
        exact I1.fpOk le (I1.hok.fresh le)
      refine zip_begins2 (beginsB k a u.toArray) (beginsB l b v.toArray) pu pv fun h' isZ hTI hTO g1 g2 hsz hk => wpAny_pyIter_zip isZ ?_
      refine ⟨s1.heap.objs.size + 4, [s1.heap.objs.size + 4, s1.heap.objs.size + 2, s1.heap.objs.size + 3, s1.heap.objs.size, s1.heap.objs.size + 1], _, _, H1, rfl, I1.kept (t' := s1.toks) hk,
        turnM (k := k) (l := l) (zip_sep2 (fp1 := [a]) (fp2 := [b]) (fun c hc => ?_) (fun c hc => ?_)), ⟨isZ, hTI, ⟨_, _, hTO⟩, oB_it g1, oB_it g2⟩, apart, q1⟩
      · rw [show c = a from by simpa using hc]; exact pu.lt
      · rw [show c = b from by simpa using hc]; exact pv.lt
theorem k_zm {X : Cx} {K : PySem.W.Frag} {e e2 : Expr} {ta : TA} {p pos tpos : Pos} {elts : List Expr} {kk : Nat} (ek : X.K = K) (hg : Gl X "zip") (hm : X.mg "zip" = none) (ha : PA X [e, e2] ta)
    (st : starEach [e, e2] X.env = (false, eval e X.env) :: starEach [e2] X.env := by rfl) (nost : (backTo pos (starEach [e2] X.env)).any (·.1) = false := by rfl) :
    PI X (.Tuple elts kk tpos) (.Call (.Name "zip" p) [e, e2] [] pos) (iZm K ta) := by subst ek; exact pi_zm hg hm ha st nost
section
variable {K : PySem.W.Frag} {g : TG} {tt : TT} {te : TE} {vs : List Nat} {σ σ0 : L2.St} {H : Hp} {Q : VK} {a b : Addr} {R : It → Hp → Prop} {k l : Bool}
def ZmR (K : PySem.W.Frag) (vs : List V) (R : It → Hp → Prop) (H : Hp) : Prop := ∃ (k l : Bool) (a b : Addr) (xs ys : List V), vs = [.ref a, .ref b] ∧ SqB k K H a xs ∧ SqB l K H b ys ∧ R (Itm K k l a b) H
theorem g_iZm {ta : TA} (h : ta σ H fun ws H1 => ZmR K ws R H1) : iZm K ta σ H R := h
instance st_g_iZm {ta : TA} : Step (iZm K ta σ H R) (ta σ H fun ws H1 => ZmR K ws R H1) := ⟨fun z => g_iZm z⟩
theorem g_zm {xs ys : List V} (c : SqB k K H a xs) (d : SqB l K H b ys) (h : R (Itm K k l a b) H) : ZmR K [.ref a, .ref b] R H := ⟨k, l, a, b, xs, ys, rfl, c, d, h⟩
theorem sqB_same {xs : List V} {H' : Hp} (c : SqB k K H a xs) (e : L2.Same H H') : SqB k K H' a xs := by
  cases k
  · exact seqT_same e (show SqT K H a xs from c)
  · exact e.seq (show SqL K H a xs from c)
theorem lcM {xs ys : List V} (len : xs.length = ys.length) (hw : wipe σ vs = σ0) (h : ∀ D, H D = none → ∃ Pv : Nat → Hp → Prop, Pv 0 (upd H D (.lst [])) ∧ (∀ i H', Pv i H' → SqB k K H' a xs ∧ SqB l K H' b ys) ∧
    (∀ (i : Nat) (x y : V) (T : Addr) (H' : Hp), xs[i]? = some x → ys[i]? = some y → Pv i H' → H' T = none → Turn1 g tt te vs σ0 D (.ref T) (upd H' T (.tup [x, y])) (Pv (i + 1))) ∧
    ∀ H', Pv xs.length H' → Q (.ref D) H') : LcG (Itm K k l a b) g tt te vs σ Q H := by
  subst hw
  intro D hD
  obtain ⟨Pv, h0, hq, hs, fin⟩ := h D hD
  refine ⟨fun i m H => m = xs.length - i ∧ i ≤ xs.length ∧ Pv i H, ⟨xs.length, by simp, Nat.zero_le _, h0⟩, ?_⟩
  rintro i m H ⟨rfl, hi, p⟩
  obtain ⟨q1, q2⟩ := hq i H p
  rcases Nat.lt_or_ge i xs.length with lt | ge
  · exact .inr ⟨⟨xs, ys, xs[i], ys[i]'(by omega), q1, q2, by simp [lt], by simp⟩, Pv (i + 1), fun H' p' => ⟨xs.length - (i + 1), by omega, rfl, lt, p'⟩,
      fun v H' ⟨T, x, y, e1, e2, e3, e4, e5⟩ => by subst e1 e3; exact hs i x y T _ (e4 xs q1) (e5 ys q2) p e2⟩
  · have e : i = xs.length := by omega
    subst e
    exact .inl ⟨⟨xs, ys, q1, q2, Nat.le_refl _, by omega, .inl rfl⟩, fin H p⟩
end
section
variable {K : PySem.W.Frag} {g : TG} {tt : TT} {te : TE} {tb : TS} {vs : List Nat} {D0 : Ends} {σ σ0 : L2.St} {H : Hp} {Q : VK} {J : It} {a : Addr}
theorem lcT {xs : List V} (hw : wipe σ vs = σ0) (h : ∀ D, H D = none → ∃ Pv : Nat → Hp → Prop, Pv 0 (upd H D (.lst [])) ∧ (∀ i H', i ≤ xs.length → Pv i H' → SqT K H' a xs) ∧
    (∀ (i : Nat) (x : V) (H' : Hp), xs[i]? = some x → Pv i H' → Turn1 g tt te vs σ0 D x H' (Pv (i + 1))) ∧ ∀ H', Pv xs.length H' → Q (.ref D) H') : LcG (Itt K a) g tt te vs σ Q H := by
  subst hw
  intro D hD
  obtain ⟨Pv, h0, hl, hs, hd⟩ := h D hD
  refine ⟨fun i m H => m = xs.length - i ∧ i ≤ xs.length ∧ Pv i H, ⟨xs.length, by simp, Nat.zero_le _, h0⟩, ?_⟩
  rintro i m H ⟨rfl, hi, p⟩
  have q := hl i H hi p
  rcases Nat.lt_or_ge i xs.length with hlt | hge
  · exact .inr ⟨⟨xs, xs[i], q, by simp [hlt]⟩, Pv (i + 1), fun H' p' => ⟨xs.length - (i + 1), by omega, rfl, hlt, p'⟩, fun x H' ⟨e1, e2⟩ => by subst e1; exact hs i x _ (e2 xs q) p⟩
  · have e : i = xs.length := by omega
    subst e
    exact .inl ⟨⟨xs, q, Nat.le_refl _⟩, hd H p⟩
theorem lcPT {S : List Int} {f : Int → V} {p : Int → Bool} (hw : wipe σ vs = σ0) (hS : SqT K H a (S.map V.int)) (hl : S.length ≤ 1000)
    (turn : ∀ (D : Addr) (acc : List V) (x : Int) (N : Hp → Prop), H D = none → x ∈ S → (p x = true → TurnD D N (f x) (upd H D (.lst acc))) → (p x = false → N (upd H D (.lst acc))) →
      Turn1 g tt te vs σ0 D (.int x) (upd H D (.lst acc)) N)
    (q : ∀ D, H D = none → Q (.ref D) (upd H D (.lst ((S.filter p).map f)))) : LcG (Itt K a) g tt te vs σ Q H := by
  refine lcT (xs := S.map V.int) hw fun D hD => ⟨fun i H' => H' = upd H D (.lst (((S.take i).filter p).map f)), rfl, ?_, ?_, ?_⟩
  · rintro i H' _ rfl
    exact seqT_same (same_new hD) hS
  · rintro i x H' hx rfl
    rw [List.getElem?_map, Option.map_eq_some_iff] at hx
    obtain ⟨n, hn, rfl⟩ := hx
    have hlt : i < S.length := (List.getElem?_eq_some_iff.mp hn).1
    refine turn D _ n _ hD (List.mem_of_getElem? hn) (fun hp => g_turnD upd_same ?_ ?_) (fun hp => ?_)
    · rw [List.length_map]
      have h1 := List.length_filter_le p (S.take i)
      rw [List.length_take] at h1
      omega
    · dsimp only
      rw [upd_upd, List.take_add_one, hn, List.filter_append, List.map_append]
      simp [hp]
    · dsimp only
      rw [List.take_add_one, hn, List.filter_append]
      simp [hp]
  · rintro H' rfl
    rw [List.length_map, List.take_length]
    exact q D hD
end
/-! a comprehension within a comprehension -/
theorem blkOk_rel {N : List Str} {sc scope S : Scope} {own : List (Str × Nat)} (h : blkC N (relS S sc) scope own = true) : BlkOk N (relS S sc) scope own := blkOk_by h
theorem ps_weak {X : Cx} {st : Stmt} {t u : TS} (h : PS X st t) (wk : ∀ D σ H, u D σ H → t D σ H) : PS X st u := ⟨fun pins s σ H D I q => h.run pins s σ H D I (wk D σ H q)⟩
end Q
-- step instances

set_option Elab.async false
set_option linter.all false
set_option maxRecDepth 100000
set_option maxHeartbeats 2000000
/-! classes: methods called with keywords and defaults, properties, own len, repr, bool -/
namespace PySem
/-- a built-in type called: what its __new__ does in this program and World -/
theorem qTypeIn {prog : Program} {w : World} {A : Around} {E : Value → Shared → Prop} {s : Shared} {T newId : String} {Bn : Builtin} {args : List Value} {S : Spec} {Q : Value → Shared → Prop} (ft : TypeCalled T newId "object.__init__")
    (ne : (some newId != some "object.__new__") = true) (c1 : checkTypeCall T ⟨args, []⟩ = pure ()) (c2 : checkBuiltinCall newId ⟨.type T :: args, []⟩ = pure ())
    (ok : ∀ obj, argsOk "object.__init__" ⟨obj :: args, []⟩) (en : entryFor table newId = some Bn) (g : MeetsIn prog w (Bn ⟨.type T :: args, []⟩) S)
    (h : S A.in1 (wants (fun obj t => t.TypeIs obj T ∧ Q obj t) E) s) : wpAny (model prog w) A (call (.type T) args) Q E s := by
  obtain ⟨c, tl, hmro⟩ := ft.mro
  have x1 := ft.made
  have x2 := ft.sub
  have x3 := ft.notType
  have x4 := ft.canCreate
  refine wpAny_call (codeAny_of_tree ?_)
  show wpAny _ _ (callAny (.type T) _) _ _ _
  refine wpAny_pure ⟨Code.quiet_builtin _ (by decide +kernel), codeAny_builtin F.entry_type_call ?_⟩
  rw [Around.under_plain (weight_type_call_type T args []) (units_type_call_type T args [])]
  repeat (any_goals (first | assumption | wp_step))
  refine codeAny_mono (codeAny_call_builtin ft.plain en (wpAny_of_eq c2 (g A.in1 _ s h))) fun res t hres => ?_
  cases res with
  | error e => exact hres
  | ok fl =>
    cases fl with
    | ret obj =>
      obtain ⟨tyO, hq⟩ := hres
      have y1 := ft.init.lookup
      have y2 := ft.init.bind obj
      repeat (any_goals (first | assumption | wp_step))
      refine codeAny_mono (codeAny_call_builtin ft.init.plain F.entry_object_init (ft.init.check _ _ _ _ _ _ _ _ tyO (ok obj)
        (object_init_meets ft.init.lookup ft.made ne prog w A.in1 (wants (fun r t2 => r = .none ∧ Q obj t2) E) t ⟨tyO, rfl, hq⟩))) fun res2 t2 hres2 => ?_
      cases res2 with
      | error e => exact hres2
      | ok fl2 =>
        cases fl2 with
        | ret r =>
          obtain ⟨rfl, hq2⟩ := hres2
          repeat (any_goals (first | assumption | wp_step))
        | _ => exact hres2.elim
    | _ => exact hres.elim
theorem qBoolIn {prog : Program} {w : World} {x : Value} :
    MeetsIn prog w (Builtin.«bool.__new__» ⟨[.type "bool", x], []⟩) (fun A R s => wpAny (model prog w) A.in1 (truthy x) (fun b t => R (.ok (.ret (.bool b))) t) (fun e t => R (.error e) t) s) :=
  MeetsIn.of_wp fun A R s hs => by
    obtain ⟨hp, g, d, tk, os⟩ := s
    have sb := F.conv_sub_bool
    repeat (any_goals (first | assumption | (refine wpAny_bind (wpAny_mono hs (fun b t hb => ?_) fun _ _ z => z)) | wp_step))
    all_goals first | exact ⟨_, rfl, hb⟩ | skip
end PySem
namespace Q
open PySem PySem.Spec L2
/-- what a caller of a method needs: n values by position behind self, the keywords ks; the rest by the defaults -/
structure MKCal (P : Program) (w : World) (K : PySem.W.Frag) (mg : Str → Option Value) (base : Heap) (C : Addr) (m : Str) (k n : Nat) (ks : List Str) (gV : List V → List V → List V) (sp : Sp) : Prop where
  ex : ∃ (f : Addr) (fd : FuncData) (ps : List Str) (g : List Value → List Value → List Value), Meth K C m f ∧ FnOk P w K mg base CX0 k f fd ps sp ∧ KBn K fd ps (n + 1) ks g gV
/-- what a caller of a class needs -/
structure MkK (P : Program) (w : World) (K : PySem.W.Frag) (mg : Str → Option Value) (base : Heap) (C : Addr) (k n : Nat) (ks : List Str) (gV : List V → List V → List V) (sp : Sp) : Prop where
  ex : ∃ (f : Addr) (fd : FuncData) (ps : List Str) (g : List Value → List Value → List Value), Mk K C f ∧ FnOk P w K mg base CX0 k f fd ps sp ∧ KBn K fd ps (n + 1) ks g gV
/-- a property -/
structure PropC (P : Program) (w : World) (K : PySem.W.Frag) (mg : Str → Option Value) (base : Heap) (C : Addr) (x : Str) (k : Nat) (sp : Sp) : Prop where
  ex : ∃ (p g : Addr) (fd : FuncData), PropOf K C x p g ∧ FnOk P w K mg base CX0 k g fd ["self"] sp ∧ Binds K fd ["self"] []
def tMethN (C : Addr) (m : Str) (n j : Nat) (sp : Sp) (gV : List V → List V → List V) (E : XK) (to : TE) (t tk : TA) : TE := fun σ H Q => to σ H fun x H1 => ∃ a dx fs, x = .ref a ∧ H1 a = some (.ins C dx fs) ∧ fs.lookup m = none ∧
  t σ H1 fun vs H2 => tk σ H2 fun zs H3 => vs.length = n ∧ zs.length = j ∧ sp (gV (.ref a :: vs) zs) H3 Q E
section
variable {X : Cx} {C : Addr} {m x : Str} {k n : Nat} {ks ps : List Str} {gV : List V → List V → List V} {sp : Sp} {o e : Expr} {es : List Expr} {kws : List Keyword} {to : TE} {t tk : TA} {p pos apos : Pos}
theorem pe_mkcal {pl : Sem Bool} (he : PE X o to) (c : Cls X.K C) (M : MKCal X.prog X.w X.K X.mg X.base C m k n ks gV sp) (hr : Room k X.A) (ha : PA X (e :: es) t) (hkw : PK X kws tk)
    (some_ : (backToKw pos (keywordEach kws X.env)).all (·.1.isSome) = true := by rfl) (names : (backToKw pos (keywordEach kws X.env)).filterMap (·.1) = ks := by rfl)
    (st : starEach (e :: es) X.env = (false, eval e X.env) :: starEach es X.env := by rfl)
    (nost : ((backTo pos (starEach (e :: es) X.env)).any (·.1) || (backToKw pos (keywordEach kws X.env)).any (·.1.isNone)) = false := by rfl)
    (shape : eval (.Call (.Attribute o m apos) (e :: es) kws pos) X.env = (do
      let self_ ← eval o X.env
      standAt apos.atName
      let (fn, first) ← holding [self_] (getMethod self_ m pl)
      callWith pos fn first (backTo pos (starEach (e :: es) X.env)) (backToKw pos (keywordEach kws X.env))) := by rfl) :
    PE X (.Call (.Attribute o m apos) (e :: es) kws pos) (tMethN C m n ks.length sp gV E0 to t tk) := by
  obtain ⟨f, fd, ps, g, hm, F, hb⟩ := M.ex
  refine ⟨fun pins s σ H Q I h => ?_⟩
  refine PySem.W.methodCall_KW (pl := pl) (thn (he.run pins s σ H _ I h) fun u s1 ⟨y, H1, I1, ry, a, dx, fs, ey, ea, l, q⟩ => ?_) shape
  subst ey
  obtain rfl : u = Value.ref a := ry
  refine getmeth_ok I1 ea c hm l ?_
  refine PySem.W.callWith_KW (first := [.ref a]) (h₀ := X.base) I.ok.mod.kin hm.kp some_ (thn (ha.run pos pins s1 σ H1 _ I1 q) fun us s2 ⟨vs, H2, I2, r, q2⟩ => ?_) nost st
  refine thn (hkw.run pos pins s2 σ H2 _ I2 q2) fun ws s3 ⟨zs, H3, I3, rz, l1, l2, q3⟩ => ⟨I3.kIn, ?_⟩
  rw [names]
  exact run_fnN (us := .ref a :: us) (vs := .ref a :: vs) F hr hb pass0 I3 (.cons rfl r) rz (by rw [List.length_cons, l1]) l2 q3
theorem pe_mkcal0 {pl : Sem Bool} (he : PE X o to) (c : Cls X.K C) (M : MKCal X.prog X.w X.K X.mg X.base C m k 0 ks gV sp) (hr : Room k X.A) (hkw : PK X kws tk)
    (some_ : (backToKw pos (keywordEach kws X.env)).all (·.1.isSome) = true := by rfl) (names : (backToKw pos (keywordEach kws X.env)).filterMap (·.1) = ks := by rfl)
    (nost : ((backTo pos (starEach [] X.env)).any (·.1) || (backToKw pos (keywordEach kws X.env)).any (·.1.isNone)) = false := by rfl)
    (shape : eval (.Call (.Attribute o m apos) [] kws pos) X.env = (do
      let self_ ← eval o X.env
      standAt apos.atName
      let (fn, first) ← holding [self_] (getMethod self_ m pl)
      callWith pos fn first (backTo pos (starEach [] X.env)) (backToKw pos (keywordEach kws X.env))) := by rfl) :
    PE X (.Call (.Attribute o m apos) [] kws pos) (tMethN C m 0 ks.length sp gV E0 to tNil tk) := by
  obtain ⟨f, fd, ps, g, hm, F, hb⟩ := M.ex
  refine ⟨fun pins s σ H Q I h => ?_⟩
  refine PySem.W.methodCall_KW (pl := pl) (thn (he.run pins s σ H _ I h) fun u s1 ⟨y, H1, I1, ry, a, dx, fs, ey, ea, l, q⟩ => ?_) shape
  subst ey
  obtain rfl : u = Value.ref a := ry
  refine getmeth_ok I1 ea c hm l ?_
  refine PySem.W.callWith_KW0 (first := [.ref a]) (h₀ := X.base) I.ok.mod.kin hm.kp some_ ?_ nost
  refine thn (hkw.run pos pins s1 σ H1 _ I1 q) fun ws s3 ⟨zs, H3, I3, rz, l1, l2, q3⟩ => ⟨I3.kIn, ?_⟩
  rw [names]
  exact run_fnN (us := [.ref a]) (vs := [.ref a]) F hr hb pass0 I3 (.cons rfl .nil) rz rfl l2 q3
theorem pe_mkk (hm : X.mg x = some (.ref C)) (M : MkK X.prog X.w X.K X.mg X.base C k n ks gV sp) (hr : Room (k + 1) X.A) (hg : Gl X x) (ha : PA X (e :: es) t) (hkw : PK X kws tk)
    (some_ : (backToKw pos (keywordEach kws X.env)).all (·.1.isSome) = true := by rfl) (names : (backToKw pos (keywordEach kws X.env)).filterMap (·.1) = ks := by rfl)
    (dbg : (x == ("__debug__" : Str)) = false := by decide) (st : starEach (e :: es) X.env = (false, eval e X.env) :: starEach es X.env := by rfl)
    (nost : ((backTo pos (starEach (e :: es) X.env)).any (·.1) || (backToKw pos (keywordEach kws X.env)).any (·.1.isNone)) = false := by rfl) :
    PE X (.Call (.Name x p) (e :: es) kws pos) (tMakeK C n ks.length sp gV E0 t tk) := by
  obtain ⟨f, fd, ps, g, hmk, F, hb⟩ := M.ex
  exact pe_makeK hmk F hr hg hm hb pass0 ha hkw some_ names dbg st nost
theorem pe_mkk0 (hm : X.mg x = some (.ref C)) (M : MkK X.prog X.w X.K X.mg X.base C k 0 ks gV sp) (hr : Room (k + 1) X.A) (hg : Gl X x) (hkw : PK X kws tk)
    (some_ : (backToKw pos (keywordEach kws X.env)).all (·.1.isSome) = true := by rfl) (names : (backToKw pos (keywordEach kws X.env)).filterMap (·.1) = ks := by rfl)
    (dbg : (x == ("__debug__" : Str)) = false := by decide)
    (nost : ((backTo pos (starEach [] X.env)).any (·.1) || (backToKw pos (keywordEach kws X.env)).any (·.1.isNone)) = false := by rfl) :
    PE X (.Call (.Name x p) [] kws pos) (tMakeK C 0 ks.length sp gV E0 tNil tk) := by
  obtain ⟨f, fd, ps, g, hmk, F, hb⟩ := M.ex
  exact pe_makeK0 hmk F hr hg hm hb pass0 hkw some_ names dbg nost
theorem pe_propc (he : PE X o to) (c : Cls X.K C) (M : PropC X.prog X.w X.K X.mg X.base C x k sp) (hr : Room (k + 1) X.A) (hab : attributeBase o x X.env (eval o X.env) = eval o X.env) :
    PE X (.Attribute o x pos) (tProp C sp [] E0 to) := by
  obtain ⟨pa, g, fd, hp, F, hb⟩ := M.ex
  exact pe_prop he c hp F hr hb .nil pass0 hab
end
/-! own len, repr, bool -/
section
variable {X : Cx} {C : Addr} {k : Nat} {ps : List Str} {sp : Sp}
/-- a def called with one object, in the room of a built-in that asks it -/
theorem run_own {pins : List (Addr × Obj)} {σ : L2.St} {H : Hp} {s : Shared} {A : Around} {m : Str} {a : Addr} {Q : VK} {f : Addr} {fd : FuncData} (F : FnOk X.prog X.w X.K X.mg X.base CX0 k f fd ps sp) (hb : Binds X.K fd ps []) (hr : Room k A) (fr : A.frames = X.A.frames)
    (I : Inv X pins σ H s) (h : sp [.ref a] H Q E0) : wpAny (model X.prog X.w) A (call (.ref f) [.ref a]) (EP X pins σ Q) X.xe s := by
  have e0 : Env0 X.prog X.w X.K X.mg X.base A X.stack s H := by
    have e := I.env0
    exact ⟨by rw [fr]; exact e.frames, e.mod, e.bs, e.bsz, e.funs, e.frf, e.hok, e.bare⟩
  have hl := F.len _ _ _ _ h
  have bt : BindsTo s fd ⟨[.ref a], []⟩ (ps.zip [.ref a]) := by
    have z := hb s [.ref a] I.kIn (by simpa using hl)
    simpa using z
  refine wpAny_call (codeAny_mono (F.run A X.stack s H ⟨[.ref a], []⟩ [.ref a] [.ref a] Q E0 hr e0 bt (.cons rfl .nil) h) fun res t hres => ?_)
  cases res with
  | error e => exact pass0 pins σ H s e t I hres
  | ok fl =>
    cases fl with
    | ret u =>
      obtain ⟨z, H', I', rz, ez⟩ := I.after hres
      exact ⟨z, H', I', rz, ez⟩
    | next => exact False.elim hres
    | brk => exact False.elim hres
    | cont => exact False.elim hres
def rOwnLen (C : Addr) (sp : Sp) : List V → Hp → VK → Prop := fun xs H Q => ∃ a dx fs, xs = [.ref a] ∧ H a = some (.ins C dx fs) ∧ sp [.ref a] H (fun v H' => ∃ n : Int, v = .int n ∧ 0 ≤ n ∧ n < 2 ^ 63 ∧ Q (.int n) H') E0
theorem call_ownLen (M : MCal X.prog X.w X.K X.mg X.base C "__len__" k ps sp) (hr : Room (k + 1) X.A) : CallR X (.builtin "len") (rOwnLen C sp) := by
  intro pins s σ H xs us Q I r h
  obtain ⟨a, dx, fs, rfl, ha, hs⟩ := h
  obtain rfl := Vals.ref1 r
  obtain ⟨f, fd, hm, F, hb⟩ := M.ex
  obtain ⟨_, J, _⟩ := ins_get I.hok ha
  obtain ⟨od, J, _⟩ := J.look
  obtain ⟨mm, hF⟩ := I.fr
  refine PySem.W.len_K hF I.ok.mod.kin J hm.at_ hm.fn (thn (run_own (m := "__len__") F hb hr.in1 rfl I hs) fun u t ⟨z, H', I', rz, n, ez, n0, n1, q⟩ => ?_)
  subst ez
  obtain ⟨tk, rfl⟩ := rz
  exact ⟨⟨n0, n1⟩, .int n, H', I'.tok _, ⟨_, rfl⟩, q⟩
def rOwnRepr (C : Addr) (sp : Sp) : List V → Hp → VK → Prop := fun xs H Q => ∃ a dx fs, xs = [.ref a] ∧ H a = some (.ins C dx fs) ∧ sp [.ref a] H (fun v H' => ∃ z : Str, v = .str z ∧ Q (.str z) H') E0
theorem call_ownRepr (M : MCal X.prog X.w X.K X.mg X.base C "__repr__" k ps sp) (hr : Room (k + 1) X.A) : CallR X (.builtin "repr") (rOwnRepr C sp) := by
  intro pins s σ H xs us Q I r h
  obtain ⟨a, dx, fs, rfl, ha, hs⟩ := h
  obtain rfl := Vals.ref1 r
  obtain ⟨f, fd, hm, F, hb⟩ := M.ex
  obtain ⟨_, J, _⟩ := ins_get I.hok ha
  obtain ⟨od, J, _⟩ := J.look
  obtain ⟨mm, hF⟩ := I.fr
  refine PySem.W.repr_K hr.in1.units0 hF I.ok.mod.kin J hm.at_ hm.fn (thn (run_own (m := "__repr__") F hb hr.in1 rfl I hs) fun u t ⟨z, H', I', rz, x, ez, q⟩ => ?_)
  subst ez
  obtain ⟨tk, rfl⟩ := rz
  exact ⟨.str x, H', I', ⟨_, rfl⟩, q⟩
def rOwnBool (C : Addr) (sp : Sp) : List V → Hp → VK → Prop := fun xs H Q => ∃ a dx fs, xs = [.ref a] ∧ H a = some (.ins C dx fs) ∧ sp [.ref a] H (fun v H' => ∃ b : Bool, v = .bl b ∧ Q (.bl b) H') E0
theorem call_ownBool (M : MCal X.prog X.w X.K X.mg X.base C "__bool__" k ps sp) (hr : Room (k + 2) X.A) : CallR X (.type "bool") (rOwnBool C sp) := by
  intro pins s σ H xs us Q I r h
  obtain ⟨a, dx, fs, rfl, ha, hs⟩ := h
  obtain rfl := Vals.ref1 r
  obtain ⟨f, fd, hm, F, hb⟩ := M.ex
  obtain ⟨_, J, _⟩ := ins_get I.hok ha
  obtain ⟨od, J, _⟩ := J.look
  obtain ⟨mm, hF⟩ := I.fr
  refine qTypeIn PySem.F.called_bool PySem.F.newNe_bool (PySem.F.typeCall_bool_1 _) (PySem.F.newCall_bool_1 _) (fun obj => PySem.F.args_object_init_2 obj _) PySem.F.entry_bool_new qBoolIn ?_
  refine PySem.W.truthy_K hF I.ok.mod.kin J hm.at_ hm.fn (thn (run_own (m := "__bool__") F hb hr.in1.in1 rfl I hs) fun u t ⟨z, H', I', rz, b, ez, q⟩ => ?_)
  subst ez
  obtain rfl := rz
  exact ⟨typeIs_bool _ _, .bl b, H', I', rfl, q⟩
end
/-! the head's facts about properties -/
def prpP (K : PySem.W.Frag) (c x : Str) : Addr := match PySem.W.findIn K (.ref (He.ga K c)) x with
  | some (some (.ref p)) => p
  | _ => 0
def prpG (K : PySem.W.Frag) (c x : Str) : Addr := match PySem.W.recIn K (prpP K c x) "property" with
  | some (.ref g :: _) => g
  | _ => 0
structure PrpD where
  cls : Str
  attr : Str
  name : Str
  qual : Str
  params : Arguments
  body : List Stmt
  scope : Scope
def PrpD.ok (K : PySem.W.Frag) (d : PrpD) : Bool := He.eqO (PySem.W.findIn K (.ref (He.ga K d.cls)) d.attr) (some (some (.ref (prpP K d.cls d.attr)))) &&
  (He.eqO (PySem.W.specialIn K (.ref (prpP K d.cls d.attr)) "__get__") (some (some (.builtin "property.__get__"))) && (decide (PySem.W.takesIn K (.ref (prpP K d.cls d.attr)) = some true) &&
  (decide ((PySem.W.recIn K (prpP K d.cls d.attr) "property").map (·.head?) = some (some (.ref (prpG K d.cls d.attr)))) && (PySem.W.keepIn K (.ref (prpG K d.cls d.attr)) &&
  (match K.lookup (prpG K d.cls d.attr) with
    | some ⟨_, _, .func q, _⟩ => PySem.W.codeIn K q.code d.qual && (He.dflB K q.defaults [] && He.kwdB K q.kwdefaults [])
    | _ => false)))))
def PrpD.w (K : PySem.W.Frag) (d : PrpD) : He.FnW := match K.lookup (prpG K d.cls d.attr) with
  | some ⟨_, _, .func q, _⟩ => some (q.name, q.qualname, q.params, q.body, q.scope, q.globals, q.closure, q.builtins)
  | _ => none
def PrpD.val (d : PrpD) : He.FnW := some (d.name, d.qual, d.params, .stmts d.body, d.scope, mainGlobals, [], builtinsNs)
theorem PrpD.use {K : PySem.W.Frag} {d : PrpD} (e : d.w K = d.val) (c : d.ok K = true) : PropOf K (He.ga K d.cls) d.attr (prpP K d.cls d.attr) (prpG K d.cls d.attr) ∧ ∃ fd, FunD K d.name d.qual d.params d.body d.scope [] [] (prpG K d.cls d.attr) fd := by
  obtain ⟨c1, c⟩ := He.ba c
  obtain ⟨c2, c⟩ := He.ba c
  obtain ⟨c3, c⟩ := He.ba c
  obtain ⟨c4, c⟩ := He.ba c
  obtain ⟨c5, c6⟩ := He.ba c
  have r1 : ∃ rest, PySem.W.recIn K (prpP K d.cls d.attr) "property" = some (.ref (prpG K d.cls d.attr) :: rest) := by
    have z := of_decide_eq_true c4
    cases q : PySem.W.recIn K (prpP K d.cls d.attr) "property" with
    | none => rw [q] at z; cases z
    | some vs =>
      rw [q] at z
      cases vs with
      | nil => cases z
      | cons v r =>
        have z2 : some (some v) = some (some (Value.ref (prpG K d.cls d.attr))) := z
        injection z2 with z2
        injection z2 with z2
        exact ⟨r, by rw [z2]⟩
  refine ⟨⟨He.eqO_ok c1, He.eqO_ok c2, of_decide_eq_true c3, r1⟩, ?_⟩
  unfold PrpD.w at e
  cases q : K.lookup (prpG K d.cls d.attr) with
  | none => rw [q] at c6; cases c6
  | some ob =>
    obtain ⟨o1, o2, dat, o3⟩ := ob
    rw [q] at c6 e
    cases dat with
    | func fq =>
      obtain ⟨a1, a2, a3, a4, a5, a6, a7, a8, a9, b1, b2, b3, b4, b5, b6⟩ := fq
      have e2 : (some (a1, a2, a3, a4, a5, a6, a7, b6) : He.FnW) = some (d.name, d.qual, d.params, .stmts d.body, d.scope, mainGlobals, [], builtinsNs) := e
      simp only [Option.some.injEq, Prod.mk.injEq] at e2
      obtain ⟨rfl, rfl, rfl, rfl, rfl, rfl, rfl, rfl⟩ := e2
      have k0 : (PySem.W.codeIn K b4 d.qual && (He.dflB K a8 [] && He.kwdB K a9 [])) = true := c6
      obtain ⟨k1, k2⟩ := He.ba k0
      obtain ⟨k3, k4⟩ := He.ba k2
      exact ⟨_, ⟨o1, o2, a8, a9, b1, b2, b3, b4, b5, o3, rfl, q, k1, He.dflB_ok k3, He.kwdB_ok k4⟩, c5⟩
    | _ => cases c6
abbrev AlP : Type := He.AlD × (Bool × List He.FnW)
def obsP (fa : List He.Fa) (fn : List He.DefD) (pr : List PrpD) (K : PySem.W.Frag) : AlP := (He.obsD fa fn K, (pr.all fun d => d.ok K, pr.map fun d => d.w K))
def valP (fn : List He.DefD) (pr : List PrpD) : AlP := (He.valD fn, (true, pr.map PrpD.val))
structure SaysP (fa : List He.Fa) (fn : List He.DefD) (pr : List PrpD) (K : PySem.W.Frag) : Prop where
  eq : obsP fa fn pr K = valP fn pr
def obsPG (n : Nat) (fa : List He.Fa) (fn : List He.DefD) (pr : List PrpD) (g : Addr → Option Obj) : AlP := obsP fa fn pr (He.frG g (He.asD g n))
def hookP (n : Nat) (fa : List He.Fa) (fn : List He.DefD) (pr : List PrpD) : PySem.W.Hook where
  α := AlP
  obs := fun s => obsPG n fa fn pr s.heap.get?
  val := fun _ => valP fn pr
  says := fun _ h => ∃ K : PySem.W.Frag, K.In h ∧ SaysP fa fn pr K
  of := fun _ _ e => ⟨_, He.frG_in, ⟨e⟩⟩
  keeps := fun _ _ _ ⟨K, inK, c⟩ kp => ⟨K, PySem.W.Frag.In.keeps inK kp, c⟩
theorem obsPG_eq {n : Nat} {fa : List He.Fa} {fn : List He.DefD} {pr : List PrpD} {g : Addr → Option Obj} {s : Shared} (h : ∀ a, g a = s.heap.get? a) : obsPG n fa fn pr g = (hookP n fa fn pr).obs s := by
  obtain rfl : g = s.heap.get? := funext h
  rfl
section
variable {fa : List He.Fa} {fn : List He.DefD} {pr : List PrpD} {K : PySem.W.Frag}
theorem SaysP.d (c : SaysP fa fn pr K) : He.SaysD fa fn K := congrArg (fun z : AlP => z.1) c.eq
theorem SaysP.prp (c : SaysP fa fn pr K) (i : Nat) {d : PrpD} (h : pr[i]? = some d := by rfl) : PropOf K (He.ga K d.cls) d.attr (prpP K d.cls d.attr) (prpG K d.cls d.attr) ∧ ∃ fd, FunD K d.name d.qual d.params d.body d.scope [] [] (prpG K d.cls d.attr) fd := by
  have z := congrArg (fun z : AlP => z.2) c.eq
  have z1 : (pr.all fun d => d.ok K) = true := congrArg (fun z : Bool × List He.FnW => z.1) z
  have z2 : pr.map (fun d => d.w K) = pr.map PrpD.val := congrArg (fun z : Bool × List He.FnW => z.2) z
  have z3 : (pr.map fun d => d.w K)[i]? = (pr.map PrpD.val)[i]? := by rw [z2]
  rw [List.getElem?_map, List.getElem?_map, h] at z3
  exact PrpD.use (Option.some.inj z3) (List.all_eq_true.mp z1 d (List.mem_of_getElem? h))
end
section
variable {K : PySem.W.Frag} {x qual : Str} {params : Arguments} {body : List Stmt} {scope : Scope} {dvs : List V} {f : Addr} {fd : FuncData} {ps : List Str}
theorem mkbD (F : FunD K x qual params body scope dvs [] f fd) (n : Nat) (ks : List Str) (ix : List (Nat × Nat)) (hd : dvs ≠ [])
    (h : ∀ (T : Addr) (kV doc pm : Value) (an : Option Addr) (cdv ct : Value) (us its ws : List Value), us.length = n → its.length = dvs.length → ws.length = ks.length →
      ∃ k, bindArgs (PySem.W.fnOf x qual params body scope (.ref T) kV doc pm an cdv ct) ⟨us, ks.zip ws⟩ = seqItems? (.ref T) >>= k ∧ k (some its.toArray) = pure (ps.zip (pick ix us its ws))) :
    ∃ g, KBn K fd ps n ks g (fun vs zs => pick ix vs dvs zs) := by
  obtain ⟨its, kb⟩ := F.kbindsD n ks (fun us its ws => pick ix us its ws) hd (fun r1 r2 r3 => vals_pick ix r1 r2 r3) h
  exact ⟨_, kb⟩
end
theorem mkcal_mk {P : Program} {w : World} {K : PySem.W.Frag} {mg : Str → Option Value} {base : Heap} {C : Addr} {m : Str} {x q : Str} {pa : Arguments} {bd : List Stmt} {sc : Scope} {dv : List V} {kw : List (Str × V)} {k n : Nat} {ks ps : List Str} {gV : List V → List V → List V} {sp : Sp} {f : Addr}
    (me : Meth K C m f) (h : ∃ (fd : FuncData), FunD K x q pa bd sc dv kw f fd)
    (ok : ∀ {f : Addr} {fd : FuncData}, FunD K x q pa bd sc dv kw f fd → FnOk P w K mg base CX0 k f fd ps sp)
    (b : ∀ {f : Addr} {fd : FuncData}, FunD K x q pa bd sc dv kw f fd → ∃ g, KBn K fd ps (n + 1) ks g gV) : MKCal P w K mg base C m k n ks gV sp := by
  obtain ⟨fd, F⟩ := h
  obtain ⟨g, kb⟩ := b F
  exact ⟨f, fd, ps, g, me, ok F, kb⟩
theorem mkk_mk {P : Program} {w : World} {K : PySem.W.Frag} {mg : Str → Option Value} {base : Heap} {C : Addr} {x q : Str} {pa : Arguments} {bd : List Stmt} {sc : Scope} {dv : List V} {kw : List (Str × V)} {k n : Nat} {ks ps : List Str} {gV : List V → List V → List V} {sp : Sp} {f : Addr}
    (mk : Mk K C f) (h : ∃ (fd : FuncData), FunD K x q pa bd sc dv kw f fd)
    (ok : ∀ {f : Addr} {fd : FuncData}, FunD K x q pa bd sc dv kw f fd → FnOk P w K mg base CX0 k f fd ps sp)
    (b : ∀ {f : Addr} {fd : FuncData}, FunD K x q pa bd sc dv kw f fd → ∃ g, KBn K fd ps (n + 1) ks g gV) : MkK P w K mg base C k n ks gV sp := by
  obtain ⟨fd, F⟩ := h
  obtain ⟨g, kb⟩ := b F
  exact ⟨f, fd, ps, g, mk, ok F, kb⟩
theorem propc_mk {P : Program} {w : World} {K : PySem.W.Frag} {mg : Str → Option Value} {base : Heap} {C : Addr} {m : Str} {x q : Str} {pa : Arguments} {bd : List Stmt} {sc : Scope} {k : Nat} {sp : Sp}
    (h : ∃ (p g : Addr) (fd : FuncData), PropOf K C m p g ∧ FunD K x q pa bd sc [] [] g fd)
    (ok : ∀ {f : Addr} {fd : FuncData}, FunD K x q pa bd sc [] [] f fd → FnOk P w K mg base CX0 k f fd ["self"] sp)
    (b : ∀ {f : Addr} {fd : FuncData}, FunD K x q pa bd sc [] [] f fd → Binds K fd ["self"] []) : PropC P w K mg base C m k sp := by
  obtain ⟨p, g, fd, hp, F⟩ := h
  exact ⟨p, g, fd, hp, ok F, b F⟩
theorem k_pgl {X : Cx} {K : PySem.W.Frag} {es : List Expr} {k : Nat} {t : TGs} {n : Nat} {pos : Pos} (ek : X.K = K) (hc : X.calm = true) (h : PGs X es t)
    (many : (assignEach es X.env).length = n) (nostar : (assignEach es X.env).findIdx? (·.1) = none) : PG X (.Tuple es k pos) (gLst K n t) := by subst ek; exact pg_lst hc h many nostar
def qIntB : List V → Hp → VK → Prop := fun xs H Q => ∃ b, xs = [.bl b] ∧ Q (.int (if b then 1 else 0)) H
theorem c_intB {X : Cx} : CallR X (.type "int") qIntB := fun pins s σ H xs us Q I r h => call_int1 pins s σ H xs us Q I r (.inr h)
theorem g_intB {p : Prop} [Decidable p] {H : Hp} {Q : VK} (h : Q (.int (if p then 1 else 0)) H) : qIntB [.bl (decide p)] H Q := ⟨decide p, rfl, by
  by_cases c : p
  · rw [if_pos c] at h; rw [if_pos (decide_eq_true c)]; exact h
  · rw [if_neg c] at h; rw [if_neg (by simp [c])]; exact h⟩
instance st_g_intB {p : Prop} [Decidable p] {H : Hp} {Q : VK} : Step (qIntB [.bl (decide p)] H Q) (Q (.int (if p then 1 else 0)) H) := ⟨fun z => g_intB z⟩
theorem k_join {X : Cx} {K : PySem.W.Frag} {o e : Expr} {to te : TE} {apos pos : Pos} (ek : X.K = K) (ho : PE X o to) (he : PE X e te) (hs : starEach [e] X.env = [(false, eval e X.env)] := by rfl) (hb : attributeBase o "join" X.env (eval o X.env) = eval o X.env := by rfl) (hl : (apos.endLine == pos.line) = true := by rfl) :
    PE X (.Call (.Attribute o "join" apos) [e] [] pos) (tM1 (fun x xs H Q => ∃ a p, ∃ ys : List Str, x = .str a ∧ xs = [.ref p] ∧ (SqL K H p (ys.map V.str) ∨ SqT K H p (ys.map V.str)) ∧
      (ys.map (·.length)).sum + ys.length * a.length ≤ 16777216 ∧ Q (.str (Txt.join a ys)) H) to te) := by subst ek; exact pe_join ho he hs hb hl
end Q
-- step instances

set_option Elab.async false
set_option linter.all false
set_option maxRecDepth 100000
set_option maxHeartbeats 4000000
namespace Q
open PySem PySem.Builtin.Str PySem.StrLaws
abbrev sOf (cs : List Nat) : Str := ⟨cs.toArray⟩
theorem sOf_len (cs : List Nat) : (sOf cs).length = cs.length := by simp [sOf, Str.length]
theorem sOf_app (a b : List Nat) : sOf a ++ sOf b = sOf (a ++ b) := by
  show (⟨a.toArray ++ b.toArray⟩ : Str) = ⟨(a ++ b).toArray⟩
  rw [List.append_toArray]
theorem sOf_cps (x : Str) : sOf x.cps.toList = x := by cases x; simp [sOf]
theorem sOf_inj {a b : List Nat} (h : sOf a = sOf b) : a = b := by
  have := congrArg (fun s : Str => s.cps.toList) h
  simpa using this
/-- the pieces between the line feeds -/
def spl : List Nat → List (List Nat)
  | [] => [[]]
  | x :: t => if x = 10 then [] :: spl t else match spl t with
    | p :: ps => (x :: p) :: ps
    | [] => [[x]]
theorem spl_ne : ∀ t, spl t ≠ []
  | [] => by simp [spl]
  | x :: t => by
    unfold spl
    split
    · simp
    · split <;> simp
theorem spl_nl (t : List Nat) : spl (10 :: t) = [] :: spl t := by rw [spl, if_pos rfl]
theorem spl_cons {x : Nat} {t p : List Nat} {ps : List (List Nat)} (h : x ≠ 10) (e : spl t = p :: ps) : spl (x :: t) = (x :: p) :: ps := by rw [spl, if_neg h, e]
theorem spl_some (t : List Nat) : ∃ p ps, spl t = p :: ps := by
  cases e : spl t with
  | nil => exact absurd e (spl_ne t)
  | cons p ps => exact ⟨p, ps, rfl⟩
/-- the places of the line feeds -/
def posN : List Nat → Nat → List Nat
  | [], _ => []
  | x :: t, i => if x = 10 then i :: posN t (i + 1) else posN t (i + 1)
theorem occ_pos (a : List Nat) : ∀ (t pre : List Nat) (acc : Array Nat) (free : Nat), a = pre ++ t → free ≤ pre.length → acc.size ≤ pre.length →
    (forIn (List.range' pre.length (t.length + 1)) (acc, free) (occBody (sOf a) ⟨#[10]⟩ a.length (a.length + 1))).run.fst.toList = acc.toList ++ posN t pre.length
  | [], pre, acc, free, e, hf, hs => by
    have no : ¬ (((acc.size < a.length + 1 ∧ free ≤ pre.length) ∧ pre.length + (⟨#[10]⟩ : Str).length ≤ a.length) ∧ subAt (sOf a) ⟨#[10]⟩ pre.length = true) := fun z => by
      have z2 : pre.length + 1 ≤ a.length := z.1.2
      rw [e, List.append_nil] at z2
      omega
    show (Id.run (forIn [pre.length] (acc, free) _)).fst.toList = _
    rw [List.forIn_cons]
    unfold occBody
    rw [if_neg no]
    simp [posN]
  | x :: t, pre, acc, free, e, hf, hs => by
    have hl : a.length = pre.length + (t.length + 1) := by rw [e]; simp
    have ex : a[pre.length]? = some x := by rw [e]; simp
    show (Id.run (forIn (pre.length :: List.range' (pre.length + 1) (t.length + 1)) (acc, free) _)).fst.toList = _
    rw [List.forIn_cons]
    have hl2 : (sOf a).length = a.length := sOf_len a
    by_cases hx : x = 10
    · subst hx
      have sub := (subAt_one (sOf a) 10 pre.length).mpr (by simpa using ex)
      rw [hl2] at sub
      have yes : ((acc.size < a.length + 1 ∧ free ≤ pre.length) ∧ pre.length + (⟨#[10]⟩ : Str).length ≤ a.length) ∧ subAt (sOf a) ⟨#[10]⟩ pre.length = true := ⟨⟨⟨by omega, hf⟩, sub.1⟩, sub.2⟩
      have step : occBody (sOf a) ⟨#[10]⟩ a.length (a.length + 1) pre.length (acc, free) = pure (ForInStep.yield (acc.push pre.length, pre.length + 1)) := by
        unfold occBody
        rw [if_pos yes]
        rfl
      rw [step]
      have ih := occ_pos a t (pre ++ [10]) (acc.push pre.length) (pre.length + 1) (by rw [e]; simp) (by simp) (by simp; omega)
      have el : List.length (pre ++ [10]) = pre.length + 1 := by simp
      rw [el] at ih
      rw [show posN (10 :: t) pre.length = pre.length :: posN t (pre.length + 1) by rw [posN, if_pos rfl]]
      show (Id.run (forIn (List.range' (pre.length + 1) (t.length + 1)) (acc.push pre.length, pre.length + 1) _)).fst.toList = _
      rw [ih]
      simp
    · have no : ¬ (((acc.size < a.length + 1 ∧ free ≤ pre.length) ∧ pre.length + (⟨#[10]⟩ : Str).length ≤ a.length) ∧ subAt (sOf a) ⟨#[10]⟩ pre.length = true) := fun z => by
        have z2 := (subAt_one (sOf a) 10 pre.length).mp ⟨by rw [hl2]; exact z.1.2, z.2⟩
        have z3 : a[pre.length]? = some 10 := by simpa using z2
        rw [ex] at z3
        exact hx (Option.some.inj z3)
      have step : occBody (sOf a) ⟨#[10]⟩ a.length (a.length + 1) pre.length (acc, free) = pure (ForInStep.yield (acc, free)) := by
        unfold occBody
        rw [if_neg no]
      rw [step]
      have ih := occ_pos a t (pre ++ [x]) acc free (by rw [e]; simp) (by simp; omega) (by simp; omega)
      have el : List.length (pre ++ [x]) = pre.length + 1 := by simp
      rw [el] at ih
      rw [show posN (x :: t) pre.length = posN t (pre.length + 1) by rw [posN, if_neg hx]]
      exact ih
theorem occ_nl (a : List Nat) : occurrences (sOf a) ⟨#[10]⟩ 0 (sOf a).length ((sOf a).length + 1) = posN a 0 := by
  rw [occ_eq, sOf_len]
  have z := occ_pos a a [] #[] 0 rfl (Nat.le_refl _) (Nat.le_refl _)
  rw [Nat.sub_zero]
  exact z.trans (by simp)
def seg (a : List Nat) (st i : Nat) : List Nat := (a.drop st).take (i - st)
theorem strSub_seg (a : List Nat) (i j : Nat) : strSub (sOf a) i j = sOf (seg a i j) := by
  unfold strSub sOf seg
  congr 1
  apply Array.ext'
  simp [Array.toList_extract, List.extract_eq_drop_take]
theorem parts_spl (a : List Nat) : ∀ (t pre : List Nat) (st : Nat), a = pre ++ t → st ≤ pre.length →
    ((st :: (posN t pre.length).map (· + 1)).zip (posN t pre.length ++ [a.length])).map (fun (i, j) => strSub (sOf a) i j) =
      (match spl t with
      | p :: ps => sOf (seg a st pre.length ++ p) :: ps.map sOf
      | [] => [])
  | [], pre, st, e, hst => by
    have e0 : a = pre := by rw [e, List.append_nil]
    subst e0
    simp [posN, spl, strSub_seg]
  | x :: t, pre, st, e, hst => by
    by_cases hx : x = 10
    · subst hx
      have ih := parts_spl a t (pre ++ [10]) (pre.length + 1) (by rw [e]; simp) (by simp)
      have el : List.length (pre ++ [10]) = pre.length + 1 := by simp
      rw [el] at ih
      rw [show posN (10 :: t) pre.length = pre.length :: posN t (pre.length + 1) by rw [posN, if_pos rfl], spl_nl]
      obtain ⟨p, ps, ep⟩ := spl_some t
      rw [ep] at ih ⊢
      have z : seg a (pre.length + 1) (pre.length + 1) = [] := by unfold seg; simp
      simp only [z, List.nil_append] at ih
      simp only [List.map_cons, List.cons_append, List.zip_cons_cons, List.append_nil]
      rw [ih, strSub_seg]
    · have ih := parts_spl a t (pre ++ [x]) st (by rw [e]; simp) (by simp; omega)
      have el : List.length (pre ++ [x]) = pre.length + 1 := by simp
      rw [el] at ih
      rw [show posN (x :: t) pre.length = posN t (pre.length + 1) by rw [posN, if_neg hx]]
      obtain ⟨p, ps, ep⟩ := spl_some t
      rw [spl_cons hx ep]
      rw [ep] at ih
      rw [ih]
      have z : seg a st (pre.length + 1) = seg a st pre.length ++ [x] := by
        unfold seg
        rw [show pre.length + 1 - st = (pre.length - st) + 1 by omega, List.take_add_one, List.getElem?_drop, show st + (pre.length - st) = pre.length by omega]
        have ex : a[pre.length]? = some x := by rw [e]; simp
        rw [ex]
        rfl
      simp only [z, List.append_assoc, List.singleton_append]
theorem kind_pos (x : Str) : 1 ≤ Builtin.Str.strKind x := by
  unfold Builtin.Str.strKind
  split
  · decide
  · split <;> decide
theorem split_nl (a : List Nat) : Txt.split (sOf a) ⟨#[10]⟩ = (spl a).map sOf := by
  unfold Txt.split
  rw [occ_nl]
  have k1 : decide (Builtin.Str.strKind (sOf a) < Builtin.Str.strKind ⟨#[10]⟩) = false := decide_eq_false (by
    have := kind_pos (sOf a)
    have e : Builtin.Str.strKind (⟨#[10]⟩ : Str) = 1 := by simp [Builtin.Str.strKind]
    omega)
  rw [k1, Bool.or_false]
  have full : partsBetween (sOf a) (posN a 0) (⟨#[10]⟩ : Str).length = (spl a).map sOf := by
    unfold partsBetween
    have z := parts_spl a a [] 0 rfl (Nat.le_refl _)
    rw [sOf_len]
    obtain ⟨p, ps, ep⟩ := spl_some a
    rw [ep] at z ⊢
    have s0 : seg a 0 0 = [] := by simp [seg]
    simp only [List.length_nil, s0, List.nil_append] at z
    exact z
  split
  · rename_i h
    have hl : (sOf a).length < 1 := of_decide_eq_true h
    rw [sOf_len] at hl
    have : a = [] := List.length_eq_zero_iff.mp (by omega)
    subst this
    rfl
  · split
    · rename_i h
      rw [List.isEmpty_iff] at h
      rw [← full, h]
      unfold partsBetween
      simp [strSub_seg, seg, sOf_len]
    · exact full
theorem glue_fold (xs : List (List Nat)) : ∀ acc : Array Nat, (xs.map sOf).foldl (fun acc p => acc ++ (sOf []).cps ++ p.cps) acc = acc ++ xs.flatten.toArray := by
  induction xs with
  | nil => intro acc; simp
  | cons x r ih =>
    intro acc
    rw [List.map_cons, List.foldl_cons, ih]
    apply Array.ext'
    simp
theorem join_e (xs : List (List Nat)) : Txt.join (sOf []) (xs.map sOf) = sOf xs.flatten := by
  unfold Txt.join glued
  cases xs with
  | nil => rfl
  | cons x r =>
    show (⟨(r.map sOf).foldl _ (sOf x).cps⟩ : Str) = _
    rw [glue_fold]
    show (⟨x.toArray ++ r.flatten.toArray⟩ : Str) = ⟨(x :: r).flatten.toArray⟩
    rw [List.append_toArray]
    rfl
/-! the last line feed -/
def kp : List Nat → Nat
  | [] => 0
  | x :: t => if 0 < kp t then kp t + 1 else if x = 10 then 1 else 0
theorem kp_le : ∀ t, kp t ≤ t.length
  | [] => Nat.le_refl _
  | x :: t => by
    have := kp_le t
    unfold kp
    split
    · simp; omega
    · split <;> simp
def lastBody (s sub : Str) (hi : Nat) (i : Nat) (st : Option Nat) : Id (ForInStep (Option Nat)) :=
  if i + sub.length ≤ hi ∧ subAt s sub i = true then pure (ForInStep.yield (some i)) else pure (ForInStep.yield st)
theorem last_eq (s sub : Str) (lo hi : Nat) : lastOccurrence s sub lo hi = (forIn (List.range' lo (hi + 1 - lo)) none (lastBody s sub hi)).run := by
  unfold lastOccurrence lastBody
  simp
theorem last_kp (a : List Nat) : ∀ (t pre : List Nat) (o : Option Nat), a = pre ++ t →
    (forIn (List.range' pre.length (t.length + 1)) o (lastBody (sOf a) ⟨#[10]⟩ a.length)).run = if 0 < kp t then some (pre.length + kp t - 1) else o
  | [], pre, o, e => by
    have no : ¬ (pre.length + (⟨#[10]⟩ : Str).length ≤ a.length ∧ subAt (sOf a) ⟨#[10]⟩ pre.length = true) := fun z => by
      have z2 : pre.length + 1 ≤ a.length := z.1
      rw [e, List.append_nil] at z2
      omega
    show Id.run (forIn [pre.length] o _) = _
    rw [List.forIn_cons]
    unfold lastBody
    rw [if_neg no]
    simp [kp]
  | x :: t, pre, o, e => by
    have ex : a[pre.length]? = some x := by rw [e]; simp
    have hl2 : (sOf a).length = a.length := sOf_len a
    show Id.run (forIn (pre.length :: List.range' (pre.length + 1) (t.length + 1)) o _) = _
    rw [List.forIn_cons]
    have step : lastBody (sOf a) ⟨#[10]⟩ a.length pre.length o = pure (ForInStep.yield (if x = 10 then some pre.length else o)) := by
      unfold lastBody
      by_cases hx : x = 10
      · subst hx
        have sub := (subAt_one (sOf a) 10 pre.length).mpr (by simpa using ex)
        rw [hl2] at sub
        rw [if_pos sub, if_pos rfl]
      · have no : ¬ (pre.length + (⟨#[10]⟩ : Str).length ≤ a.length ∧ subAt (sOf a) ⟨#[10]⟩ pre.length = true) := fun z => by
          have z2 := (subAt_one (sOf a) 10 pre.length).mp ⟨by rw [hl2]; exact z.1, z.2⟩
          have z3 : a[pre.length]? = some 10 := by simpa using z2
          rw [ex] at z3
          exact hx (Option.some.inj z3)
        rw [if_neg no, if_neg hx]
    rw [step]
    have ih := last_kp a t (pre ++ [x]) (if x = 10 then some pre.length else o) (by rw [e]; simp)
    have el : List.length (pre ++ [x]) = pre.length + 1 := by simp
    rw [el] at ih
    refine ih.trans ?_
    rw [kp]
    by_cases h1 : 0 < kp t
    · rw [if_pos h1, if_pos h1, if_pos (by omega)]
      congr 1
      omega
    · rw [if_neg h1, if_neg h1]
      by_cases hx : x = 10
      · rw [if_pos hx, if_pos hx, if_pos (by omega)]
        rfl
      · rw [if_neg hx, if_neg hx, if_neg (by omega)]
theorem rfind_nl (a : List Nat) : Txt.rfind (sOf a) ⟨#[10]⟩ = (kp a : Int) - 1 := by
  unfold Txt.rfind
  rw [last_eq, sOf_len, Nat.sub_zero]
  have z := last_kp a a [] none rfl
  rw [List.length_nil] at z
  rw [z]
  by_cases h : 0 < kp a
  · rw [if_pos h]
    show ((0 + kp a - 1 : Nat) : Int) = _
    omega
  · rw [if_neg h]
    show (-1 : Int) = _
    omega
/-- the whole lines -/
def whole (a : List Nat) : List (List Nat) := (spl a).dropLast
theorem trim_kp : ∀ a : List Nat, ((whole a).map (· ++ [10])).flatten = a.take (kp a)
  | [] => rfl
  | x :: t => by
    have ih := trim_kp t
    unfold whole at ih ⊢
    obtain ⟨p, ps, ep⟩ := spl_some t
    by_cases hx : x = 10
    · subst hx
      rw [spl_nl, List.dropLast_cons_of_ne_nil (spl_ne t), List.map_cons, List.flatten_cons, ih]
      have e : kp (10 :: t) = kp t + 1 := by
        rw [kp]
        by_cases h : 0 < kp t
        · rw [if_pos h]
        · rw [if_neg h, if_pos rfl]; omega
      rw [e]
      rfl
    · rw [spl_cons hx ep]
      rw [ep] at ih
      have hk := kp_le t
      cases ps with
      | nil =>
        have z : (t.take (kp t)).length = 0 := by rw [← ih]; rfl
        rw [List.length_take] at z
        have e : kp (x :: t) = 0 := by rw [kp, if_neg (by omega), if_neg hx]
        rw [e]
        rfl
      | cons q qs =>
        have l : 0 < (t.take (kp t)).length := by
          rw [← ih]
          simp
          omega
        rw [List.length_take] at l
        have e : kp (x :: t) = kp t + 1 := by rw [kp, if_pos (by omega)]
        rw [e, List.take_succ_cons, ← ih]
        simp
/-! what a fall leaves -/
def fallF : List Nat → Nat → Nat → List Nat
  | [], _, _ => []
  | x :: t, 0, r => if x = 10 ∨ r = 0 then [] else x :: fallF t 0 (r - 1)
  | x :: t, k + 1, r => x :: fallF t (if x = 10 then k else k + 1) r
def fallP (t : List Nat) (k r : Nat) : List Nat := (((whole t).take k).map (· ++ [10])).flatten ++ ((spl t).getD ((whole t).take k).length []).take r
/-- whole lines alone -/
def Nl (t : List Nat) : Prop := kp t = t.length
theorem nl_tail {x : Nat} {t : List Nat} (h : Nl (x :: t)) : Nl t := by
  unfold Nl at *
  have := kp_le t
  rw [kp] at h
  split at h
  · simp at h; exact h
  · split at h
    · simp at h; simp [h, kp]
    · simp at h
theorem nl_first {x : Nat} {t : List Nat} (h : Nl (x :: t)) (hx : x ≠ 10) : 0 < kp t := by
  unfold Nl at h
  rw [kp] at h
  split at h
  · assumption
  · simp [hx] at h
theorem fall_eq : ∀ (t : List Nat) (k r : Nat), Nl t → fallP t k r = fallF t k r
  | [], k, r, _ => by simp [fallP, fallF, whole, spl]
  | x :: t, 0, r, h => by
    unfold fallP
    rw [fallF]
    obtain ⟨p, ps, ep⟩ := spl_some t
    by_cases hx : x = 10
    · subst hx
      rw [spl_nl, if_pos (.inl rfl)]
      simp
    · rw [spl_cons hx ep]
      cases r with
      | zero => rw [if_pos (.inr rfl)]; simp
      | succ r =>
        have ih := fall_eq t 0 r (nl_tail h)
        unfold fallP at ih
        rw [ep] at ih
        rw [if_neg (by rintro (z | z); exact hx z; omega)]
        show _ = x :: fallF t 0 r
        rw [← ih]
        simp
  | x :: t, k + 1, r, h => by
    unfold fallP
    rw [fallF]
    obtain ⟨p, ps, ep⟩ := spl_some t
    by_cases hx : x = 10
    · subst hx
      have ih := fall_eq t k r (nl_tail h)
      unfold fallP whole at ih
      unfold whole
      rw [spl_nl, if_pos rfl, List.dropLast_cons_of_ne_nil (spl_ne t), ← ih]
      simp
    · have ih := fall_eq t (k + 1) r (nl_tail h)
      have hk := nl_first h hx
      have tk := trim_kp t
      have kl := kp_le t
      unfold fallP whole at ih
      unfold whole at tk ⊢
      rw [ep] at ih tk
      rw [spl_cons hx ep, if_neg hx, ← ih]
      cases ps with
      | nil =>
        have z : (t.take (kp t)).length = 0 := by rw [← tk]; rfl
        rw [List.length_take] at z
        omega
      | cons q qs => simp
theorem spl_snoc (x : Nat) : ∀ a : List Nat, spl (a ++ [x]) = if x = 10 then spl a ++ [[]] else (spl a).dropLast ++ [(spl a).getLastD [] ++ [x]]
  | [] => by
    by_cases hx : x = 10
    · subst hx; simp [spl]
    · simp [spl, hx]
  | y :: a => by
    have ih := spl_snoc x a
    obtain ⟨p, ps, ep⟩ := spl_some a
    by_cases hy : y = 10
    · subst hy
      rw [List.cons_append, spl_nl, spl_nl, ih, ep]
      by_cases hx : x = 10
      · rw [if_pos hx, if_pos hx]; simp
      · rw [if_neg hx, if_neg hx]; simp
    · rw [List.cons_append, spl_cons hy ep]
      by_cases hx : x = 10
      · rw [if_pos hx, ep] at ih
        rw [if_pos hx, spl_cons hy ih]
        simp
      · rw [if_neg hx, ep] at ih
        rw [if_neg hx]
        cases ps with
        | nil => rw [spl_cons (p := p ++ [x]) (ps := []) hy (by simpa using ih)]; simp
        | cons q qs =>
          rw [spl_cons (p := p) (ps := (q :: qs).dropLast ++ [(q :: qs).getLastD [] ++ [x]]) hy (by rw [ih]; simp)]
          simp
end Q

set_option Elab.async false
set_option linter.all false
set_option maxRecDepth 100000
namespace Q
open PySem PySem.Spec L2
/-! readings, step by step -/
section
variable {D : Ends} {σ : L2.St} {H : Hp} {Q : VK} {K : PySem.W.Frag}
def PropR (C : Addr) (sp : Sp) (Q : VK) (x : V) (H1 : Hp) : Prop := ∃ a dx fs, x = .ref a ∧ H1 a = some (.ins C dx fs) ∧ sp [.ref a] H1 Q E0
theorem g_prop {C : Addr} {sp : Sp} {ta : TE} (h : ta σ H (PropR C sp Q)) : tProp C sp [] E0 ta σ H Q := h
instance st_g_prop {C : Addr} {sp : Sp} {ta : TE} : Step (tProp C sp [] E0 ta σ H Q) (ta σ H (PropR C sp Q)) := ⟨fun z => g_prop z⟩
theorem g_propR {C : Addr} {sp : Sp} {a dx : Addr} {fs : List (Str × V)} (h : H a = some (.ins C dx fs)) (q : sp [.ref a] H Q E0) : PropR C sp Q (.ref a) H := ⟨a, dx, fs, rfl, h, q⟩
def M1R (r : V → List V → Hp → VK → Prop) (te : TE) (σ : L2.St) (Q : VK) (x : V) (H1 : Hp) : Prop := (∃ a, x = .str a) ∧ te σ H1 fun y H2 => r x [y] H2 Q
theorem g_m1 {r : V → List V → Hp → VK → Prop} {to te : TE} (h : to σ H (M1R r te σ Q)) : tM1 r to te σ H Q := h
instance st_g_m1 {r : V → List V → Hp → VK → Prop} {to te : TE} : Step (tM1 r to te σ H Q) (to σ H (M1R r te σ Q)) := ⟨fun z => g_m1 z⟩
theorem g_m1R {r : V → List V → Hp → VK → Prop} {te : TE} {a : Str} (h : te σ H fun y H2 => r (.str a) [y] H2 Q) : M1R r te σ Q (.str a) H := ⟨⟨a, rfl⟩, h⟩
instance st_g_m1R {r : V → List V → Hp → VK → Prop} {te : TE} {a : Str} : Step (M1R r te σ Q (.str a) H) (te σ H fun y H2 => r (.str a) [y] H2 Q) := ⟨fun z => g_m1R z⟩
def FmtR (Q : VK) (x : V) (H1 : Hp) : Prop := (∃ y : Str, x = .str y ∧ y.length ≤ sizeLine ∧ Q (.str y) H1) ∨ ∃ i : Int, x = .int i ∧ i.natAbs.log2 < 1920 ∧ Q (.str (toString i)) H1
theorem g_fmt {te : TE} (h : te σ H (FmtR Q)) : tFmt te σ H Q := h
instance st_g_fmt {te : TE} : Step (tFmt te σ H Q) (te σ H (FmtR Q)) := ⟨fun z => g_fmt z⟩
theorem g_fmtS {y : Str} (l : y.length ≤ sizeLine) (h : Q (.str y) H) : FmtR Q (.str y) H := .inl ⟨y, rfl, l, h⟩
theorem g_fmtI {i : Int} (l : i.natAbs.log2 < 1920) (h : Q (.str (toString i)) H) : FmtR Q (.int i) H := .inr ⟨i, rfl, l, h⟩
def JR (ts : List TE) (acc : Str) (σ : L2.St) (R : Str → Hp → Prop) (x : V) (H1 : Hp) : Prop := ∃ y : Str, x = .str y ∧ (acc ++ y).length ≤ sizeLine ∧ tJs ts (acc ++ y) σ H1 R
theorem g_jsC {t : TE} {ts : List TE} {acc : Str} {R : Str → Hp → Prop} (h : t σ H (JR ts acc σ R)) : tJs (t :: ts) acc σ H R := h
instance st_g_jsC {t : TE} {ts : List TE} {acc : Str} {R : Str → Hp → Prop} : Step (tJs (t :: ts) acc σ H R) (t σ H (JR ts acc σ R)) := ⟨fun z => g_jsC z⟩
theorem g_jsN {acc : Str} {R : Str → Hp → Prop} (h : R acc H) : tJs [] acc σ H R := h
instance st_g_jsN {acc : Str} {R : Str → Hp → Prop} : Step (tJs [] acc σ H R) (R acc H) := ⟨fun z => g_jsN z⟩
theorem g_jR {ts : List TE} {acc y : Str} {R : Str → Hp → Prop} (l : (acc ++ y).length ≤ sizeLine) (h : tJs ts (acc ++ y) σ H R) : JR ts acc σ R (.str y) H := ⟨y, rfl, l, h⟩
def MkR (C : Addr) (n m : Nat) (sp : Sp) (gV : List V → List V → List V) (Q : VK) (vs zs : List V) (H2 : Hp) : Prop := vs.length = n ∧ zs.length = m ∧ ∀ x dx, H2 x = none → H2 dx = none → dx ≠ x →
  sp (gV (.ref x :: vs) zs) (upd (upd H2 dx (.own x)) x (.ins C dx [])) (fun v H3 => v = .non ∧ Q (.ref x) H3) E0
theorem g_mk {C : Addr} {n m : Nat} {sp : Sp} {gV : List V → List V → List V} {t tk : TA} (h : t σ H fun vs H1 => tk σ H1 fun zs H2 => MkR C n m sp gV Q vs zs H2) : tMakeK C n m sp gV E0 t tk σ H Q := h
instance st_g_mk {C : Addr} {n m : Nat} {sp : Sp} {gV : List V → List V → List V} {t tk : TA} : Step (tMakeK C n m sp gV E0 t tk σ H Q) (t σ H fun vs H1 => tk σ H1 fun zs H2 => MkR C n m sp gV Q vs zs H2) := ⟨fun z => g_mk z⟩
theorem g_mkR {C : Addr} {n m : Nat} {sp : Sp} {gV : List V → List V → List V} {vs zs ws : List V} (h1 : vs.length = n) (h2 : zs.length = m) (e : ∀ x, gV (.ref x :: vs) zs = .ref x :: ws)
    (h : ∀ x dx, H x = none → H dx = none → dx ≠ x → sp (.ref x :: ws) (upd (upd H dx (.own x)) x (.ins C dx [])) (fun v H3 => v = .non ∧ Q (.ref x) H3) E0) : MkR C n m sp gV Q vs zs H :=
  ⟨h1, h2, fun x dx a b c => by rw [e]; exact h x dx a b c⟩
def MtR2 (C : Addr) (m : Str) (n j : Nat) (sp : Sp) (gV : List V → List V → List V) (t tk : TA) (σ : L2.St) (Q : VK) (x : V) (H1 : Hp) : Prop := ∃ a dx fs, x = .ref a ∧ H1 a = some (.ins C dx fs) ∧ fs.lookup m = none ∧
  t σ H1 fun vs H2 => tk σ H2 fun zs H3 => vs.length = n ∧ zs.length = j ∧ sp (gV (.ref a :: vs) zs) H3 Q E0
theorem g_methN {C : Addr} {m : Str} {n j : Nat} {sp : Sp} {gV : List V → List V → List V} {to : TE} {t tk : TA} (h : to σ H (MtR2 C m n j sp gV t tk σ Q)) : tMethN C m n j sp gV E0 to t tk σ H Q := h
instance st_g_methN {C : Addr} {m : Str} {n j : Nat} {sp : Sp} {gV : List V → List V → List V} {to : TE} {t tk : TA} : Step (tMethN C m n j sp gV E0 to t tk σ H Q) (to σ H (MtR2 C m n j sp gV t tk σ Q)) := ⟨fun z => g_methN z⟩
def MtR3 (n j : Nat) (sp : Sp) (gV : List V → List V → List V) (a : Addr) (Q : VK) (vs zs : List V) (H3 : Hp) : Prop := vs.length = n ∧ zs.length = j ∧ sp (gV (.ref a :: vs) zs) H3 Q E0
theorem g_methN2 {C : Addr} {m : Str} {n j : Nat} {sp : Sp} {gV : List V → List V → List V} {t tk : TA} {a dx : Addr} {fs : List (Str × V)} (h : H a = some (.ins C dx fs)) (l : fs.lookup m = none)
    (q : t σ H fun vs H2 => tk σ H2 fun zs H3 => MtR3 n j sp gV a Q vs zs H3) : MtR2 C m n j sp gV t tk σ Q (.ref a) H := ⟨a, dx, fs, rfl, h, l, q⟩
theorem g_methN3 {n j : Nat} {sp : Sp} {gV : List V → List V → List V} {a : Addr} {vs zs ws : List V} (h1 : vs.length = n) (h2 : zs.length = j) (e : gV (.ref a :: vs) zs = ws) (h : sp ws H Q E0) : MtR3 n j sp gV a Q vs zs H := ⟨h1, h2, by rw [e]; exact h⟩
theorem g_ownLen {C : Addr} {sp : Sp} {a dx : Addr} {fs : List (Str × V)} (h : H a = some (.ins C dx fs)) (q : sp [.ref a] H (fun v H' => ∃ n : Int, v = .int n ∧ 0 ≤ n ∧ n < 2 ^ 63 ∧ Q (.int n) H') E0) : rOwnLen C sp [.ref a] H Q := ⟨a, dx, fs, rfl, h, q⟩
theorem g_ownRepr {C : Addr} {sp : Sp} {a dx : Addr} {fs : List (Str × V)} (h : H a = some (.ins C dx fs)) (q : sp [.ref a] H (fun v H' => ∃ z : Str, v = .str z ∧ Q (.str z) H') E0) : rOwnRepr C sp [.ref a] H Q := ⟨a, dx, fs, rfl, h, q⟩
theorem g_ownBool {C : Addr} {sp : Sp} {a dx : Addr} {fs : List (Str × V)} (h : H a = some (.ins C dx fs)) (q : sp [.ref a] H (fun v H' => ∃ b : Bool, v = .bl b ∧ Q (.bl b) H') E0) : rOwnBool C sp [.ref a] H Q := ⟨a, dx, fs, rfl, h, q⟩
end
theorem sz_ok {n : Nat} (h : n ≤ 100000) : n ≤ sizeLine := Nat.le_trans h (by decide)
theorem str_app_len (a b : Str) : (a ++ b).length = a.length + b.length := by
  show (a.cps ++ b.cps).size = a.cps.size + b.cps.size
  exact Array.size_append
/-! texts -/
section
variable {σ : L2.St} {H : Hp} {Q : VK} {K : PySem.W.Frag}
theorem g_lenS {z : Str} (l : z.length ≤ sizeLine) (h : Q (.int z.length) H) : (∃ y : Str, [V.str z] = [.str y] ∧ y.length ≤ sizeLine ∧ Q (.int y.length) H) := ⟨z, rfl, l, h⟩
theorem g_slS {z : Str} {lo hi : Option Int} (l : z.length ≤ sizeLine) (h : Q (.str (cutS z lo hi)) H) : rSlS (.str z) lo hi H Q := ⟨z, rfl, l, h⟩
def qMax2 : List V → Hp → VK → Prop := fun xs H Q => ∃ i j, xs = [.int i, .int j] ∧ Q (.int (if j > i then j else i)) H
theorem c_max2 {X : Cx} (c : X.calm = true) : CallR X (.builtin "max") qMax2 := call_max2 c
theorem g_max2 {i j : Int} (h : Q (.int (if j > i then j else i)) H) : qMax2 [.int i, .int j] H Q := ⟨i, j, rfl, h⟩
instance st_g_max2 {i j : Int} : Step (qMax2 [.int i, .int j] H Q) (Q (.int (if j > i then j else i)) H) := ⟨fun z => g_max2 z⟩
def qMin2 : List V → Hp → VK → Prop := fun xs H Q => ∃ i j, xs = [.int i, .int j] ∧ Q (.int (if j < i then j else i)) H
theorem c_min2 {X : Cx} (c : X.calm = true) : CallR X (.builtin "min") qMin2 := call_min2 c
theorem g_min2 {i j : Int} (h : Q (.int (if j < i then j else i)) H) : qMin2 [.int i, .int j] H Q := ⟨i, j, rfl, h⟩
instance st_g_min2 {i j : Int} : Step (qMin2 [.int i, .int j] H Q) (Q (.int (if j < i then j else i)) H) := ⟨fun z => g_min2 z⟩
theorem g_addS {x y : Str} (l : x.length + y.length ≤ sizeLine) (h : Q (.str (x ++ y)) H) : (∃ i j : Str, V.str x = .str i ∧ V.str y = .str j ∧ i.length + j.length ≤ sizeLine ∧ Q (.str (i ++ j)) H) := ⟨x, y, rfl, rfl, l, h⟩
end
theorem cut_from (cs : List Nat) (n : Nat) : cutS (sOf cs) (some (n : Int)) none = sOf (cs.drop n) := by
  unfold cutS
  rw [HT.sIx_nat, HT.sIx_none, sOf_len]
  show (⟨((cs.drop (min n cs.length)).take (cs.length - min n cs.length)).toArray⟩ : Str) = ⟨(cs.drop n).toArray⟩
  rcases Nat.le_total n cs.length with h | h
  · rw [Nat.min_eq_left h, List.take_of_length_le (by rw [List.length_drop]; omega)]
  · rw [Nat.min_eq_right h, Nat.sub_self, List.take_zero, List.drop_eq_nil_of_le h]
theorem cut_to (cs : List Nat) (n : Nat) : cutS (sOf cs) none (some (n : Int)) = sOf (cs.take n) := by
  unfold cutS
  rw [HT.sIx_nat, HT.sIx_none, sOf_len, Nat.sub_zero]
  show (⟨((cs.drop 0).take (min n cs.length)).toArray⟩ : Str) = ⟨(cs.take n).toArray⟩
  rw [List.drop_zero]
  rcases Nat.le_total n cs.length with h | h
  · rw [Nat.min_eq_left h]
  · rw [Nat.min_eq_right h, List.take_length, List.take_of_length_le h]
theorem cutV_to (xs : List V) (n : Nat) : cutV xs none (some (n : Int)) = xs.take n := by
  unfold cutV
  rw [HT.sIx_nat, HT.sIx_none, Nat.sub_zero, List.drop_zero]
  rcases Nat.le_total n xs.length with h | h
  · rw [Nat.min_eq_left h]
  · rw [Nat.min_eq_right h, List.take_length, List.take_of_length_le h]
theorem cutV_last (xs : List V) : cutV xs none (some (-1)) = xs.dropLast := by
  unfold cutV
  rw [HT.sIx_none, Nat.sub_zero, List.drop_zero]
  have e : HT.sIx xs.length xs.length (some (-1)) = xs.length - 1 := by
    show (if (-1 : Int) < 0 then ((-1 : Int) + (xs.length : Int)).toNat else min (-1 : Int).toNat xs.length) = _
    rw [if_pos (by decide)]
    omega
  rw [e, List.dropLast_eq_take]
/-- a number as a text -/
abbrev nTxt (n : Nat) : Str := Str.ofString (toString (n : Int))
theorem nTxt_len {n : Nat} (h : n < 100000) : (nTxt n).length ≤ 10 := by
  have e := int_text_length_le10 (k := 5) (a := (n : Int)) (by decide) (by show n < 10 ^ 5; omega)
  rw [PySem.ofString_length]
  omega
theorem log_ok {n : Nat} (h : n < 100000) : (n : Int).natAbs.log2 < 1920 := Nat.lt_trans (PySem.Flt.log2_lt_of (k := 20) (by decide) (show n < 2 ^ 20 by omega)) (by decide)
section
variable {K : PySem.W.Frag} {g : TG} {tt : TT} {te : TE} {vs : List Nat} {σ σ0 : L2.St} {H : Hp} {Q : VK} {a : Addr}
/-- a comprehension over a list, an item for each item -/
theorem lcMap {α : Type} {S : List α} {g0 f : α → V} (hw : wipe σ vs = σ0) (hS : SqL K H a (S.map g0)) (hl : S.length ≤ 1000)
    (turn : ∀ (D : Addr) (acc : List V) (x : α) (N : Hp → Prop), H D = none → x ∈ S → TurnD D N (f x) (upd H D (.lst acc)) → Turn1 g tt te vs σ0 D (g0 x) (upd H D (.lst acc)) N)
    (q : ∀ D, H D = none → Q (.ref D) (upd H D (.lst (S.map f)))) : LcG (Itl K a) g tt te vs σ Q H := by
  refine lcL (xs := S.map g0) hw fun D hD => ⟨fun i H' => H' = upd H D (.lst ((S.take i).map f)), rfl, ?_, ?_, ?_⟩
  · rintro i H' _ rfl
    exact (same_new hD).seq hS
  · rintro i x H' hx rfl
    rw [List.getElem?_map, Option.map_eq_some_iff] at hx
    obtain ⟨n, hn, rfl⟩ := hx
    have lt : i < S.length := (List.getElem?_eq_some_iff.mp hn).1
    refine turn D _ n _ hD (List.mem_of_getElem? hn) (g_turnD upd_same ?_ ?_)
    · rw [List.length_map, List.length_take]
      omega
    · dsimp only
      rw [upd_upd, List.take_add_one, hn, List.map_append]
      rfl
  · rintro H' rfl
    rw [List.length_map, List.take_length]
    exact q D hD
end
/-! over the signs of a text -/
section
variable {K : PySem.W.Frag} {g : TG} {tt : TT} {te : TE} {tb : TS} {vs : List Nat} {D0 : Ends} {σ σ0 : L2.St} {H : Hp} {Q : VK} {R : It → Hp → Prop}
def StrR (x : V) (R : It → Hp → Prop) (H : Hp) : Prop := ∃ z, x = .str z ∧ R (Its z) H
theorem g_iStr {te : TE} (h : te σ H fun x H1 => StrR x R H1) : iStr te σ H R := h
instance st_g_iStr {te : TE} : Step (iStr te σ H R) (te σ H fun x H1 => StrR x R H1) := ⟨fun z => g_iStr z⟩
theorem g_strR {z : Str} (h : R (Its z) H) : StrR (.str z) R H := ⟨z, rfl, h⟩
instance st_g_strR {z : Str} : Step (StrR (.str z) R H) (R (Its z) H) := ⟨fun z => g_strR z⟩
theorem forS {cs : List Nat} (h : ∃ Pv : Nat → L2.St → Hp → Prop, Pv 0 σ H ∧
    (∀ i c σ' H', cs[i]? = some c → Pv i σ' H' → g (.str (sOf [c])) σ' H' fun σ2 H2 => tb { D0 with nx := Pv (i + 1), ct := Pv (i + 1), bk := D0.nx } σ2 H2) ∧ ∀ σ' H', Pv cs.length σ' H' → D0.nx σ' H') : ForG (Its (sOf cs)) g tb D0 σ H := by
  obtain ⟨Pv, h0, hs, hd⟩ := h
  have sz : (sOf cs).cps.size = cs.length := sOf_len cs
  refine ⟨fun i m σ H => m = cs.length - i ∧ i ≤ cs.length ∧ Pv i σ H, ⟨cs.length, by simp, Nat.zero_le _, h0⟩, ?_⟩
  rintro i m σ H ⟨rfl, hi, p⟩
  rcases Nat.lt_or_ge i cs.length with lt | ge
  · refine .inr ⟨show i < (sOf cs).cps.size by omega, Pv (i + 1), fun σ' H' p' => ⟨cs.length - (i + 1), by omega, rfl, lt, p'⟩, ?_⟩
    rintro x H' ⟨rfl, c, hc, rfl⟩
    exact hs i c σ _ (by simpa using hc) p
  · have e : i = cs.length := by omega
    subst e
    exact .inl ⟨show (sOf cs).cps.size ≤ cs.length by omega, hd σ H p⟩
theorem lcS {cs : List Nat} {f : Nat → V} (hw : wipe σ vs = σ0) (hl : cs.length ≤ 1000)
    (turn : ∀ (D : Addr) (acc : List V) (c : Nat) (N : Hp → Prop), H D = none → c ∈ cs → TurnD D N (f c) (upd H D (.lst acc)) → Turn1 g tt te vs σ0 D (.str (sOf [c])) (upd H D (.lst acc)) N)
    (q : ∀ D, H D = none → Q (.ref D) (upd H D (.lst (cs.map f)))) : LcG (Its (sOf cs)) g tt te vs σ Q H := by
  subst hw
  intro D hD
  have sz : (sOf cs).cps.size = cs.length := sOf_len cs
  refine ⟨fun i m H' => m = cs.length - i ∧ i ≤ cs.length ∧ H' = upd H D (.lst ((cs.take i).map f)), ⟨cs.length, by simp, Nat.zero_le _, rfl⟩, ?_⟩
  rintro i m H' ⟨rfl, hi, rfl⟩
  rcases Nat.lt_or_ge i cs.length with lt | ge
  · refine .inr ⟨show i < (sOf cs).cps.size by omega, fun H' => H' = upd H D (.lst ((cs.take (i + 1)).map f)), fun H' p' => ⟨cs.length - (i + 1), by omega, rfl, lt, p'⟩, ?_⟩
    rintro x H' ⟨rfl, c, hc, rfl⟩
    have hc2 : cs[i]? = some c := by simpa using hc
    refine turn D _ c _ hD (List.mem_of_getElem? hc2) (g_turnD upd_same (by rw [List.length_map, List.length_take]; omega) ?_)
    rw [upd_upd, List.take_add_one, hc2, List.map_append]
    rfl
  · have e : i = cs.length := by omega
    subst e
    rw [List.take_length]
    exact .inl ⟨show (sOf cs).cps.size ≤ cs.length by omega, q D hD⟩
end
theorem join_len (sep : Str) (xs : List Str) : (Txt.join sep xs).length ≤ (xs.map (·.length)).sum + xs.length * sep.length := by
  unfold Txt.join
  rw [StrLaws.glued_eq_join]
  exact StrLaws.join_length_le sep xs
theorem sum_le {xs : List Nat} {b : Nat} (h : ∀ x ∈ xs, x ≤ b) : xs.sum ≤ xs.length * b := by
  induction xs with
  | nil => simp
  | cons x r ih =>
    have h1 := h x (List.mem_cons_self ..)
    have h2 := ih fun y hy => h y (List.mem_cons_of_mem _ hy)
    rw [List.sum_cons, List.length_cons, Nat.add_mul]
    omega
theorem g_gLst {K : PySem.W.Frag} {n : Nat} {t : TGs} {p : Addr} {xs : List V} {σ : L2.St} {H : Hp} {N : L2.St → Hp → Prop} (c : SqL K H p xs) (e : xs.length = n) (h : t xs σ H N) : gLst K n t (.ref p) σ H N := ⟨p, xs, rfl, c, e, h⟩
end Q
-- step instances

set_option Elab.async false
set_option linter.all false
set_option maxRecDepth 100000
set_option maxHeartbeats 4000000
namespace PySem
open PySem.Builtin.Str
theorem qStrIn {prog : Program} {w : World} {a : Addr} :
    MeetsIn prog w (Builtin.«str.__new__» ⟨[.type "str", .ref a], []⟩) (fun A R s => wpAny (model prog w) A.in1 (Builtin.Str.strOf (.ref a)) (fun v t => R (.ok (.ret v)) t) (fun e t => R (.error e) t) s) :=
  MeetsIn.of_wp fun A R s hs => by
    rw [str_new_tree (.ref a)]
    refine wpAny_bind (wpAny_pure ?_)
    refine wpAny_bind (wpAny_of_eq isSubtype_str_str ?_)
    exact wpAny_bind (wpAny_mono hs (fun r t hq => wpAny_pure ⟨_, rfl, hq⟩) fun _ _ z => z)
end PySem
namespace Q
open PySem PySem.Spec L2
section
variable {X : Cx} {C : Addr} {k : Nat} {ps : List Str} {sp : Sp}
def rOwnStr (C : Addr) (sp : Sp) : List V → Hp → VK → Prop := fun xs H Q => ∃ a dx fs, xs = [.ref a] ∧ H a = some (.ins C dx fs) ∧ sp [.ref a] H (fun v H' => ∃ z : Str, v = .str z ∧ Q (.str z) H') E0
theorem call_ownStr (M : MCal X.prog X.w X.K X.mg X.base C "__str__" k ps sp) (hr : Room (k + 2) X.A) : CallR X (.type "str") (rOwnStr C sp) := by
  intro pins s σ H xs us Q I r h
  obtain ⟨a, dx, fs, rfl, ha, hs⟩ := h
  obtain rfl := Vals.ref1 r
  obtain ⟨f, fd, hm, F, hb⟩ := M.ex
  obtain ⟨_, J, _⟩ := ins_get I.hok ha
  obtain ⟨od, J, _⟩ := J.look
  obtain ⟨mm, hF⟩ := I.fr
  refine qTypeIn PySem.F.called_str (by decide) (PySem.F.typeCall_str_1 _) (PySem.F.newCall_str_1 _) (fun obj => PySem.F.args_object_init_2 obj _) PySem.F.entry_str_new qStrIn ?_
  unfold PySem.Builtin.Str.strOf
  rw [show Builtin.Str.isExactStr (Value.ref a) = false from rfl]
  simp only [Bool.false_eq_true, if_false, pure_bind]
  refine wpAny_bind (wpAny_cRoomFor hr.in1.in1.units0 ?_)
  refine wpAny_bind (m := callSpecial? (.ref a) (Str.ofString "__str__")) (PySem.W.special_fn (I.ok.mod.kin.keeps hF.keep) J hm.at_ (beq_iff_eq.mp hm.fn) (thn (run_own (m := "__str__") F hb hr.in1.in1 rfl I hs) fun u t ⟨z, H', I', rz, b, ez, q⟩ => ?_))
  subst ez
  obtain ⟨tk, rfl⟩ := rz
  show wpAny _ _ (do
    let o ← asStr? (Value.str b tk)
    if o.isNone = true then _ else _) _ _ _
  refine wpAny_bind (wpAny_pure ?_)
  rw [if_neg (by simp)]
  exact wpAny_pure ⟨typeIs_str _ _ _, .str b, H', I', ⟨_, rfl⟩, q⟩
theorem g_ownStr {H : Hp} {Q : VK} {a dx : Addr} {fs : List (Str × V)} (h : H a = some (.ins C dx fs)) (q : sp [.ref a] H (fun v H' => ∃ z : Str, v = .str z ∧ Q (.str z) H') E0) : rOwnStr C sp [.ref a] H Q := ⟨a, dx, fs, rfl, h, q⟩
end
end Q

set_option Elab.async false
set_option linter.all false
set_option maxRecDepth 100000
set_option maxHeartbeats 4000000
/-! own operators, own ==, -x, truth; more facts of the head -/
namespace Q
open PySem PySem.Spec PyProof.Rows L2
section
variable {X : Cx} {C : Addr} {k : Nat} {ps : List Str} {sp : Sp}
/-- a def of a class called with values -/
theorem run_vals {pins : List (Addr × Obj)} {σ : L2.St} {H : Hp} {s : Shared} {m : Str} {vs : List V} {us : List Value} {Q : VK} (M : MCal X.prog X.w X.K X.mg X.base C m k ps sp) (hr : Room k X.A)
    (I : Inv X pins σ H s) (r : Vals vs us) (h : sp vs H Q E0) : ∃ f, Meth X.K C m f ∧ wpAny (model X.prog X.w) X.A (call (.ref f) us) (EP X pins σ Q) X.xe s := by
  obtain ⟨f, fd, hm, F, hb⟩ := M.ex
  exact ⟨f, hm, run_fn F hr hb .nil pass0 I r (by rw [List.append_nil]; exact h)⟩
theorem cmpBack {pins : List (Addr × Obj)} {σ : L2.St} {Q : VK} {v : Value} {s' : Shared} (h : EP X pins σ Q v s') : PySem.W.CmpBack (EP X pins σ Q) v s' := by
  cases v with
  | notImplemented =>
    obtain ⟨z, H', I', rz, _⟩ := h
    cases z with
    | non => cases rz
    | bl b => cases rz
    | int i => obtain ⟨t, e⟩ := rz; cases e
    | str i => obtain ⟨t, e⟩ := rz; cases e
    | byt i => obtain ⟨t, e⟩ := rz; cases e
    | flt i => obtain ⟨t, e⟩ := rz; cases e
    | ref i => cases rz
    | ty i => cases rz
  | _ => exact h
def rOwnBin (C : Addr) (sp : Sp) : R2 := fun x y H Q => ∃ a dx fs b dx2 fs2, x = .ref a ∧ y = .ref b ∧ H a = some (.ins C dx fs) ∧ H b = some (.ins C dx2 fs2) ∧ sp [.ref a, .ref b] H Q E0
theorem op_ownBin {op : Operator} {m : Str} (em : PySem.dunder op.info.2 = m) (sf : PySem.W.selfFirst X.K C = true) (M : MCal X.prog X.w X.K X.mg X.base C m k ps sp) (hr : Room k X.A) : OpR X (binaryOp op) (rOwnBin C sp) := by
  intro pins s σ H x y v u Q I rx ry h
  obtain ⟨a, dx, fs, b, dx2, fs2, rfl, rfl, ha, hb, hs⟩ := h
  cases rx
  cases ry
  obtain ⟨_, J, _⟩ := ins_get I.hok ha
  obtain ⟨od, J, _⟩ := J.look
  obtain ⟨_, J', _⟩ := ins_get I.hok hb
  obtain ⟨od', J', _⟩ := J'.look
  obtain ⟨mm, hF⟩ := I.fr
  obtain ⟨f, hm, hw⟩ := run_vals M hr I (vs := [.ref a, .ref b]) (us := [.ref a, .ref b]) (.cons rfl (.cons rfl .nil)) hs
  exact PySem.W.binop_K hF I.ok.mod.kin J J'.type sf (by rw [em]; exact hm.at_) hm.fn (wpAny_mono hw (fun v s' z => cmpBack z) fun _ _ z => z)
def rOwnEq (K : PySem.W.Frag) (C : Addr) (sp : Sp) : R2 := fun x y H Q => ∃ a dx fs t, x = .ref a ∧ H a = some (.ins C dx fs) ∧ TyX K H y t ∧ PySem.W.notFirst K C t = true ∧ sp [.ref a, y] H Q E0
theorem op_ownEq (M : MCal X.prog X.w X.K X.mg X.base C "__eq__" k ps sp) (hr : Room k X.A) : OpR X (compareOp .Eq) (rOwnEq X.K C sp) := by
  intro pins s σ H x y v u Q I rx ry h
  obtain ⟨a, dx, fs, t, rfl, ha, ty, nf, hs⟩ := h
  cases rx
  obtain ⟨_, J, _⟩ := ins_get I.hok ha
  obtain ⟨od, J, _⟩ := J.look
  obtain ⟨mm, hF⟩ := I.fr
  obtain ⟨P, Z, p, hx⟩ := kit_of I ry ty
  obtain ⟨f, hm, hw⟩ := run_vals M hr I (vs := [.ref a, y]) (us := [.ref a, u]) (.cons rfl (.cons ry .nil)) hs
  exact PySem.W.cmp_K (op := .Eq) (tb := t) hr.units0 hF I.ok.mod.kin J (Z.ty _ _ I.kIn p) nf hm.at_ hm.fn (wpAny_mono hw (fun v s' z => cmpBack z) fun _ _ z => z)
def rOwnUn (C : Addr) (sp : Sp) : V → Hp → VK → Prop := fun x H Q => ∃ a dx fs, x = .ref a ∧ H a = some (.ins C dx fs) ∧ sp [.ref a] H Q E0
theorem un_ownNeg (M : MCal X.prog X.w X.K X.mg X.base C "__neg__" k ps sp) (hr : Room k X.A) : UnR X (unaryOp .USub) (rOwnUn C sp) := by
  intro pins s σ H x v Q I rx h
  obtain ⟨a, dx, fs, rfl, ha, hs⟩ := h
  cases rx
  obtain ⟨_, J, _⟩ := ins_get I.hok ha
  obtain ⟨od, J, _⟩ := J.look
  obtain ⟨mm, hF⟩ := I.fr
  obtain ⟨f, hm, hw⟩ := run_vals M hr I (vs := [.ref a]) (us := [.ref a]) (.cons rfl .nil) hs
  unfold unaryOp
  refine wpAny_holding ?_
  dsimp only
  rw [if_neg (by decide)]
  refine wpAny_bind (m := callSpecial? (.ref a) (Str.ofString "__neg__")) (PySem.W.special_fn (I.ok.mod.kin.keeps hF.keep) J hm.at_ (beq_iff_eq.mp hm.fn) (wpAny_mono hw (fun v s' z => ?_) fun _ _ z => z))
  exact wpAny_pure z
/-- an own object as a test, by its __bool__ -/
theorem pt_ownBool {e : Expr} {ta : TE} (he : PE X e ta) (M : MCal X.prog X.w X.K X.mg X.base C "__bool__" k ps sp) (hr : Room k X.A) (hw : ∀ whole, isTrue e X.env whole = (do let v ← whole; standAt e.pos; holding [v] (truthy v))) :
    PT X e (fun σ H Q => ta σ H fun x H1 => ∃ a dx fs, x = .ref a ∧ H1 a = some (.ins C dx fs) ∧ sp [.ref a] H1 (fun v H' => ∃ b : Bool, v = .bl b ∧ Q b H') E0) := by
  refine ⟨fun pins s σ H Q I h => ?_⟩
  refine isTrue_plain (thn (he.run pins s σ H _ I h) fun v s1 ⟨x, H1, I1, rx, q1⟩ => ?_) (hw _)
  obtain ⟨a, dx, fs, rfl, ha, hs⟩ := q1
  cases rx
  obtain ⟨_, J, _⟩ := ins_get I1.hok ha
  obtain ⟨od, J, _⟩ := J.look
  obtain ⟨mm, hF⟩ := I1.fr
  obtain ⟨f, hm, hw⟩ := run_vals M hr I1 (vs := [.ref a]) (us := [.ref a]) (.cons rfl .nil) hs
  refine PySem.W.truthy_K hF I1.ok.mod.kin J hm.at_ hm.fn (wpAny_mono hw (fun v s' ⟨z, H', I', rz, b, ez, q⟩ => ?_) fun _ _ z => z)
  subst ez
  cases rz
  exact ⟨H', I', q⟩
/-- // of whole numbers of any sign, the divisor below 2 ^ 9000 -/
def CDivZ (_ j : Int) : Prop := j ≠ 0 ∧ j.natAbs.log2 < 9000
theorem op_fdivZ : OpR X (binaryOp .FloorDiv) (rI CDivZ fun i j => .int (i.fdiv j)) := opI fun _ _ _ _ _ _ _ hc q => floordiv_int hc.1 q (.inl (PyProof.noPylong_of_log2 hc.2))
theorem div_z {i j : Int} {b : Nat} (h : j ≠ 0) (hb : j.natAbs < 2 ^ b) (h0 : 0 < b) (h9 : b ≤ 9000) : CDivZ i j := ⟨h, Nat.lt_of_lt_of_le (PySem.Flt.log2_lt_of h0 hb) h9⟩
end
/-! the head's facts, with tests of one's own -/
abbrev AlX : Type := AlP × Bool
def obsX (fa : List He.Fa) (fn : List He.DefD) (pr : List PrpD) (bs : List (PySem.W.Frag → Bool)) (K : PySem.W.Frag) : AlX := (obsP fa fn pr K, bs.all fun b => b K)
def valX (fn : List He.DefD) (pr : List PrpD) : AlX := (valP fn pr, true)
structure SaysX (fa : List He.Fa) (fn : List He.DefD) (pr : List PrpD) (bs : List (PySem.W.Frag → Bool)) (K : PySem.W.Frag) : Prop where
  eq : obsX fa fn pr bs K = valX fn pr
def obsXG (n : Nat) (fa : List He.Fa) (fn : List He.DefD) (pr : List PrpD) (bs : List (PySem.W.Frag → Bool)) (g : Addr → Option Obj) : AlX := obsX fa fn pr bs (He.frG g (He.asD g n))
def hookX (n : Nat) (fa : List He.Fa) (fn : List He.DefD) (pr : List PrpD) (bs : List (PySem.W.Frag → Bool)) : PySem.W.Hook where
  α := AlX
  obs := fun s => obsXG n fa fn pr bs s.heap.get?
  val := fun _ => valX fn pr
  says := fun _ h => ∃ K : PySem.W.Frag, K.In h ∧ SaysX fa fn pr bs K
  of := fun _ _ e => ⟨_, He.frG_in, ⟨e⟩⟩
  keeps := fun _ _ _ ⟨K, inK, c⟩ kp => ⟨K, PySem.W.Frag.In.keeps inK kp, c⟩
theorem obsXG_eq {n : Nat} {fa : List He.Fa} {fn : List He.DefD} {pr : List PrpD} {bs : List (PySem.W.Frag → Bool)} {g : Addr → Option Obj} {s : Shared} (h : ∀ a, g a = s.heap.get? a) : obsXG n fa fn pr bs g = (hookX n fa fn pr bs).obs s := by
  obtain rfl : g = s.heap.get? := funext h
  rfl
section
variable {fa : List He.Fa} {fn : List He.DefD} {pr : List PrpD} {bs : List (PySem.W.Frag → Bool)} {K : PySem.W.Frag}
theorem SaysX.p (c : SaysX fa fn pr bs K) : SaysP fa fn pr K := ⟨congrArg (fun z : AlX => z.1) c.eq⟩
theorem SaysX.test (c : SaysX fa fn pr bs K) (i : Nat) {b : PySem.W.Frag → Bool} (h : bs[i]? = some b := by rfl) : b K = true := by
  have z : (bs.all fun b => b K) = true := congrArg (fun z : AlX => z.2) c.eq
  exact List.all_eq_true.mp z b (List.mem_of_getElem? h)
end
/-! tests of the head -/
/-- an own class asked by isinstance -/
def insB (K : PySem.W.Frag) (c : Str) : Bool := decide (PySem.W.findIn K (.ref (He.ga K c)) "__class__" = some (some (.builtin "object.__class__"))) &&
  (decide (PySem.W.specialIn K (.builtin "object.__class__") "__get__" = some (some (.builtin "getset_descriptor.__get__"))) && (decide (PySem.W.takesIn K (.builtin "object.__class__") = some true) &&
  (decide (PySem.W.mroIn K (He.ga K c) (.type "object") = some true) && PySem.W.selfFirst K (He.ga K c))))
structure InsK (K : PySem.W.Frag) (C : Addr) : Prop where
  ha : PySem.W.findIn K (.ref C) "__class__" = some (some (.builtin "object.__class__"))
  hn : PySem.W.specialIn K (.builtin "object.__class__") "__get__" = some (some (.builtin "getset_descriptor.__get__"))
  htk : PySem.W.takesIn K (.builtin "object.__class__") = some true
  hm : PySem.W.mroIn K C (.type "object") = some true
  sf : PySem.W.selfFirst K C = true
theorem insB_ok {K : PySem.W.Frag} {c : Str} (h : insB K c = true) : InsK K (He.ga K c) := by
  obtain ⟨h1, h⟩ := He.ba h
  obtain ⟨h2, h⟩ := He.ba h
  obtain ⟨h3, h⟩ := He.ba h
  obtain ⟨h4, h5⟩ := He.ba h
  exact ⟨of_decide_eq_true h1, of_decide_eq_true h2, of_decide_eq_true h3, of_decide_eq_true h4, h5⟩
theorem InsK.ty {K : PySem.W.Frag} {C : Addr} {H : Hp} {a dx : Addr} {fs : List (Str × V)} (i : InsK K C) (c : Cls K C) (h : H a = some (.ins C dx fs)) : TyX K H (.ref a) (.ref C) := .base (.ins h c i.ha i.hn i.htk i.hm)
/-- isinstance of a value of the type t against the own class c -/
def kitB1 (K : PySem.W.Frag) (t : Value) (c : Str) (b : Bool) : Bool := decide (PySem.W.kitOne K t (.ref (He.ga K c)) = some b)
/-- a global that is a built-in -/
def bltB (K : PySem.W.Frag) (x : Str) (id : String) : Bool := decide (PySem.W.nsIn K mainGlobals x = some (some (.builtin id)))
theorem bltB_ok {K : PySem.W.Frag} {h : Heap} {mg : Str → Option Value} {x : Str} {id : String} (X : K.In h) (G : h.Ns mainGlobals mg) (c : bltB K x id = true) : mg x = some (.builtin id) := PySem.W.mg_of X G (of_decide_eq_true c)
end Q
namespace Q
open PySem PySem.Spec PyProof.Rows L2
theorem k_ownEq {X : Cx} {K : PySem.W.Frag} {C : Addr} {k : Nat} {ps : List Str} {sp : Sp} (ek : X.K = K) (M : MCal X.prog X.w X.K X.mg X.base C "__eq__" k ps sp) (hr : Room k X.A) : OpR X (compareOp .Eq) (rOwnEq K C sp) := by subst ek; exact op_ownEq M hr
theorem k_revL {X : Cx} {K : PySem.W.Frag} {e : Expr} {te : TE} {k : Nat} {p1 p2 p3 pos : Pos} (ek : X.K = K) (he : PE X e te) : PE X (.Subscript e (.Slice none none (some (.UnaryOp .USub (.Constant (.int 1) k p1) p2)) p3) pos) (tRevL K te) := by subst ek; exact pe_revL he
section
variable {σ : L2.St} {H : Hp} {Q : VK} {K : PySem.W.Frag} {C : Addr} {sp : Sp}
theorem g_ownBin {a b dx dx2 : Addr} {fs fs2 : List (Str × V)} (h1 : H a = some (.ins C dx fs)) (h2 : H b = some (.ins C dx2 fs2)) (q : sp [.ref a, .ref b] H Q E0) : rOwnBin C sp (.ref a) (.ref b) H Q := ⟨a, dx, fs, b, dx2, fs2, rfl, rfl, h1, h2, q⟩
theorem g_ownEq {a dx : Addr} {fs : List (Str × V)} {y : V} {t : Value} (h1 : H a = some (.ins C dx fs)) (ty : TyX K H y t) (nf : PySem.W.notFirst K C t = true) (q : sp [.ref a, y] H Q E0) : rOwnEq K C sp (.ref a) y H Q := ⟨a, dx, fs, t, rfl, h1, ty, nf, q⟩
theorem g_ownUn {a dx : Addr} {fs : List (Str × V)} (h1 : H a = some (.ins C dx fs)) (q : sp [.ref a] H Q E0) : rOwnUn C sp (.ref a) H Q := ⟨a, dx, fs, rfl, h1, q⟩
theorem g_gcd {a b : Int} (q : Q (.int ((Nat.gcd a.natAbs b.natAbs : Nat) : Int)) H) : rGcd [.int a, .int b] H Q := ⟨a, b, rfl, q⟩
instance st_g_gcd {a b : Int} : Step (rGcd [.int a, .int b] H Q) (Q (.int ((Nat.gcd a.natAbs b.natAbs : Nat) : Int)) H) := ⟨fun z => g_gcd z⟩
/-- isinstance of anything against an own class -/
theorem g_isiC {x : V} {t : Value} {D : Addr} {b : Bool} (ty : TyX K H x t) (e : PySem.W.kitOne K t (.ref D) = some b) (q : Q (.bl b) H) : rIsi K [x, .ref D] H Q := ⟨x, .ref D, t, .ref D, b, rfl, .own D, ty, e, q⟩
end
end Q
-- step instances

set_option Elab.async false
set_option linter.all false
set_option maxRecDepth 100000
set_option maxHeartbeats 4000000
/-! what may raise: methods, own error classes without arguments, the suite -/
namespace Q
open PySem PySem.Spec PyProof.Rows L2
/-- what a caller needs of a method that may raise -/
structure MCalX (P : Program) (w : World) (K : PySem.W.Frag) (mg : Str → Option Value) (base : Heap) (C : Addr) (m : Str) (k : Nat) (ps : List Str) (sp : Sp) : Prop where
  ex : ∃ (f : Addr) (fd : FuncData), Meth K C m f ∧ FnOk P w K mg base (L2.CX P w) k f fd ps sp ∧ Binds K fd ps []
theorem mcalx_mk {P : Program} {w : World} {K : PySem.W.Frag} {mg : Str → Option Value} {base : Heap} {C : Addr} {m : Str} {x q : Str} {pa : Arguments} {bd : List Stmt} {sc : Scope} {dv : List V} {kw : List (Str × V)} {k : Nat} {ps : List Str} {sp : Sp} {f : Addr}
    (me : Meth K C m f) (h : ∃ (fd : FuncData), FunD K x q pa bd sc dv kw f fd)
    (ok : ∀ {f : Addr} {fd : FuncData}, FunD K x q pa bd sc dv kw f fd → FnOk P w K mg base (L2.CX P w) k f fd ps sp)
    (b : ∀ {f : Addr} {fd : FuncData}, FunD K x q pa bd sc dv kw f fd → Binds K fd ps []) : MCalX P w K mg base C m k ps sp := by
  obtain ⟨fd, F⟩ := h
  exact ⟨f, fd, me, ok F, b F⟩
def tMethX (C : Addr) (m : Str) (sp : Sp) (E : L2.St → XK) (ta : TE) (t : TA) : TE := fun σ H Q => ta σ H fun x H1 => ∃ a dx fs, x = .ref a ∧ H1 a = some (.ins C dx fs) ∧ fs.lookup m = none ∧ t σ H1 fun vs H2 => sp (x :: vs) H2 Q (E σ)
section
variable {X : Cx} {C : Addr} {m x : Str} {k : Nat} {ps : List Str} {sp : Sp} {o e : Expr} {es : List Expr} {ta : TE} {t : TA} {E : L2.St → XK} {p pos apos : Pos}
theorem pe_mcalX {pl : Sem Bool} (he : PE X o ta) (c : Cls X.K C) (M : MCalX X.prog X.w X.K X.mg X.base C m k ps sp) (hr : Room k X.A) (hx : ∀ σ, PassesAt (L2.CX X.prog X.w) X σ (E σ)) (ha : PA X (e :: es) t)
    (hst : starEach (e :: es) X.env = (false, eval e X.env) :: starEach es X.env := by rfl) (hpl : (backTo pos (starEach es X.env)).any (·.1) = false := by rfl)
    (ht : eval (.Call (.Attribute o m apos) (e :: es) [] pos) X.env = (do
      let ov ← eval o X.env
      standAt apos.atName
      let (f, first) ← holding [ov] (getMethod ov m pl)
      callWith pos f first (backTo pos (starEach (e :: es) X.env)) (backToKw pos (keywordEach [] X.env))) := by rfl) :
    PE X (.Call (.Attribute o m apos) (e :: es) [] pos) (tMethX C m sp E ta t) := by
  obtain ⟨f, fd, hm, F, hb⟩ := M.ex
  refine ⟨fun pins s σ H Q I h => ?_⟩
  refine PySem.W.methodCall_KW (pl := pl) (thn (he.run pins s σ H _ I h) fun u s1 ⟨y, H1, I1, rx, a, dx, fs, ex, ea, l, q⟩ => ?_) ht
  subst ex
  obtain rfl : u = Value.ref a := rx
  refine getmeth_ok I1 ea c hm l ?_
  refine PySem.W.callWith_K (first := [.ref a]) (h₀ := X.base) I.ok.mod.kin hm.kp (thn (ha.run pos pins s1 σ H1 _ I1 q) fun us s2 ⟨vs, H2, I2, r, q2⟩ => ⟨I2.kIn, ?_⟩) hst hpl
  exact run_fnS (us := .ref a :: us) (vs := .ref a :: vs) F hr hb (hx σ) I2 (.cons rfl r) q2
/-- X(), X an own exception class without own __init__ -/
theorem pmk_own0 {C : Addr} {bmB : List Value} {B newId initId : String} {x : Str} {p : Pos} (F : ExcBaseFacts B newId initId bmB) (q : PySem.W.excIn X.K C bmB newId = true) (gC : X.mg x = some (.ref C))
    (kC : PySem.W.keepIn X.K (.ref C) = true) (r : Raises X (.ref C)) (hg : Gl X x) (hdb : (x == ("__debug__" : Str)) = false := by decide) :
    PMk X (.Call (.Name x p) [] [] pos) (fun _ H Q => Q (.ref C) none H) := by
  intro pins s σ H Q I h
  refine wpAny_Call_Name_kw (ld_glob I hg gC ?_ hdb)
  refine PySem.W.callWith_K0 I.kIn kC ?_
  show wpAny _ _ (call (.ref C) []) _ _ _
  obtain ⟨bm, N, nm, qn, bs, hdct, sn, sub, ab, col, dd, k0, k1, k2, k3, k5, mN, hC, hN, hni, T⟩ := exc_obj I.kIn q
  refine wpAny_call_exc_subT F T hC hN hni (fun h' e hm => ?_) (Nat.zero_le _)
  exact mk_of I hm r h (I.hok.gone hm.new)
end
/-- facts of an own error class without own __init__, over ValueError -/
def excB (K : PySem.W.Frag) (c : Str) : Bool := PySem.W.excIn K (He.ga K c) He.veBase "ValueError.__new__" && (PySem.W.keepIn K (.ref (He.ga K c)) && (decide (PySem.W.subIn K (.ref (He.ga K c)) (.type "BaseException") = some true) &&
  (decide (PySem.W.typeIn K (.ref (He.ga K c)) = some (.type "type")) && (decide (PySem.W.exmOne K (.ref (He.ga K c)) (.ref (He.ga K c)) = some true) &&
  (decide (PySem.W.findIn K (.ref (He.ga K c)) "__getattribute__" = some (some (.builtin "BaseException.__getattribute__"))) && (decide (PySem.W.findIn K (.ref (He.ga K c)) "__getattr__" = some none) && (PySem.W.hasDictIn K (He.ga K c) &&
  (decide (PySem.W.findIn K (.ref (He.ga K c)) "__class__" = some (some (.builtin "object.__class__"))) && (decide (PySem.W.specialIn K (.builtin "object.__class__") "__get__" = some (some (.builtin "getset_descriptor.__get__"))) &&
  (decide (PySem.W.takesIn K (.builtin "object.__class__") = some true) && decide (PySem.W.mroIn K (He.ga K c) (.type "object") = some true)))))))))))
structure ExcK (K : PySem.W.Frag) (C : Addr) : Prop where
  xe : PySem.W.excIn K C He.veBase "ValueError.__new__" = true
  kp : PySem.W.keepIn K (.ref C) = true
  sb : PySem.W.subIn K (.ref C) (.type "BaseException") = some true
  ty : PySem.W.typeIn K (.ref C) = some (.type "type")
  me : PySem.W.exmOne K (.ref C) (.ref C) = some true
  cc : ExcC K C
theorem excB_ok {K : PySem.W.Frag} {c : Str} (h : excB K c = true) : ExcK K (He.ga K c) := by
  obtain ⟨h1, h⟩ := He.ba h
  obtain ⟨h2, h⟩ := He.ba h
  obtain ⟨h3, h⟩ := He.ba h
  obtain ⟨h4, h⟩ := He.ba h
  obtain ⟨h5, h⟩ := He.ba h
  obtain ⟨h6, h⟩ := He.ba h
  obtain ⟨h7, h⟩ := He.ba h
  obtain ⟨h8, h⟩ := He.ba h
  obtain ⟨h9, h⟩ := He.ba h
  obtain ⟨h10, h⟩ := He.ba h
  obtain ⟨h11, h12⟩ := He.ba h
  exact ⟨h1, h2, of_decide_eq_true h3, of_decide_eq_true h4, of_decide_eq_true h5, ⟨of_decide_eq_true h6, of_decide_eq_true h7, of_decide_eq_true h3, h8, of_decide_eq_true h9, of_decide_eq_true h10, of_decide_eq_true h11, of_decide_eq_true h12⟩⟩
end Q

set_option Elab.async false
set_option linter.all false
set_option maxRecDepth 100000
set_option maxHeartbeats 4000000
/-! small readings -/
namespace Q
open PySem PySem.Spec PyProof.Rows L2
theorem sm_putn {H H' : Hp} {p : Addr} {o : HO} (s : Same H H') (hp : H p = none) : Same H (L2.upd H' p o) := fun b u e => by
  rw [upd_ne (ne_of_none e hp)]
  exact s b u e
theorem log_pow {r k : Nat} (h : r < 2 ^ k) (h0 : 0 < k) (hk : k ≤ 1920) : (r : Int).natAbs.log2 < 1920 := Nat.lt_of_lt_of_le (PySem.Flt.log2_lt_of h0 h) hk
theorem log_small {r : Nat} (h : r < 10 ^ 9) : (r : Int).natAbs.log2 < 1920 := log_pow (k := 30) (Nat.lt_trans h (by decide)) (by decide) (by decide)
section
variable {σ : L2.St} {H : Hp} {Q : VK} {K : PySem.W.Frag}
def qAbs : List V → Hp → VK → Prop := fun xs H Q => ∃ i : Int, xs = [.int i] ∧ Q (.int ((i.natAbs : Nat) : Int)) H
theorem c_absN {X : Cx} : CallR X (.builtin "abs") qAbs := fun pins s σ H xs us Q I r ⟨i, e, q⟩ => call_abs pins s σ H xs us Q I r ⟨i, e, by
  rw [show (if i < 0 then -i else i) = ((i.natAbs : Nat) : Int) by split <;> omega]
  exact q⟩
theorem g_absN {i : Int} (q : Q (.int ((i.natAbs : Nat) : Int)) H) : qAbs [.int i] H Q := ⟨i, rfl, q⟩
instance st_g_absN {i : Int} : Step (qAbs [.int i] H Q) (Q (.int ((i.natAbs : Nat) : Int)) H) := ⟨fun z => g_absN z⟩
def RevR (K : PySem.W.Frag) (Q : VK) (x : V) (H1 : Hp) : Prop := ∃ a xs, x = .ref a ∧ SqL K H1 a xs ∧ ∀ p, H1 p = none → Q (.ref p) (upd H1 p (.lst xs.reverse))
theorem g_rev {te : TE} (h : te σ H (RevR K Q)) : tRevL K te σ H Q := h
instance st_g_rev {te : TE} : Step (tRevL K te σ H Q) (te σ H (RevR K Q)) := ⟨fun z => g_rev z⟩
theorem g_revR {a : Addr} {xs : List V} (h : SqL K H a xs) (q : ∀ p, H p = none → Q (.ref p) (upd H p (.lst xs.reverse))) : RevR K Q (.ref a) H := ⟨a, xs, rfl, h, q⟩
end
end Q
namespace Q
open PySem PySem.Spec PyProof.Rows L2
section
variable {H : Hp} {Q : VK} {K : PySem.W.Frag}
theorem g_isiO {a dx C D : Addr} {fs : List (Str × V)} {b : Bool} (h : H a = some (.ins C dx fs)) (i : InsK K C) (c : Cls K C) (e : PySem.W.kitOne K (.ref C) (.ref D) = some b) (q : Q (.bl b) H) : rIsi K [.ref a, .ref D] H Q := g_isiC (i.ty c h) e q
theorem g_isiB {x : V} {t : String} {D : Addr} {b : Bool} (ty : TyX K H x (.type t)) (e : PySem.W.kitOne K (.type t) (.ref D) = some b) (q : Q (.bl b) H) : rIsi K [x, .ref D] H Q := g_isiC ty e q
end
theorem mul_c {i j : Int} {k : Nat} (hi : i.natAbs < 2 ^ k) (hj : j.natAbs < 2 ^ k) (h0 : 0 < k) (h : k ≤ 500000) : CMulW i j := wide_mul hi hj h0 h0 (by omega)
theorem mul_lt {i j : Int} {a b : Nat} (ha : i.natAbs < 2 ^ a) (hb : j.natAbs < 2 ^ b) : (i * j).natAbs < 2 ^ (a + b) := wide_lt ha hb
theorem add_lt {i j : Int} {a : Nat} (ha : i.natAbs < 2 ^ a) (hb : j.natAbs < 2 ^ a) : (i + j).natAbs < 2 ^ (a + 1) := by
  rw [Nat.pow_succ]
  omega
theorem sub_lt' {i j : Int} {a : Nat} (ha : i.natAbs < 2 ^ a) (hb : j.natAbs < 2 ^ a) : (i - j).natAbs < 2 ^ (a + 1) := by
  rw [Nat.pow_succ]
  omega
theorem lt_pow {x a b : Nat} (h : x < 2 ^ a) (hab : a ≤ b) : x < 2 ^ b := Nat.lt_of_lt_of_le h (Nat.pow_le_pow_right (by decide) hab)
end Q
-- step instances

set_option Elab.async false
set_option linter.all false
set_option maxRecDepth 100000
set_option maxHeartbeats 4000000
/-! != of own objects that have an own == -/
namespace PySem.W
open PySem PySem.Calls PyProof.Rows Builtin
theorem ne_bind (self : Value) : bindSpecial (.builtin "object.__ne__") self = pure (.builtin "object.__ne__", [self]) :=
  (Slot.of (T := "object") (name := "__ne__") (owner := "object") (n := "__ne__") (by rw [typeLookup_type, builtinLookup_eq_fast]; kernel_rfl) (by decide +kernel) (by decide +kernel) (by decide +kernel)
    (.inl (by decide +kernel)) (by rw [isSubtype_type]; kernel_rfl)).bind self
section
variable {prog : Program} {w : World} {A : Around} {E : Value → Shared → Prop} {s : Shared} {K : Frag} {x C L f : Addr} {h₀ : Heap} {m : Str → Option Value} {ox : Obj} {od : Option Obj} {b tb : Value}
theorem ifBound_ne {M : Model} {args : List Value} {Q : Option Value → Shared → Prop} (X : K.In s.heap) (I : InstAt s.heap x ox C od) (hs : findIn K (.ref C) "__ne__" = some (some (.builtin "object.__ne__")))
    (h : wpAny M A (call (.builtin "object.__ne__") (.ref x :: args)) (fun v => Q (some v)) E s) : wpAny M A (callSpecialIfBound? (.ref x) "__ne__" args) Q E s := by
  simp only [callSpecialIfBound?, bindSpecialIfBound?]
  refine wpAny_holding (wpAny_bind (wpAny_bind (wpAny_bind (I.type.here ((looks_findIn X hs).here ?_)))))
  refine wpAny_bind (wpAny_askSetting (wpAny_ite ?_))
  have fin : wpAny M A (call (.builtin "object.__ne__") ([.ref x] ++ args) >>= fun v => pure (some v)) Q E s := wpAny_bind (wpAny_mono h (fun v s' h' => wpAny_pure h') fun _ _ h' => h')
  split
  · exact wpAny_bind ((Looks.of_pure (ne_bind _)).here (wpAny_pure (by exact fin)))
  · exact wpAny_tryCatch (wpAny_bind ((Looks.of_pure (ne_bind _)).here (wpAny_pure (by exact fin))))
theorem entry_ne (X : K.In s.heap) (I : InstAt s.heap x ox C od) (hu : A.units < cLine) (hs : findIn K (.ref C) "__eq__" = some (some (.ref f))) (hf : isFn K (.ref f) = true) {Q : Fin → Shared → Prop}
    (hcall : wpAny (model prog w) A (call (.ref f) [.ref x, b]) (fun v s' => ∃ r, v = .bool r ∧ Q (.done (.ret (.bool (!r)))) s') E s) :
    wpAny (model prog w) A (Builtin.«object.__ne__» ⟨[.ref x, b], []⟩) Q E s := by
  unfold Builtin.«object.__ne__»
  refine wpAny_bind (wpAny_of_eq (a := ((Value.ref x : Value), [b])) (by first | rfl | (simp only [slotArgs]; rfl)) ?_)
  refine wpAny_bind (wpAny_cRoomFor hu ?_)
  refine wpAny_bind (m := callSpecialIfBound? (.ref x) (Str.ofString "__eq__") [b]) (ifBound_K X I hs hf (wpAny_mono hcall (fun r s' hr => ?_) fun _ _ e => e))
  obtain ⟨r, rfl, hq⟩ := hr
  show wpAny _ _ (do
    let b ← truthy (Value.bool r)
    ret (Value.bool !b)) _ _ _
  exact wpAny_bind (wpAny_truthy_bool (wpAny_pure hq))
theorem ne_K {Q : Value → Shared → Prop} (hu : A.units + 1 < cLine) (F : Fr h₀ L s.heap m) (X₀ : K.In h₀) (I : InstAt s.heap x ox C od) (hb : Looks (model prog w) s.heap (typeOf b) tb) (hn : notFirst K C tb = true)
    (hne : findIn K (.ref C) "__ne__" = some (some (.builtin "object.__ne__"))) (hob : subIn K (.ref C) (.type "object") = some true) (hs : findIn K (.ref C) "__eq__" = some (some (.ref f))) (hf : isFn K (.ref f) = true)
    (h : wpAny (model prog w) A.in1 (call (.ref f) [.ref x, b]) (fun v s' => ∃ r, v = .bool r ∧ Q (.bool (!r)) s') E s) : wpAny (model prog w) A (richCompare .NotEq (.ref x) b) Q E s := by
  have X := X₀.keeps F.keep
  have sub : Looks (model prog w) s.heap (isInstance (.ref x) (.type "object")) true := I.type.andThen (looks_subIn X hob)
  have one : wpAny (model prog w) A (tryCompare (.ref x) "__ne__" b) (fun r s' => ∃ v, r = some v ∧ Q v s') E s := by
    unfold tryCompare
    refine wpAny_bind (ifBound_ne X I hne (wpAny_call (codeAny_call_builtin (by decide +kernel) PySem.F.cmpEntry_ne (check_slot PySem.F.cmpKind_ne PySem.F.cmpSplit_ne sub (PySem.F.cmpArgs_ne _ _) ?_))))
    refine entry_ne (A := A.in1) X I hu hs hf (wpAny_mono h (fun v s' hv => ?_) fun _ _ e => e)
    obtain ⟨r, rfl, hq⟩ := hv
    exact ⟨r, rfl, wpAny_pure ⟨_, rfl, hq⟩⟩
  unfold richCompare
  simp only [oneThing_ref]
  refine wpAny_holding (wpAny_bind (wpAny_cRoomFor (Nat.lt_of_succ_lt hu) ?_))
  rw [cmpInfo_NotEq]
  dsimp only
  refine wpAny_bind (I.type.here (wpAny_bind (hb.here ?_)))
  split
  · rename_i q
    have e : subIn K tb (.ref C) = some false := by
      rcases Bool.or_eq_true_iff.mp hn with e | e
      · rw [beq_iff_eq.mp e] at q; simp at q
      · exact beq_iff_eq.mp e
    refine wpAny_bind ((looks_subIn X e).here ?_)
    simp only [Bool.false_eq_true, if_false]
    refine wpAny_bind (wpAny_mono one (fun r s' z => ?_) fun _ _ e => e)
    obtain ⟨v, rfl, hq⟩ := z
    exact wpAny_pure hq
  · refine wpAny_bind (wpAny_pure ?_)
    simp only [Bool.false_eq_true, if_false]
    refine wpAny_bind (wpAny_mono one (fun r s' z => ?_) fun _ _ e => e)
    obtain ⟨v, rfl, hq⟩ := z
    exact wpAny_pure hq
end
end PySem.W
namespace Q
open PySem PySem.Spec PyProof.Rows L2
section
variable {X : Cx} {C : Addr} {k : Nat} {ps : List Str} {sp : Sp}
def rOwnNe (K : PySem.W.Frag) (C : Addr) (sp : Sp) : R2 := fun x y H Q => ∃ a dx fs t, x = .ref a ∧ H a = some (.ins C dx fs) ∧ TyX K H y t ∧ PySem.W.notFirst K C t = true ∧ sp [.ref a, y] H (fun v H' => ∃ b : Bool, v = .bl b ∧ Q (.bl (!b)) H') E0
structure NeK (K : PySem.W.Frag) (C : Addr) : Prop where
  ne : PySem.W.findIn K (.ref C) "__ne__" = some (some (.builtin "object.__ne__"))
  ob : PySem.W.subIn K (.ref C) (.type "object") = some true
def neB (K : PySem.W.Frag) (c : Str) : Bool := decide (PySem.W.findIn K (.ref (He.ga K c)) "__ne__" = some (some (.builtin "object.__ne__"))) && decide (PySem.W.subIn K (.ref (He.ga K c)) (.type "object") = some true)
theorem neB_ok {K : PySem.W.Frag} {c : Str} (h : neB K c = true) : NeK K (He.ga K c) := by
  obtain ⟨h1, h2⟩ := He.ba h
  exact ⟨of_decide_eq_true h1, of_decide_eq_true h2⟩
theorem op_ownNe (n : NeK X.K C) (M : MCal X.prog X.w X.K X.mg X.base C "__eq__" k ps sp) (hr : Room (k + 1) X.A) : OpR X (compareOp .NotEq) (rOwnNe X.K C sp) := by
  intro pins s σ H x y v u Q I rx ry h
  obtain ⟨a, dx, fs, t, rfl, ha, ty, nf, hs⟩ := h
  cases rx
  obtain ⟨_, J, _⟩ := ins_get I.hok ha
  obtain ⟨od, J, _⟩ := J.look
  obtain ⟨mm, hF⟩ := I.fr
  obtain ⟨P, Z, p, hx⟩ := kit_of I ry ty
  obtain ⟨f, fd, hm, F, hb⟩ := M.ex
  refine PySem.W.ne_K (tb := t) hr.in1.units0 hF I.ok.mod.kin J (Z.ty _ _ I.kIn p) nf n.ne n.ob hm.at_ hm.fn ?_
  have e0 : Env0 X.prog X.w X.K X.mg X.base X.A.in1 X.stack s H := by
    have e := I.env0
    exact ⟨e.frames, e.mod, e.bs, e.bsz, e.funs, e.frf, e.hok, e.bare⟩
  have hl := F.len _ _ _ _ hs
  have bt := hb s [.ref a, u] I.kIn (by simpa using hl)
  rw [List.append_nil] at bt
  refine wpAny_call (codeAny_mono (F.run X.A.in1 X.stack s H ⟨[.ref a, u], []⟩ [.ref a, u] [.ref a, y] _ E0 hr.in1 e0 bt (.cons rfl (.cons ry .nil)) hs) fun res t hres => ?_)
  cases res with
  | error e => exact pass0 pins σ H s e t I hres
  | ok fl =>
    cases fl with
    | ret u =>
      obtain ⟨z, H', I', rz, b, ez, q⟩ := I.after hres
      subst ez
      cases rz
      exact ⟨b, rfl, .bl (!b), H', I', rfl, q⟩
    | next => exact False.elim hres
    | brk => exact False.elim hres
    | cont => exact False.elim hres
theorem k_ownNe {X : Cx} {K : PySem.W.Frag} {C : Addr} {k : Nat} {ps : List Str} {sp : Sp} (ek : X.K = K) (n : NeK K C) (M : MCal X.prog X.w X.K X.mg X.base C "__eq__" k ps sp) (hr : Room (k + 1) X.A) : OpR X (compareOp .NotEq) (rOwnNe K C sp) := by subst ek; exact op_ownNe n M hr
theorem g_ownNe {K : PySem.W.Frag} {H : Hp} {Q : VK} {a dx : Addr} {fs : List (Str × V)} {y : V} {t : Value} (h1 : H a = some (.ins C dx fs)) (ty : TyX K H y t) (nf : PySem.W.notFirst K C t = true) (q : sp [.ref a, y] H (fun v H' => ∃ b : Bool, v = .bl b ∧ Q (.bl (!b)) H') E0) : rOwnNe K C sp (.ref a) y H Q := ⟨a, dx, fs, t, rfl, h1, ty, nf, q⟩
end
end Q

set_option Elab.async false
set_option linter.all false
set_option maxRecDepth 100000
set_option maxHeartbeats 4000000
/-! own error classes over ValueError with an __init__ that keeps one argument -/
namespace Q
open PySem PySem.Spec PyProof.Rows L2
def oexS (C : Addr) : Option Obj → Bool
  | some { cls := .type "type", dict := _, data := .cls cd, slots := sl } => match cd.mro, sl.toList with
    | .ref C' :: bm, [_, _, _, _, some (.builtin n), _] => C' == C && n == "ValueError.__new__" && !cd.hasDel && cd.hasDict && HandSPX.refsVE bm
    | _, _ => false
  | _ => false
theorem oexS_ok {C : Addr} {o : Option Obj} (h : oexS C o = true) : ∃ nm q N bs bm sn sub ab col dd k0 k1 k2 k3 k5, o = some (excClassObj nm q C N bs bm true sn sub ab col dd k0 k1 k2 k3 k5 "ValueError.__new__") ∧ HandSPX.refsVE bm = true := by
  unfold oexS at h
  split at h
  · rename_i dict cd sl
    split at h
    · rename_i C' bm k0 k1 k2 k3 n k5 e1 e2
      simp only [Bool.and_eq_true, Bool.not_eq_true', beq_iff_eq] at h
      obtain ⟨⟨⟨⟨rfl, rfl⟩, h3⟩, h4⟩, h5⟩ := h
      obtain ⟨nm, bs, mro, N, q, hd, sn, sub, ab, col, del⟩ := cd
      obtain ⟨sl⟩ := sl
      dsimp only at e1 e2 h3 h4
      subst e1 e2 h3 h4
      exact ⟨nm, q, N, bs, bm, sn, sub, ab, col, dict, k0, k1, k2, k3, k5, rfl, h5⟩
    · exact absurd h Bool.false_ne_true
  · exact absurd h Bool.false_ne_true
/-- what is known of an own error class, of its __init__ at fI, its attribute f -/
structure OxK (K : PySem.W.Frag) (C fI : Addr) (f : Str) : Prop where
  ox : OexC K C
  xf : XfC K C
  ic : PySem.W.findIn K (.ref C) "__init__" = some (some (.ref fI))
  tc : PySem.W.typeIn K (.ref fI) = some (.type "function")
  no : PySem.W.findIn K (.ref C) f = some none
  ins : ExcC K C
def oxB (K : PySem.W.Frag) (C fI : Addr) (f : Str) : Bool :=
  oexS C (K.lookup C) && (decide (PySem.W.findIn K (.ref C) "__setattr__" = some (some (.builtin "object.__setattr__"))) && (decide (PySem.W.subIn K (.ref C) (.type "BaseException") = some true) && (decide (PySem.W.typeIn K (.ref C) = some (.type "type")) &&
  (PySem.W.keepIn K (.ref C) && (decide (PySem.W.findIn K (.ref C) "__getattribute__" = some (some (.builtin "BaseException.__getattribute__"))) && (decide (PySem.W.findIn K (.ref C) "__getattr__" = some none) && (PySem.W.hasDictIn K C &&
  (decide (PySem.W.findIn K (.ref C) "__init__" = some (some (.ref fI))) && (decide (PySem.W.typeIn K (.ref fI) = some (.type "function")) && (decide (PySem.W.findIn K (.ref C) f = some none) &&
  (decide (PySem.W.findIn K (.ref C) "__class__" = some (some (.builtin "object.__class__"))) && (decide (PySem.W.specialIn K (.builtin "object.__class__") "__get__" = some (some (.builtin "getset_descriptor.__get__"))) &&
  (decide (PySem.W.takesIn K (.builtin "object.__class__") = some true) && decide (PySem.W.mroIn K C (.type "object") = some true))))))))))))))
theorem oxB_ok {K : PySem.W.Frag} {C fI : Addr} {f : Str} (h : oxB K C fI f = true) : OxK K C fI f := by
  obtain ⟨h1, h⟩ := He.ba h
  obtain ⟨h2, h⟩ := He.ba h
  obtain ⟨h3, h⟩ := He.ba h
  obtain ⟨h4, h⟩ := He.ba h
  obtain ⟨h5, h⟩ := He.ba h
  obtain ⟨h6, h⟩ := He.ba h
  obtain ⟨h7, h⟩ := He.ba h
  obtain ⟨h8, h⟩ := He.ba h
  obtain ⟨h9, h⟩ := He.ba h
  obtain ⟨h10, h⟩ := He.ba h
  obtain ⟨h11, h⟩ := He.ba h
  obtain ⟨h12, h⟩ := He.ba h
  obtain ⟨h13, h⟩ := He.ba h
  obtain ⟨h14, h15⟩ := He.ba h
  exact ⟨⟨oexS_ok h1, of_decide_eq_true h2, of_decide_eq_true h3, of_decide_eq_true h4, h5⟩, ⟨of_decide_eq_true h6, of_decide_eq_true h7, of_decide_eq_true h3, h8⟩, of_decide_eq_true h9, of_decide_eq_true h10, of_decide_eq_true h11,
    ⟨of_decide_eq_true h6, of_decide_eq_true h7, of_decide_eq_true h3, h8, of_decide_eq_true h12, of_decide_eq_true h13, of_decide_eq_true h14, of_decide_eq_true h15⟩⟩
/-- the promise of such an __init__ -/
def spExI (C : Addr) (f : Str) : Sp := fun vs H Q _ => ∃ (a : Addr) (y : V), vs = [.ref a, y] ∧ H a = some (exo a C none) ∧ ∀ dx, H dx = none → dx ≠ a → Q .non (upd (upd H dx (exd dx [(f, y)])) a (exo a C (some dx)))
/-- what the raising of such an error asks -/
theorem g_mkO {C : Addr} {f : Str} {ta : TA} {σ : L2.St} {H : Hp} {Q : XK} (h : ta σ H fun vs H1 => ∃ y, vs = [y] ∧ ∀ d, H1 d = none → Q (.ref C) (some d) (upd H1 d (.xd [(f, y)]))) (mono : ∀ {A B : List V → Hp → Prop}, (∀ vs H1, A vs H1 → B vs H1) → ta σ H A → ta σ H B) : tMkO C (spExI C f) [] ta σ H Q := by
  refine mono (fun vs H1 z => ?_) h
  obtain ⟨y, rfl, k⟩ := z
  refine ⟨by show 1 ≤ 1000; decide, fun a ha => ⟨a, y, rfl, upd_same, fun dx hd n => ⟨rfl, dx, [(f, y)], upd_same, ?_, ?_, ?_⟩⟩⟩
  · rw [upd_ne n, upd_same]
  · rwa [upd_ne n] at hd
  · rw [upd_ne n] at hd
    have e : upd (del (upd (upd (upd H1 a (exo a C none)) dx (exd dx [(f, y)])) a (exo a C (some dx))) a) dx (.xd [(f, y)]) = upd H1 dx (.xd [(f, y)]) := by
      funext b
      by_cases h1 : b = dx
      · rw [h1, upd_same, upd_same]
      · rw [upd_ne h1, upd_ne h1]
        by_cases h2 : b = a
        · rw [h2, ha]; simp [del]
        · show (if b = a then none else _) = _
          rw [if_neg h2, upd_ne h2, upd_ne h1, upd_ne h2]
    rw [e]
    exact k dx hd
/-- what a def needs that raises such an error -/
structure ExcM (P : Program) (w : World) (K : PySem.W.Frag) (mg : Str → Option Value) (base : Heap) (C : Addr) (f : Str) (k : Nat) : Prop where
  ex : ∃ (fI : Addr) (fd : FuncData) (ps : List Str), OxK K C fI f ∧ FnOk P w K mg base CX0 k fI fd ps (spExI C f) ∧ Binds K fd ps []
theorem excm_mk {P : Program} {w : World} {K : PySem.W.Frag} {mg : Str → Option Value} {base : Heap} {C fI : Addr} {f : Str} {x q : Str} {pa : Arguments} {bd : List Stmt} {sc : Scope} {dv : List V} {kw : List (Str × V)} {k : Nat} {ps : List Str}
    (ox : OxK K C fI f) (h : ∃ (fd : FuncData), FunD K x q pa bd sc dv kw fI fd) (ok : ∀ {f' : Addr} {fd : FuncData}, FunD K x q pa bd sc dv kw f' fd → FnOk P w K mg base CX0 k f' fd ps (spExI C f))
    (b : ∀ {f' : Addr} {fd : FuncData}, FunD K x q pa bd sc dv kw f' fd → Binds K fd ps []) : ExcM P w K mg base C f k := by
  obtain ⟨fd, F⟩ := h
  exact ⟨fI, fd, ps, ox, ok F, b F⟩
theorem pmk_ox {X : Cx} {C : Addr} {f x : Str} {k : Nat} {e : Expr} {es : List Expr} {ta : TA} {p pos : Pos} (M : ExcM X.prog X.w X.K X.mg X.base C f k) (hr : Room (k + 1) X.A) (hg : Gl X x) (hm : X.mg x = some (.ref C)) (ha : PA X (e :: es) ta)
    (hdb : (x == ("__debug__" : Str)) = false := by decide) (hst : starEach (e :: es) X.env = (false, eval e X.env) :: starEach es X.env := by rfl) (hpl : ((backTo pos (starEach es X.env)).any fun x => x.fst) = false := by rfl) :
    PMk X (.Call (.Name x p) (e :: es) [] pos) (tMkO C (spExI C f) [] ta) := by
  obtain ⟨fI, fd, ps, ox, F, hb⟩ := M.ex
  exact pmk_oex ox.ox ox.ic ox.tc F hr hb .nil pass0 hg hm ha hdb hst hpl
end Q

set_option Elab.async false
set_option linter.all false
set_option maxRecDepth 100000
set_option maxHeartbeats 4000000
/-! objects made where the __init__ may raise -/
namespace Q
open PySem PySem.Spec PyProof.Rows L2
theorem run_makeKS {X : Cx} {CX : CXT} {k n : Nat} {f C : Addr} {fd : FuncData} {ps ks : List Str} {sp : Sp} {E : XK} {g : List Value → List Value → List Value} {gV : List V → List V → List V} {pins : List (Addr × Obj)} {σ : L2.St} {H : Hp} {s : Shared} {Q : VK} {us ws : List Value} {vs zs : List V}
    (M : Mk X.K C f) (F : FnOk X.prog X.w X.K X.mg X.base CX k f fd ps sp) (hr : Room (k + 1) X.A) (hb : KBn X.K fd ps (n + 1) ks g gV) (hx : PassesAt CX X σ E) (I : L2.Inv X pins σ H s) (r : Vals vs us) (rz : Vals zs ws) (l1 : vs.length = n) (l2 : zs.length = ks.length)
    (h : ∀ (x dx : Addr), H x = none → H dx = none → dx ≠ x → sp (gV (V.ref x :: vs) zs) (upd (upd H dx (HO.own x)) x (HO.ins C dx [])) (fun v H2 => v = V.non ∧ Q (V.ref x) H2) E) :
    wpAny (model X.prog X.w) X.A (call (Value.ref C) us (ks.zip ws)) (EP X pins σ Q) X.xe s := by
  have hq := h (s.heap.objs.size + 1) s.heap.objs.size (HOk.fresh I.hok (Nat.le_succ s.heap.objs.size)) (HOk.fresh I.hok (Nat.le_refl s.heap.objs.size)) (Nat.ne_of_lt (Nat.lt_succ_self s.heap.objs.size))
  have I2 := Inv.made (C := C) I
  have r1 : Vals (V.ref (s.heap.objs.size + 1) :: vs) (Value.ref (s.heap.objs.size + 1) :: us) := .cons rfl r
  have r2 := hb.rel r1 rz
  have n1 : (Value.ref (s.heap.objs.size + 1) :: us).length = n + 1 := by rw [List.length_cons, ← r.length, l1]
  refine wpAny_call (make_map (Inv.kIn I) M.makes M.init (beq_iff_eq.mp M.fn) (codeAny_mono (F.run (X.A.under (Code.builtin "type.__call__" { pos := Value.ref C :: us, kw := ks.zip ws })) X.stack _ _ { pos := Value.ref (s.heap.objs.size + 1) :: us, kw := ks.zip ws } (g (Value.ref (s.heap.objs.size + 1) :: us) ws) (gV (V.ref (s.heap.objs.size + 1) :: vs) zs)
    (fun v H2 => v = V.non ∧ Q (V.ref (s.heap.objs.size + 1)) H2) E (Room.make hr C us (ks.zip ws)) (Env0.make (Inv.env0 I2) C us (ks.zip ws)) (hb.to _ (Value.ref (s.heap.objs.size + 1) :: us) ws (Inv.kIn I2) n1 ((rz.length).symm.trans l2)) r2 hq) fun res s' hq' => ?_))
  cases res with
  | error e => exact hx pins _ _ e s' I2 hq'
  | ok fl =>
    cases fl with
    | ret u =>
      obtain ⟨v, H', I3, rv, ev, q3⟩ := Inv.after I2 hq'
      subst ev
      exact ⟨rv, V.ref (s.heap.objs.size + 1), H', I3, rfl, q3⟩
    | next => exact False.elim hq'
    | brk => exact False.elim hq'
    | cont => exact False.elim hq'
def tMakeKS (C : Addr) (n m : Nat) (sp : Sp) (gV : List V → List V → List V) (E : L2.St → XK) (t tk : TA) : TE := fun σ H Q => t σ H fun vs H1 => tk σ H1 fun zs H2 => vs.length = n ∧ zs.length = m ∧
  ∀ (x dx : Addr), H2 x = none → H2 dx = none → dx ≠ x → sp (gV (V.ref x :: vs) zs) (upd (upd H2 dx (HO.own x)) x (HO.ins C dx [])) (fun v H3 => v = V.non ∧ Q (V.ref x) H3) (E σ)
/-- what a caller needs of a class whose __init__ may raise -/
structure MkKX (CX : CXT) (P : Program) (w : World) (K : PySem.W.Frag) (mg : Str → Option Value) (base : Heap) (C : Addr) (k n : Nat) (ks : List Str) (gV : List V → List V → List V) (sp : Sp) : Prop where
  ex : ∃ (f : Addr) (fd : FuncData) (ps : List Str) (g : List Value → List Value → List Value), Mk K C f ∧ FnOk P w K mg base CX k f fd ps sp ∧ KBn K fd ps (n + 1) ks g gV
theorem pe_mkkX {X : Cx} {CX : CXT} {k n : Nat} {C : Addr} {ks : List Str} {sp : Sp} {E : L2.St → XK} {x : Str} {p pos : Pos} {e : Expr} {es : List Expr} {kws : List Keyword} {t tk : TA} {gV : List V → List V → List V}
    (hm : X.mg x = some (.ref C)) (M : MkKX CX X.prog X.w X.K X.mg X.base C k n ks gV sp) (hr : Room (k + 1) X.A) (hx : ∀ σ, PassesAt CX X σ (E σ)) (hg : Gl X x) (ha : PA X (e :: es) t) (hkw : PK X kws tk)
    (some_ : (backToKw pos (keywordEach kws X.env)).all (·.1.isSome) = true := by rfl) (names : (backToKw pos (keywordEach kws X.env)).filterMap (·.1) = ks := by rfl)
    (dbg : (x == ("__debug__" : Str)) = false := by decide) (st : starEach (e :: es) X.env = (false, eval e X.env) :: starEach es X.env := by rfl)
    (nost : ((backTo pos (starEach (e :: es) X.env)).any (·.1) || (backToKw pos (keywordEach kws X.env)).any (·.1.isNone)) = false := by rfl) :
    PE X (.Call (.Name x p) (e :: es) kws pos) (tMakeKS C n ks.length sp gV E t tk) := by
  obtain ⟨f, fd, ps, g, hmk, F, hb⟩ := M.ex
  refine ⟨fun pins s σ H Q I h => wpAny_Call_Name_kw (ld_glob I hg hm (PySem.W.callWith_KW I.ok.mod.kin hmk.kp some_ (thn (ha.run pos pins s σ H _ I h) fun us s1 z => ?_) nost st) dbg)⟩
  obtain ⟨vs, H1, I1, r, q⟩ := z
  refine thn (hkw.run pos pins s1 σ H1 _ I1 q) fun ws s2 z => ?_
  obtain ⟨zs, H2, I2, rz, l1, l2, q2⟩ := z
  refine ⟨Inv.kIn I2, ?_⟩
  rw [names]
  exact run_makeKS hmk F hr hb (hx σ) I2 r rz l1 l2 q2
theorem pe_mkkX0 {X : Cx} {CX : CXT} {k : Nat} {C : Addr} {ks : List Str} {sp : Sp} {E : L2.St → XK} {x : Str} {p pos : Pos} {kws : List Keyword} {tk : TA} {gV : List V → List V → List V}
    (hm : X.mg x = some (.ref C)) (M : MkKX CX X.prog X.w X.K X.mg X.base C k 0 ks gV sp) (hr : Room (k + 1) X.A) (hx : ∀ σ, PassesAt CX X σ (E σ)) (hg : Gl X x) (hkw : PK X kws tk)
    (some_ : (backToKw pos (keywordEach kws X.env)).all (·.1.isSome) = true := by rfl) (names : (backToKw pos (keywordEach kws X.env)).filterMap (·.1) = ks := by rfl)
    (dbg : (x == ("__debug__" : Str)) = false := by decide)
    (nost : ((backTo pos (starEach [] X.env)).any (·.1) || (backToKw pos (keywordEach kws X.env)).any (·.1.isNone)) = false := by rfl) :
    PE X (.Call (.Name x p) [] kws pos) (tMakeKS C 0 ks.length sp gV E tNil tk) := by
  obtain ⟨f, fd, ps, g, hmk, F, hb⟩ := M.ex
  refine ⟨fun pins s σ H Q I h => wpAny_Call_Name_kw (ld_glob I hg hm (PySem.W.callWith_KW0 (first := []) I.ok.mod.kin hmk.kp some_ (thn (hkw.run pos pins s σ H _ I h) fun ws s2 z => ?_) nost) dbg)⟩
  obtain ⟨zs, H2, I2, rz, l1, l2, q2⟩ := z
  refine ⟨Inv.kIn I2, ?_⟩
  rw [names]
  exact run_makeKS hmk F hr hb (hx σ) I2 .nil rz l1 l2 q2
theorem mkkx_mk {CX : CXT} {P : Program} {w : World} {K : PySem.W.Frag} {mg : Str → Option Value} {base : Heap} {C : Addr} {x q : Str} {pa : Arguments} {bd : List Stmt} {sc : Scope} {dv : List V} {kw : List (Str × V)} {k n : Nat} {ks ps : List Str} {gV : List V → List V → List V} {sp : Sp} {f : Addr}
    (mk : Mk K C f) (h : ∃ (fd : FuncData), FunD K x q pa bd sc dv kw f fd) (ok : ∀ {f : Addr} {fd : FuncData}, FunD K x q pa bd sc dv kw f fd → FnOk P w K mg base CX k f fd ps sp)
    (b : ∀ {f : Addr} {fd : FuncData}, FunD K x q pa bd sc dv kw f fd → ∃ g, KBn K fd ps (n + 1) ks g gV) : MkKX CX P w K mg base C k n ks gV sp := by
  obtain ⟨fd, F⟩ := h
  obtain ⟨g, hb⟩ := b F
  exact ⟨f, fd, ps, g, mk, ok F, hb⟩
end Q

set_option Elab.async false
set_option linter.all false
set_option maxRecDepth 100000
set_option maxHeartbeats 4000000
/-! calls where an exception is handled, whatever its context: "warm" calls -/
namespace Q
open PySem PySem.Spec PyProof.Rows L2
/-- a promise that holds whether or not an exception is handled -/
structure FnC (P : Program) (w : World) (K : PySem.W.Frag) (mg : Str → Option Value) (base : Heap) (CX : CXT) (k : Nat) (f : Addr) (fd : FuncData) (ps : List Str) (sp : Sp) : Prop where
  len : ∀ vs H Q E, sp vs H Q E → vs.length = ps.length
  run : ∀ (A : Around) (outer : List Env) (s : Shared) (H : Hp) (args : Args) (us : List Value) (vs : List V) (Q : VK) (E : XK), L2H.RoomH k A → Env0 P w K mg base A outer s H → BindsTo s fd args (ps.zip us) → Vals vs us → sp vs H Q E → codeAny (model P w) A (.call (.ref f) args) (CR CX outer P w H s Q E) s
abbrev cxC (CX : CXT) (P : Program) (w : World) (K : PySem.W.Frag) (mg : Str → Option Value) (base : Heap) (N : List Str) (qual : Str) (scope : Scope) (f : Addr) (cd : Value) (A : Around) (outer : List Env) (s : Shared) (H : Hp) (E : XK) : Cx := { cxOf CX P w K mg base N qual scope f cd A outer s H E with calm := false }
theorem env0_mark {P : Program} {w : World} {K : PySem.W.Frag} {mg : Str → Option Value} {base : Heap} {A : Around} {outer : List Env} {s : Shared} {H : Hp} (e : Env0 P w K mg base A outer s H) : Env0 P w K mg base { A with handled := none } outer s H := ⟨e.frames, e.mod, e.bs, e.bsz, e.funs, e.frf, e.hok, e.bare⟩
theorem FunD.okC {CX : CXT} {P : Program} {w : World} {K : PySem.W.Frag} {mg : Str → Option Value} {base : Heap} {x qual : Str} {params : Arguments} {body : List Stmt} {scope : Scope} {dvs : List V} {kws : List (Str × V)} {f : Addr} {fd : FuncData} {N ps : List Str} {k : Nat} {sp : Sp}
    (F : FunD K x qual params body scope dvs kws f fd) (S : FnScope N ps scope) (len : ∀ vs H Q E, sp vs H Q E → vs.length = ps.length)
    (walk : ∀ (cdv : Value) (A : Around) (outer : List Env) (s : Shared) (H : Hp) (vs : List V) (Q : VK) (E : XK), L2H.RoomH k (A.deeper (envOfC qual scope s.heap.objs.size f cdv)) → sp vs H Q E →
      ∃ t, PSs (cxC CX P w K mg base N qual scope f cdv A outer s H E) body t ∧ t { nx := fun _ H' => Q .non H', rt := Q } (L2.start N vs) H) : FnC P w K mg base CX (k + 1) f fd ps sp := by
  obtain ⟨oc, od, dV, kV, doc, pm, an, cdv, ct, osl, rfl, lk, hcd, _, _⟩ := F.ex
  refine ⟨len, ?_⟩
  intro A outer s H args us vs Q E room e0 bnd rel wish
  have Kin : K.In s.heap := e0.mod.kin.keeps fun b o z => (e0.bs b o z).1
  have kinds : ∀ y ∈ ps.zip us, scope.names.lookup y.1 = some .local ∨ (scope.names.lookup y.1 = some .cell ∧ ((cellsFrom (s.heap.objs.size + 1) scope.names []).lookup y.1).isSome = true) := by
    rintro ⟨n, v⟩ hy
    exact (S.par n (List.of_mem_zip hy).1).elim .inl fun q => .inr ⟨q, PySem.W.cellsFrom_some _ _ _ (.inl q)⟩
  have dp : A.depth < recursionLimit := room.depth
  refine codeAny_call_function dp (Kin _ _ lk) rfl S.co S.gen rfl (PySem.W.codeRec_of Kin hcd) (bnd _ _ _ _ (wpAny_newFunctionEnv_cells S.kind kinds fun env he s1 ic => ?_))
  subst he
  refine ⟨(e0.mod.nolimit.keeps fun b o z => (e0.bs b o z).1).keeps ic.toInCall.keep, codeAny_func ?_⟩
  obtain ⟨t, ht, hq⟩ := walk cdv A outer s H vs Q E (room.deeper _) wish
  have I0 := inv_start (CX := CX) (A := { A with handled := none }) (E := E) S rfl (env0_mark e0) (len _ _ _ _ wish) rel ic
  have I : Inv (cxC CX P w K mg base N qual scope f cdv A outer s H E) [] (L2.start N vs) H s1 :=
    ⟨⟨I0.ok.mod, I0.ok.kind, I0.ok.glob, I0.ok.blt, I0.ok.above, I0.ok.inj, I0.ok.has, I0.ok.cab, fun z => Bool.noConfusion (show false = true from z), I0.ok.frames, I0.ok.stk, I0.ok.exf, I0.ok.bs, I0.ok.bsz, I0.ok.noex, I0.ok.exfs, I0.ok.funs, I0.ok.frf⟩,
      I0.os, I0.bare, I0.base, I0.loc, I0.cell, I0.free, I0.freeC, I0.pin, I0.hok, I0.len⟩
  refine wpAny_mono (ht.run [] s1 (L2.start N vs) H _ I hq) (fun fl s' hs => ?_) fun e s' hs => hs
  cases fl with
  | ret u =>
    obtain ⟨v, σ', H', J, rv, q⟩ := hs
    exact ⟨v, H', J.os, J.bare, J.base, J.hok, rv, q⟩
  | next =>
    obtain ⟨σ', H', J, q⟩ := hs
    exact ⟨V.non, H', J.os, J.bare, J.base, J.hok, rfl, q⟩
  | brk => exact hs.choose_spec.choose_spec.2.elim
  | cont => exact hs.choose_spec.choose_spec.2.elim
/-- what a caller in a suite needs of a def without defaults -/
structure CalW (P : Program) (w : World) (K : PySem.W.Frag) (mg : Str → Option Value) (base : Heap) (x : Str) (k : Nat) (ps : List Str) (sp : Sp) : Prop where
  ex : ∃ (f : Addr) (fd : FuncData), FnC P w K mg base CX0 k f fd ps sp ∧ mg x = some (.ref f) ∧ PySem.W.keepIn K (.ref f) = true ∧ Binds K fd ps []
theorem calw_mk {P : Program} {w : World} {K : PySem.W.Frag} {mg : Str → Option Value} {base : Heap} {x q : Str} {pa : Arguments} {bd : List Stmt} {sc : Scope} {dv : List V} {kw : List (Str × V)} {k : Nat} {ps : List Str} {sp : Sp}
    (h : ∃ (f : Addr) (fd : FuncData), FunD K x q pa bd sc dv kw f fd ∧ mg x = some (.ref f))
    (ok : ∀ {f : Addr} {fd : FuncData}, FunD K x q pa bd sc dv kw f fd → FnC P w K mg base CX0 k f fd ps sp)
    (b : ∀ {f : Addr} {fd : FuncData}, FunD K x q pa bd sc dv kw f fd → Binds K fd ps []) : CalW P w K mg base x k ps sp := by
  obtain ⟨f, fd, F, m⟩ := h
  exact ⟨f, fd, ok F, m, F.kp, b F⟩
section
variable {X : Cx} {x : Str} {k : Nat} {ps : List Str} {sp : Sp} {e : Expr} {es : List Expr} {t : TA} {p pos : Pos}
theorem run_fnC {f : Addr} {fd : FuncData} {pins : List (Addr × Obj)} {σ : L2.St} {H : Hp} {s : Shared} {Q : VK} {us : List Value} {vs : List V} (F : FnC X.prog X.w X.K X.mg X.base CX0 k f fd ps sp) (room : L2H.RoomH k X.A) (hb : Binds X.K fd ps [])
    (I : Inv X pins σ H s) (r : Vals vs us) (h : sp vs H Q E0) : wpAny (model X.prog X.w) X.A (call (.ref f) us) (EP X pins σ Q) X.xe s := by
  have bd : BindsTo s fd ⟨us, []⟩ (ps.zip us) := by
    have z := hb s us I.kIn (by rw [List.append_nil, ← r.length]; exact F.len _ _ _ _ h)
    rwa [List.append_nil] at z
  refine wpAny_call (codeAny_mono (F.run X.A X.stack s H ⟨us, []⟩ us vs Q E0 room I.env0 bd r h) fun res s' hq => ?_)
  cases res with
  | error er => exact pass0 pins σ H s er s' I hq
  | ok fl =>
    cases fl with
    | ret u => exact I.after hq
    | _ => exact hq.elim
theorem pe_calW (C : CalW X.prog X.w X.K X.mg X.base x k ps sp) (room : L2H.RoomH k X.A) (hg : Gl X x) (ha : PA X (e :: es) t)
    (hd : (x == ("__debug__" : Str)) = false := by decide) (he : starEach (e :: es) X.env = (false, eval e X.env) :: starEach es X.env := by rfl) (hl : (backTo pos (starEach es X.env)).any (·.1) = false := by rfl) :
    PE X (.Call (.Name x p) (e :: es) [] pos) (tCallS sp (fun _ => E0) t) := by
  obtain ⟨f, fd, F, hm, hk, hb⟩ := C.ex
  refine ⟨fun pins s σ H Q I h => wpAny_Call_Name_kw (ld_glob I hg hm ?_ hd)⟩
  refine PySem.W.callWith_K (h₀ := X.base) I.ok.mod.kin hk (thn (ha.run pos pins s σ H _ I h) fun us s1 z => ?_) he hl
  obtain ⟨vs, H1, I1, r, q⟩ := z
  exact ⟨I1.kIn, run_fnC F room hb I1 r q⟩
end
/-- the room of a suite -/
theorem roomS {k : Nat} {A : Around} (r : Room k A) (h : Option Value) : L2H.RoomH k (A.mark h) := ⟨r.dp, r.un⟩
end Q

set_option Elab.async false
set_option linter.all false
set_option maxRecDepth 100000
set_option maxHeartbeats 4000000
/-! isinstance of a caught own error that has attributes; own errors with an __init__ raised where nothing is handled, their context told -/
namespace Q
open PySem PySem.Spec PyProof.Rows L2
theorem kitx_exd {K : PySem.W.Frag} {a D : Addr} {oe : Obj} (C : ExcC K D) : PySem.W.KitX K (.ref a) (.ref D) (fun h => ∃ od, PySem.W.InstAt h a oe D od) where
  ty := fun _ _ _ ⟨_, I⟩ => I.type
  it := fun _ _ X _ => by
    obtain ⟨cd, hc, _⟩ := PySem.W.any_some C.hd
    unfold PySem.W.clsIn at hc
    split at hc
    · rename_i ho
      exact (PySem.W.Looks.ld (part := none) (X _ _ ho)).andThen .now
    · cases hc
  ne := fun h tp dd its n sl X htp => by
    obtain ⟨cd, hc, _⟩ := PySem.W.any_some C.hd
    cases e : (Value.ref D == Value.ref tp) with
    | false => rfl
    | true =>
      obtain rfl : D = tp := Value.ref.inj (beq_iff_eq.mp e)
      unfold PySem.W.clsIn at hc
      split at hc
      · rename_i ho
        cases (X _ _ ho).symm.trans htp
      · cases hc
  ca := fun X ⟨_, I⟩ k => by
    obtain ⟨cd, hc, _⟩ := PySem.W.any_some C.hd
    exact PySem.W.kx_classE X I C.hg C.hk C.hs (PySem.W.findObj_dataE (by rw [hc]; rfl) C.ha C.hn C.ht) C.hm k
/-- isinstance(e, c), e the caught error at a, of the class D, with a dict -/
def rIsD (K : PySem.W.Frag) (D a : Addr) (cls : Value) (d : Option Addr) : List V → Hp → VK → Prop := fun xs H Q => cls = .ref D ∧ ∃ (dd : Addr) (fs : List (Str × V)) (c : V) (cv : Value) (b : Bool), d = some dd ∧ H dd = some (.xd fs) ∧ xs = [.ref a, c] ∧ (∀ u, RelV c u → u = cv) ∧ PySem.W.kitOne K (.ref D) cv = some b ∧ Q (.bl b) H
theorem call_isD {X : Cx} {a D : Addr} {oe : Obj} {cls : Value} {d : Option Addr} {pn : List (Addr × Obj)} (C : ExcC X.K D) (hz : Zc cls d oe) (hf : ∃ vs, oe.data = .fields vs) : CallR (X.suite a ((a, oe) :: pn)) (.builtin "isinstance") (rIsD X.K D a cls d) := by
  intro pins s σ H xs us Q I r h
  obtain ⟨rfl, dd, fs, c, cv, b, rfl, hdd, rfl, hcv, e, q⟩ := h
  obtain ⟨u1, u2, rfl, r1, r2⟩ := vals2 r
  obtain rfl := hcv _ r2
  obtain rfl : u1 = Value.ref a := r1
  have at_ := (I.pin (a, oe) (List.mem_append.mpr (.inl List.mem_cons_self))).1
  obtain ⟨vs, hv⟩ := hf
  obtain ⟨mA, hns, _⟩ := I.hok dd _ hdd
  obtain ⟨od, ho, _⟩ := lookIn_ns hns
  have J : ∃ od, PySem.W.InstAt s.heap a oe D od := ⟨some od, at_, hz.1, by unfold PySem.W.notCls; rw [hv], by rw [hz.2]; exact ho⟩
  exact PySem.W.kia_one (kitx_exd C) I.kIn J e (fun z => nomatch z) fun tk => ⟨.bl b, H, I.kept (t' := tk) fun _ _ z => z, rfl, q⟩
theorem k_isD {X : Cx} {K : PySem.W.Frag} {a D : Addr} {oe : Obj} {cls : Value} {d : Option Addr} {pn : List (Addr × Obj)} (ek : X.K = K) (C : ExcC K D) (hz : Zc cls d oe) (hf : ∃ vs, oe.data = .fields vs) : CallR (X.suite a ((a, oe) :: pn)) (.builtin "isinstance") (rIsD K D a cls d) := by subst ek; exact call_isD C hz hf
theorem g_isD {K : PySem.W.Frag} {D a dd : Addr} {fs : List (Str × V)} {c : V} {cv : Value} {b : Bool} {H : Hp} {Q : VK} (h : H dd = some (.xd fs)) (hc : ∀ u, RelV c u → u = cv) (e : PySem.W.kitOne K (.ref D) cv = some b) (q : Q (.bl b) H) : rIsD K D a (.ref D) (some dd) [.ref a, c] H Q := ⟨rfl, dd, fs, c, cv, b, rfl, h, rfl, hc, e, q⟩
end Q

set_option Elab.async false
set_option linter.all false
set_option maxRecDepth 100000
set_option maxHeartbeats 4000000
/-! own errors with an __init__, made anywhere, by a warm promise of the __init__ -/
namespace Q
open PySem PySem.Spec PyProof.Rows L2
theorem pmkC {X : Cx} {C fI : Addr} {x : Str} {k : Nat} {e : Expr} {es : List Expr} {ta : TA} {p pos : Pos} {fd : FuncData} {ps : List Str} {sp : Sp} (ox : OexC X.K C) (ic : PySem.W.findIn X.K (.ref C) "__init__" = some (some (.ref fI))) (tc : PySem.W.typeIn X.K (.ref fI) = some (.type "function"))
    (F1 : FnC X.prog X.w X.K X.mg X.base CX0 k fI fd ps sp) (room : L2H.RoomH (k + 1) X.A) (hb : Binds X.K fd ps []) (hg : Gl X x) (hm : X.mg x = some (.ref C)) (ha : PA X (e :: es) ta)
    (hdb : (x == ("__debug__" : Str)) = false := by decide) (hst : starEach (e :: es) X.env = (false, eval e X.env) :: starEach es X.env := by rfl) (hpl : (backTo pos (starEach es X.env)).any (·.1) = false := by rfl) :
    L2H.PMk5 X (.Call (.Name x p) (e :: es) [] pos) (tMkO C sp [] ta) := by
  intro pins s σ H Q I h
  obtain ⟨nm, qn, N, bs, bm, sn, sub, ab, col, dd, k0, k1, k2, k3, k5, hC, hbm⟩ := ox.cls
  refine wpAny_Call_Name_kw (ld_glob I hg hm (PySem.W.callWith_K (h₀ := X.base) I.ok.mod.kin ox.kC (thn (ha.run pos pins s σ H _ I h) fun us s1 z => ?_) hst hpl) hdb)
  obtain ⟨vs, H1, I1, rel, lim, wish⟩ := z
  refine ⟨I1.kIn, ?_⟩
  obtain ⟨hp, gl, dr, tk, os⟩ := s1
  -- the new object's place, and the state with it
  let at_ : Addr := hp.objs.size + 1
  have up : hp.objs.size ≤ at_ := Nat.le_succ _
  have keep : ∀ b ob, hp.get? b = some ob → ((hp.push (PySem.W.kdv_tup us)).push (PySem.HandSPX.excO C hp.objs.size)).get? b = some ob := fun b ob z => Heap.get?_push_of_some _ (Heap.get?_push_of_some _ z)
  have here : ((hp.push (PySem.W.kdv_tup us)).push (PySem.HandSPX.excO C hp.objs.size)).get? (hp.objs.size + 1) = some (PySem.HandSPX.excO C hp.objs.size) := by heap_get
  have I2 := I1.laid (t' := tk) (a := hp.objs.size + 1) (o := exo (hp.objs.size + 1) C none) keep up (exo_ok here)
  have w1 := wish (hp.objs.size + 1) (I1.hok.fresh up)
  rw [List.append_nil] at w1
  have rel2 : Vals (V.ref (hp.objs.size + 1) :: vs) (Value.ref (hp.objs.size + 1) :: us) := .cons rfl rel
  have lus : us.length ≤ sizeLine := by have := rel.length; rw [sizeLine_eq]; omega
  have bd : BindsTo ⟨(hp.push (PySem.W.kdv_tup us)).push (PySem.HandSPX.excO C hp.objs.size), gl, dr, tk, os⟩ fd ⟨Value.ref (hp.objs.size + 1) :: us, []⟩ (ps.zip (Value.ref (hp.objs.size + 1) :: us)) := by
    have z := hb ⟨(hp.push (PySem.W.kdv_tup us)).push (PySem.HandSPX.excO C hp.objs.size), gl, dr, tk, os⟩ (Value.ref (hp.objs.size + 1) :: us) I2.kIn (by
      rw [List.append_nil, ← rel2.length]
      exact F1.len _ _ _ _ w1)
    rwa [List.append_nil] at z
  show wpAny _ _ (call (.ref C) us) _ _ _
  refine wpAny_call (PySem.HandSPX.call_own F.excBase_ValueError (fun Y => PySem.HandSPX.refsVE_contains Y bm hbm) (I1.kIn _ _ hC) (PySem.W.looks_findIn I1.kIn ic) (fun self => PySem.W.bind_fn I1.kIn self tc) lus (codeAny_mono
    (F1.run _ X.stack _ _ ⟨Value.ref (hp.objs.size + 1) :: us, []⟩ _ _ _ E0 (room.make C us []) (I2.env0.make C us []) bd rel2 w1) fun res s' hq => ?_))
  cases res with
  | error er => exact pass0 pins σ _ _ er s' I2 hq
  | ok fl =>
    cases fl with
    | ret u =>
      obtain ⟨v, H2, os2, bare2, un2, hok2, rv, ev, d, fs, ea, ed, hd1, q2⟩ := hq
      subst ev
      obtain ⟨h2, g2, d2, t2, os'⟩ := s'
      obtain ⟨t0, G, J, kG, ge, hoe, na⟩ := mk_end0 (d2 := d2) (t2 := t2) I1 up keep un2 hok2 os2 bare2 ea ed hd1
      have ctx : PXN.CtxN (PySem.HandSPX.excO C hp.objs.size) ∨ True := .inr trivial
      refine ⟨rv, ⟨hp.objs.size + 1, _, _, ⟨G, g2, d2, t2, os'⟩, _, .ref C, some d, rfl, J, kG, ge, hoe, ⟨rfl, rfl, fun ws hw => ?_⟩, rfl, rfl, na, rfl, bare2, raises_own ox.exC ox.tyC, q2⟩, ?_⟩
      · cases hw
        rfl
      · intro a oe ws ea2 hg2 hd2
        cases ea2
        cases hoe.symm.trans (show h2.get? (hp.objs.size + 1) = some oe from hg2)
        cases hd2
        exact (by decide : (4 : Nat) < 6)
    | _ => exact hq.elim
/-- what a def needs that raises an own error of one attribute, anywhere -/
structure ExcW (P : Program) (w : World) (K : PySem.W.Frag) (mg : Str → Option Value) (base : Heap) (C : Addr) (f : Str) (k : Nat) : Prop where
  ex : ∃ (fI : Addr) (fd : FuncData) (ps : List Str), OxK K C fI f ∧ FnC P w K mg base CX0 k fI fd ps (spExI C f) ∧ Binds K fd ps []
theorem excw_mk {P : Program} {w : World} {K : PySem.W.Frag} {mg : Str → Option Value} {base : Heap} {C fI : Addr} {f : Str} {x q : Str} {pa : Arguments} {bd : List Stmt} {sc : Scope} {dv : List V} {kw : List (Str × V)} {k : Nat} {ps : List Str}
    (ox : OxK K C fI f) (h : ∃ (fd : FuncData), FunD K x q pa bd sc dv kw fI fd) (ok : ∀ {f' : Addr} {fd : FuncData}, FunD K x q pa bd sc dv kw f' fd → FnC P w K mg base CX0 k f' fd ps (spExI C f))
    (b : ∀ {f' : Addr} {fd : FuncData}, FunD K x q pa bd sc dv kw f' fd → Binds K fd ps []) : ExcW P w K mg base C f k := by
  obtain ⟨fd, F⟩ := h
  exact ⟨fI, fd, ps, ox, ok F, b F⟩
theorem pmk_w {X : Cx} {C : Addr} {f x : Str} {k : Nat} {e : Expr} {es : List Expr} {ta : TA} {p pos : Pos} (M : ExcW X.prog X.w X.K X.mg X.base C f k) (room : L2H.RoomH (k + 1) X.A) (hg : Gl X x) (hm : X.mg x = some (.ref C)) (ha : PA X (e :: es) ta)
    (hdb : (x == ("__debug__" : Str)) = false := by decide) (hst : starEach (e :: es) X.env = (false, eval e X.env) :: starEach es X.env := by rfl) (hpl : (backTo pos (starEach es X.env)).any (·.1) = false := by rfl) :
    L2H.PMk5 X (.Call (.Name x p) (e :: es) [] pos) (tMkO C (spExI C f) [] ta) := by
  obtain ⟨fI, fd, ps, ox, F1, hb⟩ := M.ex
  exact pmkC ox.ox ox.ic ox.tc F1 room hb hg hm ha hdb hst hpl
/-- raise X(e) where nothing is handled -/
theorem ps_raiseN {X : Cx} {W : WX} {e : Expr} {t : L2.St → Hp → XK → Prop} {pos : Pos} (hc : X.calm = true) (tk : L2N.Takes X W) (he : L2H.PMk5 X e t) : PS X (.Raise (some e) none pos) (fun _ σ H => t σ H fun cls d H' => W cls d σ H') := L2N.ps_raise hc tk he.pmk
theorem roomW {k : Nat} {A : Around} (r : Room k A) : L2H.RoomH k A := ⟨r.dp, r.un⟩
/-- what is known of the context may be forgotten -/
theorem cxn_cx {P : Program} {w : World} {outer : List Env} {H : Hp} {s : Shared} {E : XK} {u : Value} {s' : Shared} (h : L2N.CX P w outer H s E u s') : L2.CX P w outer H s E u s' := by
  obtain ⟨a, B, H', cls, d, e, fl, r⟩ := h
  exact ⟨a, B, H', cls, d, e, L2H.flyingZ_imp (fun o z => z.zc) fl, r⟩
theorem passAtN {X : Cx} {W : WX} (tk : L2.Takes X W) (σ : L2.St) : PassesAt (L2N.CX X.prog X.w) X σ (WE W σ) := fun pins H s e s' I c => passAt tk σ pins H s e s' I (cxn_cx c)
end Q

set_option Elab.async false
set_option linter.all false
set_option maxRecDepth 100000
set_option maxHeartbeats 4000000
/-! classmethods that may raise, with keywords; a class held by a local name and made; the head's facts of them -/
namespace Q
open PySem PySem.Spec PyProof.Rows L2
/-- what a caller needs of a classmethod: n values by position, the keywords ks -/
structure CMetK (CX : CXT) (P : Program) (w : World) (K : PySem.W.Frag) (mg : Str → Option Value) (base : Heap) (C : Addr) (m : Str) (k n : Nat) (ks : List Str) (gV : List V → List V → List V) (sp : Sp) : Prop where
  ex : ∃ (p g : Addr) (fd : FuncData) (ps : List Str) (gg : List Value → List Value → List Value), ClX.CRead K C (.type "type") ∧ ClX.CMet K C (.type "type") m p g ∧ FnOk P w K mg base CX k g fd ps sp ∧ KBn K fd ps (n + 1) ks gg gV
def tCMK (C : Addr) (n j : Nat) (sp : Sp) (gV : List V → List V → List V) (E : L2.St → XK) (ta : TE) (t tk : TA) : TE := fun σ H Q => ta σ H fun x H1 => x = .ref C ∧ t σ H1 fun vs H2 => tk σ H2 fun zs H3 => vs.length = n ∧ zs.length = j ∧ sp (gV (.ref C :: vs) zs) H3 Q (E σ)
section
variable {X : Cx} {CX : CXT} {k n : Nat} {C g p : Addr} {fd : FuncData} {ps ks : List Str} {sp : Sp} {E : L2.St → XK} {gg : List Value → List Value → List Value} {gV : List V → List V → List V} {o e : Expr} {es : List Expr} {kws : List Keyword} {m x : Str} {pos apos np : Pos} {ta : TE} {t tk : TA} {pl : Sem Bool}
theorem run_cmK {pins : List (Addr × Obj)} {σ : L2.St} {H : Hp} {s : Shared} {Q : VK} {q : Addr} {us ws : List Value} {vs zs : List V} (F : FnOk X.prog X.w X.K X.mg X.base CX k g fd ps sp) (hr : Room k X.A) (hb : KBn X.K fd ps (n + 1) ks gg gV) (hx : PassesAt CX X σ (E σ))
    (I : Inv X ((q, PySem.W.methodObj (.ref g) (.ref C)) :: pins) σ H s) (r : Vals vs us) (rz : Vals zs ws) (l1 : vs.length = n) (l2 : zs.length = ks.length) (h : sp (gV (.ref C :: vs) zs) H Q (E σ)) :
    wpAny (model X.prog X.w) X.A (call (.ref q) us (ks.zip ws)) (EP X pins σ Q) X.xe s := by
  have r1 : Vals (V.ref C :: vs) (Value.ref C :: us) := .cons rfl r
  have n1 : (Value.ref C :: us).length = n + 1 := by rw [List.length_cons, ← r.length, l1]
  refine thn (wpAny_call (PySem.W.method_call (ClX.pin_at I) (codeAny_mono (F.run X.A X.stack s H ⟨Value.ref C :: us, ks.zip ws⟩ (gg (Value.ref C :: us) ws) (gV (V.ref C :: vs) zs) Q (E σ) hr I.env0 (hb.to s _ ws I.kIn n1 (rz.length.symm.trans l2)) (hb.rel r1 rz) h)
    (R' := fun res s' => match res with | .ok (.ret v) => EP X ((q, PySem.W.methodObj (.ref g) (.ref C)) :: pins) σ Q v s' | .ok _ => False | .error e => X.xe e s') fun res s' hq => ?_))) fun _ _ y => ClX.unpinE y
  cases res with
  | error er => exact hx _ H s er s' I hq
  | ok fl =>
    cases fl with
    | ret u => exact I.after hq
    | _ => exact hq.elim
theorem pe_cmK (he : PE X o ta) (M : CMetK CX X.prog X.w X.K X.mg X.base C m k n ks gV sp) (hr : Room k X.A) (hx : ∀ σ, PassesAt CX X σ (E σ)) (ha : PA X (e :: es) t) (hkw : PK X kws tk)
    (some_ : (backToKw pos (keywordEach kws X.env)).all (·.1.isSome) = true := by rfl) (names : (backToKw pos (keywordEach kws X.env)).filterMap (·.1) = ks := by rfl)
    (st : starEach (e :: es) X.env = (false, eval e X.env) :: starEach es X.env := by rfl) (nost : ((backTo pos (starEach (e :: es) X.env)).any (·.1) || (backToKw pos (keywordEach kws X.env)).any (·.1.isNone)) = false := by rfl)
    (ht : eval (.Call (.Attribute o m apos) (e :: es) kws pos) X.env = (do
      let ov ← eval o X.env
      standAt apos.atName
      let (f, first) ← holding [ov] (getMethod ov m pl)
      callWith pos f first (backTo pos (starEach (e :: es) X.env)) (backToKw pos (keywordEach kws X.env))) := by rfl) :
    PE X (.Call (.Attribute o m apos) (e :: es) kws pos) (tCMK C n ks.length sp gV E ta t tk) := by
  obtain ⟨pp, g, fd, ps, gg, rd, cm, F, hb⟩ := M.ex
  refine ⟨fun pins s σ H Q I h => PySem.W.methodCall_KW (pl := pl) (thn (he.run pins s σ H _ I h) fun u s1 z => ?_) ht⟩
  obtain ⟨y, H1, I1, rx, rfl, q⟩ := z
  obtain rfl : u = Value.ref C := rx
  refine ClX.getmethcm_ok I1 rd cm fun s2 I2 => ?_
  refine PySem.W.callWith_of nost (PySem.W.keeps_M (self := Value.ref C) cm.fi) (PyProof.Rows.evalArgs_kw2 some_ (thn (ha.run pos _ s2 σ H1 _ I2 q) fun us s3 z => ?_) st)
  obtain ⟨vs, H2, I3, rv, q2⟩ := z
  refine thn (hkw.run pos _ s3 σ H2 _ I3 q2) fun ws s4 z => ?_
  obtain ⟨zs, H3, I4, rz, l1, l2, q3⟩ := z
  refine ⟨⟨ClX.pin_at I4, I4.kIn⟩, ?_⟩
  rw [names]
  exact run_cmK F hr hb (hx σ) I4 rv rz l1 l2 q3
theorem pe_cmK0 (he : PE X o ta) (M : CMetK CX X.prog X.w X.K X.mg X.base C m k 0 ks gV sp) (hr : Room k X.A) (hx : ∀ σ, PassesAt CX X σ (E σ)) (hkw : PK X kws tk)
    (some_ : (backToKw pos (keywordEach kws X.env)).all (·.1.isSome) = true := by rfl) (names : (backToKw pos (keywordEach kws X.env)).filterMap (·.1) = ks := by rfl)
    (nost : ((backTo pos (starEach [] X.env)).any (·.1) || (backToKw pos (keywordEach kws X.env)).any (·.1.isNone)) = false := by rfl)
    (ht : eval (.Call (.Attribute o m apos) [] kws pos) X.env = (do
      let ov ← eval o X.env
      standAt apos.atName
      let (f, first) ← holding [ov] (getMethod ov m pl)
      callWith pos f first (backTo pos (starEach [] X.env)) (backToKw pos (keywordEach kws X.env))) := by rfl) :
    PE X (.Call (.Attribute o m apos) [] kws pos) (tCMK C 0 ks.length sp gV E ta tNil tk) := by
  obtain ⟨pp, g, fd, ps, gg, rd, cm, F, hb⟩ := M.ex
  refine ⟨fun pins s σ H Q I h => PySem.W.methodCall_KW (pl := pl) (thn (he.run pins s σ H _ I h) fun u s1 z => ?_) ht⟩
  obtain ⟨y, H1, I1, rx, rfl, q⟩ := z
  obtain rfl : u = Value.ref C := rx
  refine ClX.getmethcm_ok I1 rd cm fun s2 I2 => ?_
  refine PySem.W.callWith_of nost (PySem.W.keeps_M (self := Value.ref C) cm.fi) (PyProof.Rows.evalArgs_kw2_nil some_ (thn (hkw.run pos _ s2 σ H1 _ I2 q) fun ws s4 z => ?_))
  obtain ⟨zs, H3, I4, rz, l1, l2, q3⟩ := z
  refine ⟨⟨ClX.pin_at I4, I4.kIn⟩, ?_⟩
  rw [names]
  exact run_cmK F hr hb (hx σ) I4 .nil rz l1 l2 q3
/-- C(e, ..), the class at C held by the local name in the slot i -/
theorem pe_mkkL {i : Nat} (hN : X.N[i]? = some x) (hv : Vis X.env.scope x) (M : MkKX CX X.prog X.w X.K X.mg X.base C k n ks gV sp) (hr : Room (k + 1) X.A) (hx : ∀ σ, PassesAt CX X σ (E σ)) (ha : PA X (e :: es) t) (hkw : PK X kws tk)
    (some_ : (backToKw pos (keywordEach kws X.env)).all (·.1.isSome) = true := by rfl) (names : (backToKw pos (keywordEach kws X.env)).filterMap (·.1) = ks := by rfl)
    (hdb : (x == ("__debug__" : Str)) = false := by decide) (hcd : (x == ("__classdict__" : Str)) = false := by decide) (st : starEach (e :: es) X.env = (false, eval e X.env) :: starEach es X.env := by rfl)
    (nost : ((backTo pos (starEach (e :: es) X.env)).any (·.1) || (backToKw pos (keywordEach kws X.env)).any (·.1.isNone)) = false := by rfl) :
    PE X (.Call (.Name x np) (e :: es) kws pos) (fun σ H Q => σ[i]? = some (some (.ref C)) ∧ tMakeKS C n ks.length sp gV E t tk σ H Q) := by
  obtain ⟨f, fd, ps, gg, hmk, F, hb⟩ := M.ex
  refine ⟨fun pins s σ H Q I h => ?_⟩
  obtain ⟨hs, ht⟩ := h
  refine wpAny_Call_Name_kw (thn ((pe_var (pos := np) hN hv hdb hcd).run pins s σ H (fun v H1 => v = .ref C ∧ H1 = H) I ⟨.ref C, hs, rfl, rfl⟩) fun u s0 z => ?_)
  obtain ⟨v, H0, I0, r0, rfl, rfl⟩ := z
  obtain rfl : u = Value.ref C := r0
  refine PySem.W.callWith_KW I.ok.mod.kin hmk.kp some_ (thn (ha.run pos pins s0 σ _ _ I0 ht) fun us s1 z => ?_) nost st
  obtain ⟨vs, H1, I1, r, q⟩ := z
  refine thn (hkw.run pos pins s1 σ H1 _ I1 q) fun ws s2 z => ?_
  obtain ⟨zs, H2, I2, rz, l1, l2, q2⟩ := z
  refine ⟨Inv.kIn I2, ?_⟩
  rw [names]
  exact run_makeKS hmk F hr hb (hx σ) I2 r rz l1 l2 q2
end
theorem g_cmK {C : Addr} {n j : Nat} {sp : Sp} {gV : List V → List V → List V} {E : L2.St → XK} {ta : TE} {t tk : TA} {σ : L2.St} {H : Hp} {Q : VK} (h : ta σ H fun x H1 => x = .ref C ∧ t σ H1 fun vs H2 => tk σ H2 fun zs H3 => vs.length = n ∧ zs.length = j ∧ sp (gV (.ref C :: vs) zs) H3 Q (E σ)) : tCMK C n j sp gV E ta t tk σ H Q := h
/-! the head's facts, with defs at any address -/
abbrev AlY : Type := AlX × (Bool × List He.FnW)
def obsY (fa : List He.Fa) (fn : List He.DefD) (pr : List PrpD) (bs : List (PySem.W.Frag → Bool)) (da : List He5.DefA) (K : PySem.W.Frag) : AlY := (obsX fa fn pr bs K, (da.all fun d => d.ok K, da.map fun d => He5.fnA K (d.at_ K)))
def valY (fn : List He.DefD) (pr : List PrpD) (da : List He5.DefA) : AlY := (valX fn pr, (true, da.map He5.DefA.val))
structure SaysY (fa : List He.Fa) (fn : List He.DefD) (pr : List PrpD) (bs : List (PySem.W.Frag → Bool)) (da : List He5.DefA) (K : PySem.W.Frag) : Prop where
  eq : obsY fa fn pr bs da K = valY fn pr da
def obsYG (n : Nat) (fa : List He.Fa) (fn : List He.DefD) (pr : List PrpD) (bs : List (PySem.W.Frag → Bool)) (da : List He5.DefA) (g : Addr → Option Obj) : AlY := obsY fa fn pr bs da (He.frG g (He5.asA g n))
def hookY (n : Nat) (fa : List He.Fa) (fn : List He.DefD) (pr : List PrpD) (bs : List (PySem.W.Frag → Bool)) (da : List He5.DefA) : PySem.W.Hook where
  α := AlY
  obs := fun s => obsYG n fa fn pr bs da s.heap.get?
  val := fun _ => valY fn pr da
  says := fun _ h => ∃ K : PySem.W.Frag, K.In h ∧ SaysY fa fn pr bs da K
  of := fun _ _ e => ⟨_, He.frG_in, ⟨e⟩⟩
  keeps := fun _ _ _ ⟨K, inK, c⟩ kp => ⟨K, PySem.W.Frag.In.keeps inK kp, c⟩
theorem obsYG_eq {n : Nat} {fa : List He.Fa} {fn : List He.DefD} {pr : List PrpD} {bs : List (PySem.W.Frag → Bool)} {da : List He5.DefA} {g : Addr → Option Obj} {s : Shared} (h : ∀ a, g a = s.heap.get? a) : obsYG n fa fn pr bs da g = (hookY n fa fn pr bs da).obs s := by
  obtain rfl : g = s.heap.get? := funext h
  rfl
section
variable {fa : List He.Fa} {fn : List He.DefD} {pr : List PrpD} {bs : List (PySem.W.Frag → Bool)} {da : List He5.DefA} {K : PySem.W.Frag}
theorem SaysY.x (c : SaysY fa fn pr bs da K) : SaysX fa fn pr bs K := ⟨congrArg (fun z : AlY => z.1) c.eq⟩
theorem SaysY.p (c : SaysY fa fn pr bs da K) : SaysP fa fn pr K := c.x.p
theorem SaysY.test (c : SaysY fa fn pr bs da K) (i : Nat) {b : PySem.W.Frag → Bool} (h : bs[i]? = some b := by rfl) : b K = true := c.x.test i h
theorem SaysY.da_ (c : SaysY fa fn pr bs da K) (i : Nat) {d : He5.DefA} (h : da[i]? = some d := by rfl) : ∃ fd, FunD K d.name d.qual d.params d.body d.scope (d.dvs K) (d.kws K) (d.at_ K) fd := by
  have z := congrArg (fun z : AlY => z.2) c.eq
  have z1 : (da.all fun d => d.ok K) = true := congrArg (fun z : Bool × List He.FnW => z.1) z
  have z2 : da.map (fun d => He5.fnA K (d.at_ K)) = da.map He5.DefA.val := congrArg (fun z : Bool × List He.FnW => z.2) z
  have z3 : (da.map fun d => He5.fnA K (d.at_ K))[i]? = (da.map He5.DefA.val)[i]? := by rw [z2]
  rw [List.getElem?_map, List.getElem?_map, h] at z3
  exact He5.DefA.funD (Option.some.inj z3) (List.all_eq_true.mp z1 d (List.mem_of_getElem? h))
end
/-- the tests of a class that is read for its classmethod m -/
def clmB (K : PySem.W.Frag) (c m : Str) : Bool := PySem.W.readsIn K (He.ga K c) (.type "type") && (decide (PySem.W.specialIn K (.ref (He.ga K c)) "__getattribute__" = some (some (.builtin "type.__getattribute__"))) &&
  (He5.wrapB K (He.ga K c) "classmethod" "classmethod.__get__" m && PySem.W.fnIn K (He5.wf K (He.ga K c) "classmethod" m)))
structure ClmK (K : PySem.W.Frag) (C : Addr) (m : Str) (p g : Addr) : Prop where
  rd : ClX.CRead K C (.type "type")
  cm : ClX.CMet K C (.type "type") m p g
theorem clmB_ok {K : PySem.W.Frag} {c m : Str} (h : clmB K c m = true) : ClmK K (He.ga K c) m (He.ma K (He.ga K c) m) (He5.wf K (He.ga K c) "classmethod" m) := by
  obtain ⟨h1, h⟩ := He.ba h
  obtain ⟨h2, h⟩ := He.ba h
  obtain ⟨h3, h4⟩ := He.ba h
  exact ⟨⟨h1, of_decide_eq_true h2⟩, He5.cmet_of h3 h4⟩
theorem cmet_mk {CX : CXT} {P : Program} {w : World} {K : PySem.W.Frag} {mg : Str → Option Value} {base : Heap} {C : Addr} {m : Str} {x q : Str} {pa : Arguments} {bd : List Stmt} {sc : Scope} {dv : List V} {kw : List (Str × V)} {k n : Nat} {ks ps : List Str} {gV : List V → List V → List V} {sp : Sp} {p g : Addr}
    (c : ClmK K C m p g) (h : ∃ (fd : FuncData), FunD K x q pa bd sc dv kw g fd) (ok : ∀ {f : Addr} {fd : FuncData}, FunD K x q pa bd sc dv kw f fd → FnOk P w K mg base CX k f fd ps sp)
    (b : ∀ {f : Addr} {fd : FuncData}, FunD K x q pa bd sc dv kw f fd → ∃ gg, KBn K fd ps (n + 1) ks gg gV) : CMetK CX P w K mg base C m k n ks gV sp := by
  obtain ⟨fd, F⟩ := h
  obtain ⟨gg, hb⟩ := b F
  exact ⟨p, g, fd, ps, gg, c.rd, c.cm, ok F, hb⟩
end Q
namespace Q
open PySem PySem.Spec PyProof.Rows L2
/-- an empty tuple of the written part -/
def empB (K : PySem.W.Frag) (a : Addr) : Bool := match K.lookup a with
  | some ⟨.type c, _, .seq its _, _⟩ => decide (c = "tuple") && its.toList.isEmpty
  | _ => false
theorem empB_ok {K : PySem.W.Frag} {a : Addr} (h : empB K a = true) (H : Hp) : SqT K H a [] := by
  unfold empB at h
  split at h
  · rename_i c d its n sl e
    obtain ⟨h1, h2⟩ := He.ba h
    have h3 : its.toList = [] := List.isEmpty_iff.mp h2
    refine .inr ⟨_, its, n, e, congrArg Value.type (of_decide_eq_true h1), rfl, ?_, ?_⟩
    · rw [← Array.length_toList, h3]; exact Nat.zero_le _
    · rw [h3]; exact .nil
  · exact absurd h Bool.false_ne_true
theorem passN0 {X : Cx} {σ : L2.St} : PassesAt (L2N.CX X.prog X.w) X σ (E0) := fun pins H s e s' I c => by
  obtain ⟨_, _, _, _, _, _, _, _, _, _, _, _, z⟩ := c
  exact z.elim
end Q

set_option Elab.async false
set_option linter.all false
set_option maxRecDepth 100000
/-! sum of a list or a tuple of whole numbers -/
namespace Q
open PySem PySem.Spec PyProof.Rows L2 RZ
theorem cr_sumT {X : Cx} (hc : X.calm = true) : CallR X (.builtin "sum") (fun vs H Q => ∃ (a : Addr) (ns : List Int), vs = [V.ref a] ∧ SqT X.K H a (ns.map V.int) ∧ Q (.int ns.sum) H) := by
  intro pins s σ H xs us Q I r h
  obtain ⟨a, ns, rfl, c, q⟩ := h
  cases r with
  | cons r rr =>
    cases rr
    cases r
    obtain ⟨its, ru, pu, _⟩ := I.tuple c
    have iu := RZ.intsAre_vals ru
    have hd : X.A.in1.handled = none := I.ok.hd hc
    have pt : s.heap.IsTuple a its.toArray := pu
    have lt : a < s.heap.objs.size := by
      obtain ⟨o, e, _⟩ := pt
      exact Heap.lt_size e
    refine call_sum_walkG (wpAny_pyIter_tuple pt ?_)
    have B := begins_tuple a its.toArray
    have W := Walks.tuple (prog := X.prog) (w := X.w) (A := X.A.in1) hd s.heap.objs.size a (Nat.ne_of_lt lt) its.toArray
    refine ⟨_, _, _, _, _, _, fun i => ns.getD i 0, rfl, W, ⟨?_, ?_⟩, ?_, ?_, ?_⟩
    · exact ⟨_, Heap.get?_push_at rfl B.free, rfl, rfl⟩
    · exact B.keeps s.heap _ pt fun b o e => Heap.get?_push_of_some _ e
    · intro b hb
      rcases List.mem_cons.mp hb with e | hb
      · rw [e, Heap.size_push]; exact Nat.lt_succ_self _
      · rw [List.mem_singleton.mp hb, Heap.size_push]; exact Nat.lt_succ_of_lt lt
    · intro i v hv
      exact iu.int_at i v (by simpa using hv)
    · intro h' tk t' kp
      refine ⟨.int ns.sum, H, I.kept (t' := tk) fun b o e => ?_, ?_, q⟩
      · refine kp b o ?_ (Heap.get?_push_of_some _ e)
        intro hb
        rw [List.mem_singleton.mp hb] at e
        exact absurd (Heap.lt_size e) (Nat.lt_irrefl _)
      · refine ⟨t', ?_⟩
        rw [preSum_getD, List.take_of_length_le]
        have := iu.length
        simp [this]
def rSumT (K : PySem.W.Frag) : List V → Hp → VK → Prop := fun vs H Q => ∃ (a : Addr) (ns : List Int), vs = [V.ref a] ∧ SqT K H a (ns.map V.int) ∧ Q (.int ns.sum) H
theorem k_sumT {X : Cx} {K : PySem.W.Frag} (e : X.K = K) (hc : X.calm = true) : CallR X (.builtin "sum") (rSumT K) := by
  subst e
  exact cr_sumT hc
section
variable {H : Hp} {Q : VK} {K : PySem.W.Frag} {a : Addr}
theorem g_sumT {ns : List Int} (h : SqT K H a (ns.map V.int)) (q : Q (.int ns.sum) H) : rSumT K [.ref a] H Q := ⟨a, ns, rfl, h, q⟩
end
section
theorem g_v16 {x0 x1 x2 x3 x4 x5 x6 x7 x8 x9 x10 x11 x12 x13 x14 x15 : Option V} {v : V} {r : L2.St} {H : Hp} {Q : VK} (h : Q v H) : tVar 16 (x0 :: x1 :: x2 :: x3 :: x4 :: x5 :: x6 :: x7 :: x8 :: x9 :: x10 :: x11 :: x12 :: x13 :: x14 :: x15 :: some v :: r) H Q := ⟨v, rfl, h⟩
instance st_g_v16 {x0 x1 x2 x3 x4 x5 x6 x7 x8 x9 x10 x11 x12 x13 x14 x15 : Option V} {v : V} {r : L2.St} {H : Hp} {Q : VK} : Step (tVar 16 (x0 :: x1 :: x2 :: x3 :: x4 :: x5 :: x6 :: x7 :: x8 :: x9 :: x10 :: x11 :: x12 :: x13 :: x14 :: x15 :: some v :: r) H Q) (Q v H) := ⟨fun z => g_v16 z⟩
theorem g_n16 {x0 x1 x2 x3 x4 x5 x6 x7 x8 x9 x10 x11 x12 x13 x14 x15 y : Option V} {v : V} {r : L2.St} {H : Hp} {N : L2.St → Hp → Prop} (h : N (x0 :: x1 :: x2 :: x3 :: x4 :: x5 :: x6 :: x7 :: x8 :: x9 :: x10 :: x11 :: x12 :: x13 :: x14 :: x15 :: some v :: r) H) : gName 16 v (x0 :: x1 :: x2 :: x3 :: x4 :: x5 :: x6 :: x7 :: x8 :: x9 :: x10 :: x11 :: x12 :: x13 :: x14 :: x15 :: y :: r) H N := h
instance st_g_n16 {x0 x1 x2 x3 x4 x5 x6 x7 x8 x9 x10 x11 x12 x13 x14 x15 y : Option V} {v : V} {r : L2.St} {H : Hp} {N : L2.St → Hp → Prop} : Step (gName 16 v (x0 :: x1 :: x2 :: x3 :: x4 :: x5 :: x6 :: x7 :: x8 :: x9 :: x10 :: x11 :: x12 :: x13 :: x14 :: x15 :: y :: r) H N) (N (x0 :: x1 :: x2 :: x3 :: x4 :: x5 :: x6 :: x7 :: x8 :: x9 :: x10 :: x11 :: x12 :: x13 :: x14 :: x15 :: some v :: r) H) := ⟨fun z => g_n16 z⟩
theorem g_v17 {x0 x1 x2 x3 x4 x5 x6 x7 x8 x9 x10 x11 x12 x13 x14 x15 x16 : Option V} {v : V} {r : L2.St} {H : Hp} {Q : VK} (h : Q v H) : tVar 17 (x0 :: x1 :: x2 :: x3 :: x4 :: x5 :: x6 :: x7 :: x8 :: x9 :: x10 :: x11 :: x12 :: x13 :: x14 :: x15 :: x16 :: some v :: r) H Q := ⟨v, rfl, h⟩
instance st_g_v17 {x0 x1 x2 x3 x4 x5 x6 x7 x8 x9 x10 x11 x12 x13 x14 x15 x16 : Option V} {v : V} {r : L2.St} {H : Hp} {Q : VK} : Step (tVar 17 (x0 :: x1 :: x2 :: x3 :: x4 :: x5 :: x6 :: x7 :: x8 :: x9 :: x10 :: x11 :: x12 :: x13 :: x14 :: x15 :: x16 :: some v :: r) H Q) (Q v H) := ⟨fun z => g_v17 z⟩
theorem g_n17 {x0 x1 x2 x3 x4 x5 x6 x7 x8 x9 x10 x11 x12 x13 x14 x15 x16 y : Option V} {v : V} {r : L2.St} {H : Hp} {N : L2.St → Hp → Prop} (h : N (x0 :: x1 :: x2 :: x3 :: x4 :: x5 :: x6 :: x7 :: x8 :: x9 :: x10 :: x11 :: x12 :: x13 :: x14 :: x15 :: x16 :: some v :: r) H) : gName 17 v (x0 :: x1 :: x2 :: x3 :: x4 :: x5 :: x6 :: x7 :: x8 :: x9 :: x10 :: x11 :: x12 :: x13 :: x14 :: x15 :: x16 :: y :: r) H N := h
instance st_g_n17 {x0 x1 x2 x3 x4 x5 x6 x7 x8 x9 x10 x11 x12 x13 x14 x15 x16 y : Option V} {v : V} {r : L2.St} {H : Hp} {N : L2.St → Hp → Prop} : Step (gName 17 v (x0 :: x1 :: x2 :: x3 :: x4 :: x5 :: x6 :: x7 :: x8 :: x9 :: x10 :: x11 :: x12 :: x13 :: x14 :: x15 :: x16 :: y :: r) H N) (N (x0 :: x1 :: x2 :: x3 :: x4 :: x5 :: x6 :: x7 :: x8 :: x9 :: x10 :: x11 :: x12 :: x13 :: x14 :: x15 :: x16 :: some v :: r) H) := ⟨fun z => g_n17 z⟩
theorem g_v18 {x0 x1 x2 x3 x4 x5 x6 x7 x8 x9 x10 x11 x12 x13 x14 x15 x16 x17 : Option V} {v : V} {r : L2.St} {H : Hp} {Q : VK} (h : Q v H) : tVar 18 (x0 :: x1 :: x2 :: x3 :: x4 :: x5 :: x6 :: x7 :: x8 :: x9 :: x10 :: x11 :: x12 :: x13 :: x14 :: x15 :: x16 :: x17 :: some v :: r) H Q := ⟨v, rfl, h⟩
instance st_g_v18 {x0 x1 x2 x3 x4 x5 x6 x7 x8 x9 x10 x11 x12 x13 x14 x15 x16 x17 : Option V} {v : V} {r : L2.St} {H : Hp} {Q : VK} : Step (tVar 18 (x0 :: x1 :: x2 :: x3 :: x4 :: x5 :: x6 :: x7 :: x8 :: x9 :: x10 :: x11 :: x12 :: x13 :: x14 :: x15 :: x16 :: x17 :: some v :: r) H Q) (Q v H) := ⟨fun z => g_v18 z⟩
theorem g_n18 {x0 x1 x2 x3 x4 x5 x6 x7 x8 x9 x10 x11 x12 x13 x14 x15 x16 x17 y : Option V} {v : V} {r : L2.St} {H : Hp} {N : L2.St → Hp → Prop} (h : N (x0 :: x1 :: x2 :: x3 :: x4 :: x5 :: x6 :: x7 :: x8 :: x9 :: x10 :: x11 :: x12 :: x13 :: x14 :: x15 :: x16 :: x17 :: some v :: r) H) : gName 18 v (x0 :: x1 :: x2 :: x3 :: x4 :: x5 :: x6 :: x7 :: x8 :: x9 :: x10 :: x11 :: x12 :: x13 :: x14 :: x15 :: x16 :: x17 :: y :: r) H N := h
instance st_g_n18 {x0 x1 x2 x3 x4 x5 x6 x7 x8 x9 x10 x11 x12 x13 x14 x15 x16 x17 y : Option V} {v : V} {r : L2.St} {H : Hp} {N : L2.St → Hp → Prop} : Step (gName 18 v (x0 :: x1 :: x2 :: x3 :: x4 :: x5 :: x6 :: x7 :: x8 :: x9 :: x10 :: x11 :: x12 :: x13 :: x14 :: x15 :: x16 :: x17 :: y :: r) H N) (N (x0 :: x1 :: x2 :: x3 :: x4 :: x5 :: x6 :: x7 :: x8 :: x9 :: x10 :: x11 :: x12 :: x13 :: x14 :: x15 :: x16 :: x17 :: some v :: r) H) := ⟨fun z => g_n18 z⟩
theorem g_v19 {x0 x1 x2 x3 x4 x5 x6 x7 x8 x9 x10 x11 x12 x13 x14 x15 x16 x17 x18 : Option V} {v : V} {r : L2.St} {H : Hp} {Q : VK} (h : Q v H) : tVar 19 (x0 :: x1 :: x2 :: x3 :: x4 :: x5 :: x6 :: x7 :: x8 :: x9 :: x10 :: x11 :: x12 :: x13 :: x14 :: x15 :: x16 :: x17 :: x18 :: some v :: r) H Q := ⟨v, rfl, h⟩
instance st_g_v19 {x0 x1 x2 x3 x4 x5 x6 x7 x8 x9 x10 x11 x12 x13 x14 x15 x16 x17 x18 : Option V} {v : V} {r : L2.St} {H : Hp} {Q : VK} : Step (tVar 19 (x0 :: x1 :: x2 :: x3 :: x4 :: x5 :: x6 :: x7 :: x8 :: x9 :: x10 :: x11 :: x12 :: x13 :: x14 :: x15 :: x16 :: x17 :: x18 :: some v :: r) H Q) (Q v H) := ⟨fun z => g_v19 z⟩
theorem g_n19 {x0 x1 x2 x3 x4 x5 x6 x7 x8 x9 x10 x11 x12 x13 x14 x15 x16 x17 x18 y : Option V} {v : V} {r : L2.St} {H : Hp} {N : L2.St → Hp → Prop} (h : N (x0 :: x1 :: x2 :: x3 :: x4 :: x5 :: x6 :: x7 :: x8 :: x9 :: x10 :: x11 :: x12 :: x13 :: x14 :: x15 :: x16 :: x17 :: x18 :: some v :: r) H) : gName 19 v (x0 :: x1 :: x2 :: x3 :: x4 :: x5 :: x6 :: x7 :: x8 :: x9 :: x10 :: x11 :: x12 :: x13 :: x14 :: x15 :: x16 :: x17 :: x18 :: y :: r) H N := h
instance st_g_n19 {x0 x1 x2 x3 x4 x5 x6 x7 x8 x9 x10 x11 x12 x13 x14 x15 x16 x17 x18 y : Option V} {v : V} {r : L2.St} {H : Hp} {N : L2.St → Hp → Prop} : Step (gName 19 v (x0 :: x1 :: x2 :: x3 :: x4 :: x5 :: x6 :: x7 :: x8 :: x9 :: x10 :: x11 :: x12 :: x13 :: x14 :: x15 :: x16 :: x17 :: x18 :: y :: r) H N) (N (x0 :: x1 :: x2 :: x3 :: x4 :: x5 :: x6 :: x7 :: x8 :: x9 :: x10 :: x11 :: x12 :: x13 :: x14 :: x15 :: x16 :: x17 :: x18 :: some v :: r) H) := ⟨fun z => g_n19 z⟩
theorem g_v20 {x0 x1 x2 x3 x4 x5 x6 x7 x8 x9 x10 x11 x12 x13 x14 x15 x16 x17 x18 x19 : Option V} {v : V} {r : L2.St} {H : Hp} {Q : VK} (h : Q v H) : tVar 20 (x0 :: x1 :: x2 :: x3 :: x4 :: x5 :: x6 :: x7 :: x8 :: x9 :: x10 :: x11 :: x12 :: x13 :: x14 :: x15 :: x16 :: x17 :: x18 :: x19 :: some v :: r) H Q := ⟨v, rfl, h⟩
instance st_g_v20 {x0 x1 x2 x3 x4 x5 x6 x7 x8 x9 x10 x11 x12 x13 x14 x15 x16 x17 x18 x19 : Option V} {v : V} {r : L2.St} {H : Hp} {Q : VK} : Step (tVar 20 (x0 :: x1 :: x2 :: x3 :: x4 :: x5 :: x6 :: x7 :: x8 :: x9 :: x10 :: x11 :: x12 :: x13 :: x14 :: x15 :: x16 :: x17 :: x18 :: x19 :: some v :: r) H Q) (Q v H) := ⟨fun z => g_v20 z⟩
theorem g_n20 {x0 x1 x2 x3 x4 x5 x6 x7 x8 x9 x10 x11 x12 x13 x14 x15 x16 x17 x18 x19 y : Option V} {v : V} {r : L2.St} {H : Hp} {N : L2.St → Hp → Prop} (h : N (x0 :: x1 :: x2 :: x3 :: x4 :: x5 :: x6 :: x7 :: x8 :: x9 :: x10 :: x11 :: x12 :: x13 :: x14 :: x15 :: x16 :: x17 :: x18 :: x19 :: some v :: r) H) : gName 20 v (x0 :: x1 :: x2 :: x3 :: x4 :: x5 :: x6 :: x7 :: x8 :: x9 :: x10 :: x11 :: x12 :: x13 :: x14 :: x15 :: x16 :: x17 :: x18 :: x19 :: y :: r) H N := h
instance st_g_n20 {x0 x1 x2 x3 x4 x5 x6 x7 x8 x9 x10 x11 x12 x13 x14 x15 x16 x17 x18 x19 y : Option V} {v : V} {r : L2.St} {H : Hp} {N : L2.St → Hp → Prop} : Step (gName 20 v (x0 :: x1 :: x2 :: x3 :: x4 :: x5 :: x6 :: x7 :: x8 :: x9 :: x10 :: x11 :: x12 :: x13 :: x14 :: x15 :: x16 :: x17 :: x18 :: x19 :: y :: r) H N) (N (x0 :: x1 :: x2 :: x3 :: x4 :: x5 :: x6 :: x7 :: x8 :: x9 :: x10 :: x11 :: x12 :: x13 :: x14 :: x15 :: x16 :: x17 :: x18 :: x19 :: some v :: r) H) := ⟨fun z => g_n20 z⟩
theorem g_v21 {x0 x1 x2 x3 x4 x5 x6 x7 x8 x9 x10 x11 x12 x13 x14 x15 x16 x17 x18 x19 x20 : Option V} {v : V} {r : L2.St} {H : Hp} {Q : VK} (h : Q v H) : tVar 21 (x0 :: x1 :: x2 :: x3 :: x4 :: x5 :: x6 :: x7 :: x8 :: x9 :: x10 :: x11 :: x12 :: x13 :: x14 :: x15 :: x16 :: x17 :: x18 :: x19 :: x20 :: some v :: r) H Q := ⟨v, rfl, h⟩
instance st_g_v21 {x0 x1 x2 x3 x4 x5 x6 x7 x8 x9 x10 x11 x12 x13 x14 x15 x16 x17 x18 x19 x20 : Option V} {v : V} {r : L2.St} {H : Hp} {Q : VK} : Step (tVar 21 (x0 :: x1 :: x2 :: x3 :: x4 :: x5 :: x6 :: x7 :: x8 :: x9 :: x10 :: x11 :: x12 :: x13 :: x14 :: x15 :: x16 :: x17 :: x18 :: x19 :: x20 :: some v :: r) H Q) (Q v H) := ⟨fun z => g_v21 z⟩
theorem g_n21 {x0 x1 x2 x3 x4 x5 x6 x7 x8 x9 x10 x11 x12 x13 x14 x15 x16 x17 x18 x19 x20 y : Option V} {v : V} {r : L2.St} {H : Hp} {N : L2.St → Hp → Prop} (h : N (x0 :: x1 :: x2 :: x3 :: x4 :: x5 :: x6 :: x7 :: x8 :: x9 :: x10 :: x11 :: x12 :: x13 :: x14 :: x15 :: x16 :: x17 :: x18 :: x19 :: x20 :: some v :: r) H) : gName 21 v (x0 :: x1 :: x2 :: x3 :: x4 :: x5 :: x6 :: x7 :: x8 :: x9 :: x10 :: x11 :: x12 :: x13 :: x14 :: x15 :: x16 :: x17 :: x18 :: x19 :: x20 :: y :: r) H N := h
instance st_g_n21 {x0 x1 x2 x3 x4 x5 x6 x7 x8 x9 x10 x11 x12 x13 x14 x15 x16 x17 x18 x19 x20 y : Option V} {v : V} {r : L2.St} {H : Hp} {N : L2.St → Hp → Prop} : Step (gName 21 v (x0 :: x1 :: x2 :: x3 :: x4 :: x5 :: x6 :: x7 :: x8 :: x9 :: x10 :: x11 :: x12 :: x13 :: x14 :: x15 :: x16 :: x17 :: x18 :: x19 :: x20 :: y :: r) H N) (N (x0 :: x1 :: x2 :: x3 :: x4 :: x5 :: x6 :: x7 :: x8 :: x9 :: x10 :: x11 :: x12 :: x13 :: x14 :: x15 :: x16 :: x17 :: x18 :: x19 :: x20 :: some v :: r) H) := ⟨fun z => g_n21 z⟩
theorem g_v22 {x0 x1 x2 x3 x4 x5 x6 x7 x8 x9 x10 x11 x12 x13 x14 x15 x16 x17 x18 x19 x20 x21 : Option V} {v : V} {r : L2.St} {H : Hp} {Q : VK} (h : Q v H) : tVar 22 (x0 :: x1 :: x2 :: x3 :: x4 :: x5 :: x6 :: x7 :: x8 :: x9 :: x10 :: x11 :: x12 :: x13 :: x14 :: x15 :: x16 :: x17 :: x18 :: x19 :: x20 :: x21 :: some v :: r) H Q := ⟨v, rfl, h⟩
instance st_g_v22 {x0 x1 x2 x3 x4 x5 x6 x7 x8 x9 x10 x11 x12 x13 x14 x15 x16 x17 x18 x19 x20 x21 : Option V} {v : V} {r : L2.St} {H : Hp} {Q : VK} : Step (tVar 22 (x0 :: x1 :: x2 :: x3 :: x4 :: x5 :: x6 :: x7 :: x8 :: x9 :: x10 :: x11 :: x12 :: x13 :: x14 :: x15 :: x16 :: x17 :: x18 :: x19 :: x20 :: x21 :: some v :: r) H Q) (Q v H) := ⟨fun z => g_v22 z⟩
theorem g_n22 {x0 x1 x2 x3 x4 x5 x6 x7 x8 x9 x10 x11 x12 x13 x14 x15 x16 x17 x18 x19 x20 x21 y : Option V} {v : V} {r : L2.St} {H : Hp} {N : L2.St → Hp → Prop} (h : N (x0 :: x1 :: x2 :: x3 :: x4 :: x5 :: x6 :: x7 :: x8 :: x9 :: x10 :: x11 :: x12 :: x13 :: x14 :: x15 :: x16 :: x17 :: x18 :: x19 :: x20 :: x21 :: some v :: r) H) : gName 22 v (x0 :: x1 :: x2 :: x3 :: x4 :: x5 :: x6 :: x7 :: x8 :: x9 :: x10 :: x11 :: x12 :: x13 :: x14 :: x15 :: x16 :: x17 :: x18 :: x19 :: x20 :: x21 :: y :: r) H N := h
instance st_g_n22 {x0 x1 x2 x3 x4 x5 x6 x7 x8 x9 x10 x11 x12 x13 x14 x15 x16 x17 x18 x19 x20 x21 y : Option V} {v : V} {r : L2.St} {H : Hp} {N : L2.St → Hp → Prop} : Step (gName 22 v (x0 :: x1 :: x2 :: x3 :: x4 :: x5 :: x6 :: x7 :: x8 :: x9 :: x10 :: x11 :: x12 :: x13 :: x14 :: x15 :: x16 :: x17 :: x18 :: x19 :: x20 :: x21 :: y :: r) H N) (N (x0 :: x1 :: x2 :: x3 :: x4 :: x5 :: x6 :: x7 :: x8 :: x9 :: x10 :: x11 :: x12 :: x13 :: x14 :: x15 :: x16 :: x17 :: x18 :: x19 :: x20 :: x21 :: some v :: r) H) := ⟨fun z => g_n22 z⟩
theorem g_v23 {x0 x1 x2 x3 x4 x5 x6 x7 x8 x9 x10 x11 x12 x13 x14 x15 x16 x17 x18 x19 x20 x21 x22 : Option V} {v : V} {r : L2.St} {H : Hp} {Q : VK} (h : Q v H) : tVar 23 (x0 :: x1 :: x2 :: x3 :: x4 :: x5 :: x6 :: x7 :: x8 :: x9 :: x10 :: x11 :: x12 :: x13 :: x14 :: x15 :: x16 :: x17 :: x18 :: x19 :: x20 :: x21 :: x22 :: some v :: r) H Q := ⟨v, rfl, h⟩
instance st_g_v23 {x0 x1 x2 x3 x4 x5 x6 x7 x8 x9 x10 x11 x12 x13 x14 x15 x16 x17 x18 x19 x20 x21 x22 : Option V} {v : V} {r : L2.St} {H : Hp} {Q : VK} : Step (tVar 23 (x0 :: x1 :: x2 :: x3 :: x4 :: x5 :: x6 :: x7 :: x8 :: x9 :: x10 :: x11 :: x12 :: x13 :: x14 :: x15 :: x16 :: x17 :: x18 :: x19 :: x20 :: x21 :: x22 :: some v :: r) H Q) (Q v H) := ⟨fun z => g_v23 z⟩
theorem g_n23 {x0 x1 x2 x3 x4 x5 x6 x7 x8 x9 x10 x11 x12 x13 x14 x15 x16 x17 x18 x19 x20 x21 x22 y : Option V} {v : V} {r : L2.St} {H : Hp} {N : L2.St → Hp → Prop} (h : N (x0 :: x1 :: x2 :: x3 :: x4 :: x5 :: x6 :: x7 :: x8 :: x9 :: x10 :: x11 :: x12 :: x13 :: x14 :: x15 :: x16 :: x17 :: x18 :: x19 :: x20 :: x21 :: x22 :: some v :: r) H) : gName 23 v (x0 :: x1 :: x2 :: x3 :: x4 :: x5 :: x6 :: x7 :: x8 :: x9 :: x10 :: x11 :: x12 :: x13 :: x14 :: x15 :: x16 :: x17 :: x18 :: x19 :: x20 :: x21 :: x22 :: y :: r) H N := h
instance st_g_n23 {x0 x1 x2 x3 x4 x5 x6 x7 x8 x9 x10 x11 x12 x13 x14 x15 x16 x17 x18 x19 x20 x21 x22 y : Option V} {v : V} {r : L2.St} {H : Hp} {N : L2.St → Hp → Prop} : Step (gName 23 v (x0 :: x1 :: x2 :: x3 :: x4 :: x5 :: x6 :: x7 :: x8 :: x9 :: x10 :: x11 :: x12 :: x13 :: x14 :: x15 :: x16 :: x17 :: x18 :: x19 :: x20 :: x21 :: x22 :: y :: r) H N) (N (x0 :: x1 :: x2 :: x3 :: x4 :: x5 :: x6 :: x7 :: x8 :: x9 :: x10 :: x11 :: x12 :: x13 :: x14 :: x15 :: x16 :: x17 :: x18 :: x19 :: x20 :: x21 :: x22 :: some v :: r) H) := ⟨fun z => g_n23 z⟩
theorem g_v24 {x0 x1 x2 x3 x4 x5 x6 x7 x8 x9 x10 x11 x12 x13 x14 x15 x16 x17 x18 x19 x20 x21 x22 x23 : Option V} {v : V} {r : L2.St} {H : Hp} {Q : VK} (h : Q v H) : tVar 24 (x0 :: x1 :: x2 :: x3 :: x4 :: x5 :: x6 :: x7 :: x8 :: x9 :: x10 :: x11 :: x12 :: x13 :: x14 :: x15 :: x16 :: x17 :: x18 :: x19 :: x20 :: x21 :: x22 :: x23 :: some v :: r) H Q := ⟨v, rfl, h⟩
instance st_g_v24 {x0 x1 x2 x3 x4 x5 x6 x7 x8 x9 x10 x11 x12 x13 x14 x15 x16 x17 x18 x19 x20 x21 x22 x23 : Option V} {v : V} {r : L2.St} {H : Hp} {Q : VK} : Step (tVar 24 (x0 :: x1 :: x2 :: x3 :: x4 :: x5 :: x6 :: x7 :: x8 :: x9 :: x10 :: x11 :: x12 :: x13 :: x14 :: x15 :: x16 :: x17 :: x18 :: x19 :: x20 :: x21 :: x22 :: x23 :: some v :: r) H Q) (Q v H) := ⟨fun z => g_v24 z⟩
theorem g_n24 {x0 x1 x2 x3 x4 x5 x6 x7 x8 x9 x10 x11 x12 x13 x14 x15 x16 x17 x18 x19 x20 x21 x22 x23 y : Option V} {v : V} {r : L2.St} {H : Hp} {N : L2.St → Hp → Prop} (h : N (x0 :: x1 :: x2 :: x3 :: x4 :: x5 :: x6 :: x7 :: x8 :: x9 :: x10 :: x11 :: x12 :: x13 :: x14 :: x15 :: x16 :: x17 :: x18 :: x19 :: x20 :: x21 :: x22 :: x23 :: some v :: r) H) : gName 24 v (x0 :: x1 :: x2 :: x3 :: x4 :: x5 :: x6 :: x7 :: x8 :: x9 :: x10 :: x11 :: x12 :: x13 :: x14 :: x15 :: x16 :: x17 :: x18 :: x19 :: x20 :: x21 :: x22 :: x23 :: y :: r) H N := h
instance st_g_n24 {x0 x1 x2 x3 x4 x5 x6 x7 x8 x9 x10 x11 x12 x13 x14 x15 x16 x17 x18 x19 x20 x21 x22 x23 y : Option V} {v : V} {r : L2.St} {H : Hp} {N : L2.St → Hp → Prop} : Step (gName 24 v (x0 :: x1 :: x2 :: x3 :: x4 :: x5 :: x6 :: x7 :: x8 :: x9 :: x10 :: x11 :: x12 :: x13 :: x14 :: x15 :: x16 :: x17 :: x18 :: x19 :: x20 :: x21 :: x22 :: x23 :: y :: r) H N) (N (x0 :: x1 :: x2 :: x3 :: x4 :: x5 :: x6 :: x7 :: x8 :: x9 :: x10 :: x11 :: x12 :: x13 :: x14 :: x15 :: x16 :: x17 :: x18 :: x19 :: x20 :: x21 :: x22 :: x23 :: some v :: r) H) := ⟨fun z => g_n24 z⟩
theorem g_v25 {x0 x1 x2 x3 x4 x5 x6 x7 x8 x9 x10 x11 x12 x13 x14 x15 x16 x17 x18 x19 x20 x21 x22 x23 x24 : Option V} {v : V} {r : L2.St} {H : Hp} {Q : VK} (h : Q v H) : tVar 25 (x0 :: x1 :: x2 :: x3 :: x4 :: x5 :: x6 :: x7 :: x8 :: x9 :: x10 :: x11 :: x12 :: x13 :: x14 :: x15 :: x16 :: x17 :: x18 :: x19 :: x20 :: x21 :: x22 :: x23 :: x24 :: some v :: r) H Q := ⟨v, rfl, h⟩
instance st_g_v25 {x0 x1 x2 x3 x4 x5 x6 x7 x8 x9 x10 x11 x12 x13 x14 x15 x16 x17 x18 x19 x20 x21 x22 x23 x24 : Option V} {v : V} {r : L2.St} {H : Hp} {Q : VK} : Step (tVar 25 (x0 :: x1 :: x2 :: x3 :: x4 :: x5 :: x6 :: x7 :: x8 :: x9 :: x10 :: x11 :: x12 :: x13 :: x14 :: x15 :: x16 :: x17 :: x18 :: x19 :: x20 :: x21 :: x22 :: x23 :: x24 :: some v :: r) H Q) (Q v H) := ⟨fun z => g_v25 z⟩
theorem g_n25 {x0 x1 x2 x3 x4 x5 x6 x7 x8 x9 x10 x11 x12 x13 x14 x15 x16 x17 x18 x19 x20 x21 x22 x23 x24 y : Option V} {v : V} {r : L2.St} {H : Hp} {N : L2.St → Hp → Prop} (h : N (x0 :: x1 :: x2 :: x3 :: x4 :: x5 :: x6 :: x7 :: x8 :: x9 :: x10 :: x11 :: x12 :: x13 :: x14 :: x15 :: x16 :: x17 :: x18 :: x19 :: x20 :: x21 :: x22 :: x23 :: x24 :: some v :: r) H) : gName 25 v (x0 :: x1 :: x2 :: x3 :: x4 :: x5 :: x6 :: x7 :: x8 :: x9 :: x10 :: x11 :: x12 :: x13 :: x14 :: x15 :: x16 :: x17 :: x18 :: x19 :: x20 :: x21 :: x22 :: x23 :: x24 :: y :: r) H N := h
instance st_g_n25 {x0 x1 x2 x3 x4 x5 x6 x7 x8 x9 x10 x11 x12 x13 x14 x15 x16 x17 x18 x19 x20 x21 x22 x23 x24 y : Option V} {v : V} {r : L2.St} {H : Hp} {N : L2.St → Hp → Prop} : Step (gName 25 v (x0 :: x1 :: x2 :: x3 :: x4 :: x5 :: x6 :: x7 :: x8 :: x9 :: x10 :: x11 :: x12 :: x13 :: x14 :: x15 :: x16 :: x17 :: x18 :: x19 :: x20 :: x21 :: x22 :: x23 :: x24 :: y :: r) H N) (N (x0 :: x1 :: x2 :: x3 :: x4 :: x5 :: x6 :: x7 :: x8 :: x9 :: x10 :: x11 :: x12 :: x13 :: x14 :: x15 :: x16 :: x17 :: x18 :: x19 :: x20 :: x21 :: x22 :: x23 :: x24 :: some v :: r) H) := ⟨fun z => g_n25 z⟩
theorem g_v26 {x0 x1 x2 x3 x4 x5 x6 x7 x8 x9 x10 x11 x12 x13 x14 x15 x16 x17 x18 x19 x20 x21 x22 x23 x24 x25 : Option V} {v : V} {r : L2.St} {H : Hp} {Q : VK} (h : Q v H) : tVar 26 (x0 :: x1 :: x2 :: x3 :: x4 :: x5 :: x6 :: x7 :: x8 :: x9 :: x10 :: x11 :: x12 :: x13 :: x14 :: x15 :: x16 :: x17 :: x18 :: x19 :: x20 :: x21 :: x22 :: x23 :: x24 :: x25 :: some v :: r) H Q := ⟨v, rfl, h⟩
instance st_g_v26 {x0 x1 x2 x3 x4 x5 x6 x7 x8 x9 x10 x11 x12 x13 x14 x15 x16 x17 x18 x19 x20 x21 x22 x23 x24 x25 : Option V} {v : V} {r : L2.St} {H : Hp} {Q : VK} : Step (tVar 26 (x0 :: x1 :: x2 :: x3 :: x4 :: x5 :: x6 :: x7 :: x8 :: x9 :: x10 :: x11 :: x12 :: x13 :: x14 :: x15 :: x16 :: x17 :: x18 :: x19 :: x20 :: x21 :: x22 :: x23 :: x24 :: x25 :: some v :: r) H Q) (Q v H) := ⟨fun z => g_v26 z⟩
theorem g_n26 {x0 x1 x2 x3 x4 x5 x6 x7 x8 x9 x10 x11 x12 x13 x14 x15 x16 x17 x18 x19 x20 x21 x22 x23 x24 x25 y : Option V} {v : V} {r : L2.St} {H : Hp} {N : L2.St → Hp → Prop} (h : N (x0 :: x1 :: x2 :: x3 :: x4 :: x5 :: x6 :: x7 :: x8 :: x9 :: x10 :: x11 :: x12 :: x13 :: x14 :: x15 :: x16 :: x17 :: x18 :: x19 :: x20 :: x21 :: x22 :: x23 :: x24 :: x25 :: some v :: r) H) : gName 26 v (x0 :: x1 :: x2 :: x3 :: x4 :: x5 :: x6 :: x7 :: x8 :: x9 :: x10 :: x11 :: x12 :: x13 :: x14 :: x15 :: x16 :: x17 :: x18 :: x19 :: x20 :: x21 :: x22 :: x23 :: x24 :: x25 :: y :: r) H N := h
instance st_g_n26 {x0 x1 x2 x3 x4 x5 x6 x7 x8 x9 x10 x11 x12 x13 x14 x15 x16 x17 x18 x19 x20 x21 x22 x23 x24 x25 y : Option V} {v : V} {r : L2.St} {H : Hp} {N : L2.St → Hp → Prop} : Step (gName 26 v (x0 :: x1 :: x2 :: x3 :: x4 :: x5 :: x6 :: x7 :: x8 :: x9 :: x10 :: x11 :: x12 :: x13 :: x14 :: x15 :: x16 :: x17 :: x18 :: x19 :: x20 :: x21 :: x22 :: x23 :: x24 :: x25 :: y :: r) H N) (N (x0 :: x1 :: x2 :: x3 :: x4 :: x5 :: x6 :: x7 :: x8 :: x9 :: x10 :: x11 :: x12 :: x13 :: x14 :: x15 :: x16 :: x17 :: x18 :: x19 :: x20 :: x21 :: x22 :: x23 :: x24 :: x25 :: some v :: r) H) := ⟨fun z => g_n26 z⟩
theorem g_v27 {x0 x1 x2 x3 x4 x5 x6 x7 x8 x9 x10 x11 x12 x13 x14 x15 x16 x17 x18 x19 x20 x21 x22 x23 x24 x25 x26 : Option V} {v : V} {r : L2.St} {H : Hp} {Q : VK} (h : Q v H) : tVar 27 (x0 :: x1 :: x2 :: x3 :: x4 :: x5 :: x6 :: x7 :: x8 :: x9 :: x10 :: x11 :: x12 :: x13 :: x14 :: x15 :: x16 :: x17 :: x18 :: x19 :: x20 :: x21 :: x22 :: x23 :: x24 :: x25 :: x26 :: some v :: r) H Q := ⟨v, rfl, h⟩
instance st_g_v27 {x0 x1 x2 x3 x4 x5 x6 x7 x8 x9 x10 x11 x12 x13 x14 x15 x16 x17 x18 x19 x20 x21 x22 x23 x24 x25 x26 : Option V} {v : V} {r : L2.St} {H : Hp} {Q : VK} : Step (tVar 27 (x0 :: x1 :: x2 :: x3 :: x4 :: x5 :: x6 :: x7 :: x8 :: x9 :: x10 :: x11 :: x12 :: x13 :: x14 :: x15 :: x16 :: x17 :: x18 :: x19 :: x20 :: x21 :: x22 :: x23 :: x24 :: x25 :: x26 :: some v :: r) H Q) (Q v H) := ⟨fun z => g_v27 z⟩
theorem g_n27 {x0 x1 x2 x3 x4 x5 x6 x7 x8 x9 x10 x11 x12 x13 x14 x15 x16 x17 x18 x19 x20 x21 x22 x23 x24 x25 x26 y : Option V} {v : V} {r : L2.St} {H : Hp} {N : L2.St → Hp → Prop} (h : N (x0 :: x1 :: x2 :: x3 :: x4 :: x5 :: x6 :: x7 :: x8 :: x9 :: x10 :: x11 :: x12 :: x13 :: x14 :: x15 :: x16 :: x17 :: x18 :: x19 :: x20 :: x21 :: x22 :: x23 :: x24 :: x25 :: x26 :: some v :: r) H) : gName 27 v (x0 :: x1 :: x2 :: x3 :: x4 :: x5 :: x6 :: x7 :: x8 :: x9 :: x10 :: x11 :: x12 :: x13 :: x14 :: x15 :: x16 :: x17 :: x18 :: x19 :: x20 :: x21 :: x22 :: x23 :: x24 :: x25 :: x26 :: y :: r) H N := h
instance st_g_n27 {x0 x1 x2 x3 x4 x5 x6 x7 x8 x9 x10 x11 x12 x13 x14 x15 x16 x17 x18 x19 x20 x21 x22 x23 x24 x25 x26 y : Option V} {v : V} {r : L2.St} {H : Hp} {N : L2.St → Hp → Prop} : Step (gName 27 v (x0 :: x1 :: x2 :: x3 :: x4 :: x5 :: x6 :: x7 :: x8 :: x9 :: x10 :: x11 :: x12 :: x13 :: x14 :: x15 :: x16 :: x17 :: x18 :: x19 :: x20 :: x21 :: x22 :: x23 :: x24 :: x25 :: x26 :: y :: r) H N) (N (x0 :: x1 :: x2 :: x3 :: x4 :: x5 :: x6 :: x7 :: x8 :: x9 :: x10 :: x11 :: x12 :: x13 :: x14 :: x15 :: x16 :: x17 :: x18 :: x19 :: x20 :: x21 :: x22 :: x23 :: x24 :: x25 :: x26 :: some v :: r) H) := ⟨fun z => g_n27 z⟩
theorem g_v28 {x0 x1 x2 x3 x4 x5 x6 x7 x8 x9 x10 x11 x12 x13 x14 x15 x16 x17 x18 x19 x20 x21 x22 x23 x24 x25 x26 x27 : Option V} {v : V} {r : L2.St} {H : Hp} {Q : VK} (h : Q v H) : tVar 28 (x0 :: x1 :: x2 :: x3 :: x4 :: x5 :: x6 :: x7 :: x8 :: x9 :: x10 :: x11 :: x12 :: x13 :: x14 :: x15 :: x16 :: x17 :: x18 :: x19 :: x20 :: x21 :: x22 :: x23 :: x24 :: x25 :: x26 :: x27 :: some v :: r) H Q := ⟨v, rfl, h⟩
instance st_g_v28 {x0 x1 x2 x3 x4 x5 x6 x7 x8 x9 x10 x11 x12 x13 x14 x15 x16 x17 x18 x19 x20 x21 x22 x23 x24 x25 x26 x27 : Option V} {v : V} {r : L2.St} {H : Hp} {Q : VK} : Step (tVar 28 (x0 :: x1 :: x2 :: x3 :: x4 :: x5 :: x6 :: x7 :: x8 :: x9 :: x10 :: x11 :: x12 :: x13 :: x14 :: x15 :: x16 :: x17 :: x18 :: x19 :: x20 :: x21 :: x22 :: x23 :: x24 :: x25 :: x26 :: x27 :: some v :: r) H Q) (Q v H) := ⟨fun z => g_v28 z⟩
theorem g_n28 {x0 x1 x2 x3 x4 x5 x6 x7 x8 x9 x10 x11 x12 x13 x14 x15 x16 x17 x18 x19 x20 x21 x22 x23 x24 x25 x26 x27 y : Option V} {v : V} {r : L2.St} {H : Hp} {N : L2.St → Hp → Prop} (h : N (x0 :: x1 :: x2 :: x3 :: x4 :: x5 :: x6 :: x7 :: x8 :: x9 :: x10 :: x11 :: x12 :: x13 :: x14 :: x15 :: x16 :: x17 :: x18 :: x19 :: x20 :: x21 :: x22 :: x23 :: x24 :: x25 :: x26 :: x27 :: some v :: r) H) : gName 28 v (x0 :: x1 :: x2 :: x3 :: x4 :: x5 :: x6 :: x7 :: x8 :: x9 :: x10 :: x11 :: x12 :: x13 :: x14 :: x15 :: x16 :: x17 :: x18 :: x19 :: x20 :: x21 :: x22 :: x23 :: x24 :: x25 :: x26 :: x27 :: y :: r) H N := h
instance st_g_n28 {x0 x1 x2 x3 x4 x5 x6 x7 x8 x9 x10 x11 x12 x13 x14 x15 x16 x17 x18 x19 x20 x21 x22 x23 x24 x25 x26 x27 y : Option V} {v : V} {r : L2.St} {H : Hp} {N : L2.St → Hp → Prop} : Step (gName 28 v (x0 :: x1 :: x2 :: x3 :: x4 :: x5 :: x6 :: x7 :: x8 :: x9 :: x10 :: x11 :: x12 :: x13 :: x14 :: x15 :: x16 :: x17 :: x18 :: x19 :: x20 :: x21 :: x22 :: x23 :: x24 :: x25 :: x26 :: x27 :: y :: r) H N) (N (x0 :: x1 :: x2 :: x3 :: x4 :: x5 :: x6 :: x7 :: x8 :: x9 :: x10 :: x11 :: x12 :: x13 :: x14 :: x15 :: x16 :: x17 :: x18 :: x19 :: x20 :: x21 :: x22 :: x23 :: x24 :: x25 :: x26 :: x27 :: some v :: r) H) := ⟨fun z => g_n28 z⟩
theorem g_v29 {x0 x1 x2 x3 x4 x5 x6 x7 x8 x9 x10 x11 x12 x13 x14 x15 x16 x17 x18 x19 x20 x21 x22 x23 x24 x25 x26 x27 x28 : Option V} {v : V} {r : L2.St} {H : Hp} {Q : VK} (h : Q v H) : tVar 29 (x0 :: x1 :: x2 :: x3 :: x4 :: x5 :: x6 :: x7 :: x8 :: x9 :: x10 :: x11 :: x12 :: x13 :: x14 :: x15 :: x16 :: x17 :: x18 :: x19 :: x20 :: x21 :: x22 :: x23 :: x24 :: x25 :: x26 :: x27 :: x28 :: some v :: r) H Q := ⟨v, rfl, h⟩
instance st_g_v29 {x0 x1 x2 x3 x4 x5 x6 x7 x8 x9 x10 x11 x12 x13 x14 x15 x16 x17 x18 x19 x20 x21 x22 x23 x24 x25 x26 x27 x28 : Option V} {v : V} {r : L2.St} {H : Hp} {Q : VK} : Step (tVar 29 (x0 :: x1 :: x2 :: x3 :: x4 :: x5 :: x6 :: x7 :: x8 :: x9 :: x10 :: x11 :: x12 :: x13 :: x14 :: x15 :: x16 :: x17 :: x18 :: x19 :: x20 :: x21 :: x22 :: x23 :: x24 :: x25 :: x26 :: x27 :: x28 :: some v :: r) H Q) (Q v H) := ⟨fun z => g_v29 z⟩
theorem g_n29 {x0 x1 x2 x3 x4 x5 x6 x7 x8 x9 x10 x11 x12 x13 x14 x15 x16 x17 x18 x19 x20 x21 x22 x23 x24 x25 x26 x27 x28 y : Option V} {v : V} {r : L2.St} {H : Hp} {N : L2.St → Hp → Prop} (h : N (x0 :: x1 :: x2 :: x3 :: x4 :: x5 :: x6 :: x7 :: x8 :: x9 :: x10 :: x11 :: x12 :: x13 :: x14 :: x15 :: x16 :: x17 :: x18 :: x19 :: x20 :: x21 :: x22 :: x23 :: x24 :: x25 :: x26 :: x27 :: x28 :: some v :: r) H) : gName 29 v (x0 :: x1 :: x2 :: x3 :: x4 :: x5 :: x6 :: x7 :: x8 :: x9 :: x10 :: x11 :: x12 :: x13 :: x14 :: x15 :: x16 :: x17 :: x18 :: x19 :: x20 :: x21 :: x22 :: x23 :: x24 :: x25 :: x26 :: x27 :: x28 :: y :: r) H N := h
instance st_g_n29 {x0 x1 x2 x3 x4 x5 x6 x7 x8 x9 x10 x11 x12 x13 x14 x15 x16 x17 x18 x19 x20 x21 x22 x23 x24 x25 x26 x27 x28 y : Option V} {v : V} {r : L2.St} {H : Hp} {N : L2.St → Hp → Prop} : Step (gName 29 v (x0 :: x1 :: x2 :: x3 :: x4 :: x5 :: x6 :: x7 :: x8 :: x9 :: x10 :: x11 :: x12 :: x13 :: x14 :: x15 :: x16 :: x17 :: x18 :: x19 :: x20 :: x21 :: x22 :: x23 :: x24 :: x25 :: x26 :: x27 :: x28 :: y :: r) H N) (N (x0 :: x1 :: x2 :: x3 :: x4 :: x5 :: x6 :: x7 :: x8 :: x9 :: x10 :: x11 :: x12 :: x13 :: x14 :: x15 :: x16 :: x17 :: x18 :: x19 :: x20 :: x21 :: x22 :: x23 :: x24 :: x25 :: x26 :: x27 :: x28 :: some v :: r) H) := ⟨fun z => g_n29 z⟩
theorem g_v30 {x0 x1 x2 x3 x4 x5 x6 x7 x8 x9 x10 x11 x12 x13 x14 x15 x16 x17 x18 x19 x20 x21 x22 x23 x24 x25 x26 x27 x28 x29 : Option V} {v : V} {r : L2.St} {H : Hp} {Q : VK} (h : Q v H) : tVar 30 (x0 :: x1 :: x2 :: x3 :: x4 :: x5 :: x6 :: x7 :: x8 :: x9 :: x10 :: x11 :: x12 :: x13 :: x14 :: x15 :: x16 :: x17 :: x18 :: x19 :: x20 :: x21 :: x22 :: x23 :: x24 :: x25 :: x26 :: x27 :: x28 :: x29 :: some v :: r) H Q := ⟨v, rfl, h⟩
instance st_g_v30 {x0 x1 x2 x3 x4 x5 x6 x7 x8 x9 x10 x11 x12 x13 x14 x15 x16 x17 x18 x19 x20 x21 x22 x23 x24 x25 x26 x27 x28 x29 : Option V} {v : V} {r : L2.St} {H : Hp} {Q : VK} : Step (tVar 30 (x0 :: x1 :: x2 :: x3 :: x4 :: x5 :: x6 :: x7 :: x8 :: x9 :: x10 :: x11 :: x12 :: x13 :: x14 :: x15 :: x16 :: x17 :: x18 :: x19 :: x20 :: x21 :: x22 :: x23 :: x24 :: x25 :: x26 :: x27 :: x28 :: x29 :: some v :: r) H Q) (Q v H) := ⟨fun z => g_v30 z⟩
theorem g_n30 {x0 x1 x2 x3 x4 x5 x6 x7 x8 x9 x10 x11 x12 x13 x14 x15 x16 x17 x18 x19 x20 x21 x22 x23 x24 x25 x26 x27 x28 x29 y : Option V} {v : V} {r : L2.St} {H : Hp} {N : L2.St → Hp → Prop} (h : N (x0 :: x1 :: x2 :: x3 :: x4 :: x5 :: x6 :: x7 :: x8 :: x9 :: x10 :: x11 :: x12 :: x13 :: x14 :: x15 :: x16 :: x17 :: x18 :: x19 :: x20 :: x21 :: x22 :: x23 :: x24 :: x25 :: x26 :: x27 :: x28 :: x29 :: some v :: r) H) : gName 30 v (x0 :: x1 :: x2 :: x3 :: x4 :: x5 :: x6 :: x7 :: x8 :: x9 :: x10 :: x11 :: x12 :: x13 :: x14 :: x15 :: x16 :: x17 :: x18 :: x19 :: x20 :: x21 :: x22 :: x23 :: x24 :: x25 :: x26 :: x27 :: x28 :: x29 :: y :: r) H N := h
instance st_g_n30 {x0 x1 x2 x3 x4 x5 x6 x7 x8 x9 x10 x11 x12 x13 x14 x15 x16 x17 x18 x19 x20 x21 x22 x23 x24 x25 x26 x27 x28 x29 y : Option V} {v : V} {r : L2.St} {H : Hp} {N : L2.St → Hp → Prop} : Step (gName 30 v (x0 :: x1 :: x2 :: x3 :: x4 :: x5 :: x6 :: x7 :: x8 :: x9 :: x10 :: x11 :: x12 :: x13 :: x14 :: x15 :: x16 :: x17 :: x18 :: x19 :: x20 :: x21 :: x22 :: x23 :: x24 :: x25 :: x26 :: x27 :: x28 :: x29 :: y :: r) H N) (N (x0 :: x1 :: x2 :: x3 :: x4 :: x5 :: x6 :: x7 :: x8 :: x9 :: x10 :: x11 :: x12 :: x13 :: x14 :: x15 :: x16 :: x17 :: x18 :: x19 :: x20 :: x21 :: x22 :: x23 :: x24 :: x25 :: x26 :: x27 :: x28 :: x29 :: some v :: r) H) := ⟨fun z => g_n30 z⟩
theorem g_v31 {x0 x1 x2 x3 x4 x5 x6 x7 x8 x9 x10 x11 x12 x13 x14 x15 x16 x17 x18 x19 x20 x21 x22 x23 x24 x25 x26 x27 x28 x29 x30 : Option V} {v : V} {r : L2.St} {H : Hp} {Q : VK} (h : Q v H) : tVar 31 (x0 :: x1 :: x2 :: x3 :: x4 :: x5 :: x6 :: x7 :: x8 :: x9 :: x10 :: x11 :: x12 :: x13 :: x14 :: x15 :: x16 :: x17 :: x18 :: x19 :: x20 :: x21 :: x22 :: x23 :: x24 :: x25 :: x26 :: x27 :: x28 :: x29 :: x30 :: some v :: r) H Q := ⟨v, rfl, h⟩
instance st_g_v31 {x0 x1 x2 x3 x4 x5 x6 x7 x8 x9 x10 x11 x12 x13 x14 x15 x16 x17 x18 x19 x20 x21 x22 x23 x24 x25 x26 x27 x28 x29 x30 : Option V} {v : V} {r : L2.St} {H : Hp} {Q : VK} : Step (tVar 31 (x0 :: x1 :: x2 :: x3 :: x4 :: x5 :: x6 :: x7 :: x8 :: x9 :: x10 :: x11 :: x12 :: x13 :: x14 :: x15 :: x16 :: x17 :: x18 :: x19 :: x20 :: x21 :: x22 :: x23 :: x24 :: x25 :: x26 :: x27 :: x28 :: x29 :: x30 :: some v :: r) H Q) (Q v H) := ⟨fun z => g_v31 z⟩
theorem g_n31 {x0 x1 x2 x3 x4 x5 x6 x7 x8 x9 x10 x11 x12 x13 x14 x15 x16 x17 x18 x19 x20 x21 x22 x23 x24 x25 x26 x27 x28 x29 x30 y : Option V} {v : V} {r : L2.St} {H : Hp} {N : L2.St → Hp → Prop} (h : N (x0 :: x1 :: x2 :: x3 :: x4 :: x5 :: x6 :: x7 :: x8 :: x9 :: x10 :: x11 :: x12 :: x13 :: x14 :: x15 :: x16 :: x17 :: x18 :: x19 :: x20 :: x21 :: x22 :: x23 :: x24 :: x25 :: x26 :: x27 :: x28 :: x29 :: x30 :: some v :: r) H) : gName 31 v (x0 :: x1 :: x2 :: x3 :: x4 :: x5 :: x6 :: x7 :: x8 :: x9 :: x10 :: x11 :: x12 :: x13 :: x14 :: x15 :: x16 :: x17 :: x18 :: x19 :: x20 :: x21 :: x22 :: x23 :: x24 :: x25 :: x26 :: x27 :: x28 :: x29 :: x30 :: y :: r) H N := h
instance st_g_n31 {x0 x1 x2 x3 x4 x5 x6 x7 x8 x9 x10 x11 x12 x13 x14 x15 x16 x17 x18 x19 x20 x21 x22 x23 x24 x25 x26 x27 x28 x29 x30 y : Option V} {v : V} {r : L2.St} {H : Hp} {N : L2.St → Hp → Prop} : Step (gName 31 v (x0 :: x1 :: x2 :: x3 :: x4 :: x5 :: x6 :: x7 :: x8 :: x9 :: x10 :: x11 :: x12 :: x13 :: x14 :: x15 :: x16 :: x17 :: x18 :: x19 :: x20 :: x21 :: x22 :: x23 :: x24 :: x25 :: x26 :: x27 :: x28 :: x29 :: x30 :: y :: r) H N) (N (x0 :: x1 :: x2 :: x3 :: x4 :: x5 :: x6 :: x7 :: x8 :: x9 :: x10 :: x11 :: x12 :: x13 :: x14 :: x15 :: x16 :: x17 :: x18 :: x19 :: x20 :: x21 :: x22 :: x23 :: x24 :: x25 :: x26 :: x27 :: x28 :: x29 :: x30 :: some v :: r) H) := ⟨fun z => g_n31 z⟩
end
end Q
-- step instances

set_option Elab.async false
set_option linter.all false
set_option maxRecDepth 100000
set_option maxHeartbeats 4000000
/-! sorted(x) of a list or a tuple of whole numbers; tuple(x) of a list or a tuple -/
namespace SrtO
open PySem PyProof.Rows Srt
section
variable {prog : Program} {w : World} {A : Around} {E : Value → Shared → Prop} {s : Shared}
theorem sorted_seqI {l : Addr} {o : Obj} {T : String} {n : Nat} {vs : List Value} {ns : List Int} {Q : Value → Shared → Prop} (hT : T = "list" ∨ T = "tuple") (ho : s.heap.get? l = some o) (hc : o.cls = .type T) (hd : o.data = .seq vs.toArray n) (hI : IntsAre vs ns) (hz : vs.length ≤ sizeLine)
    (h : ∀ (out : List Value) (ns' : List Int) (h1 h' : Heap) (e : Nat), IntsAre out ns' → ns'.Perm ns → ns'.Pairwise (· ≤ ·) → (∀ b ob, s.heap.get? b = some ob → h1.get? b = some ob) → (∀ b ob, h1.get? b = some ob → h'.get? b = some ob) → h'.get? h1.objs.size = some (seqObj "list" out.toArray e) → Q (.ref h1.objs.size) { s with heap := h' }) :
    wpAny (model prog w) A (call (.builtin "sorted") [.ref l]) Q E s := by
  refine Calls.call_function_entry kind_sorted plain_sorted entry_sorted (args_sorted1 _) ?_
  unfold Builtin.«sorted»
  refine wpAny_bind (m := checkCount "sorted" 1 1 _) (wpAny_pure ?_)
  refine wpAny_bind (wpAny_collect_seq l hT ho hc hd (fun h1 k1 => ?_) (by rw [List.size_toArray]; exact hz))
  rw [show vs.toArray.toList = vs by simp]
  refine wpAny_bind (wpAny_newList ?_ hz)
  have hoL : (h1.push (seqObj "list" vs.toArray 0)).get? h1.objs.size = some (seqObj "list" vs.toArray 0) := Heap.get?_push_size _ rfl
  show wpAny _ _ _ _ _ { s with heap := h1.push (seqObj "list" vs.toArray 0) }
  refine wpAny_bind (wpAny_holding (wpAny_call_entry slot_list_sort ⟨_, hoL, rfl⟩ entry_list_sort (list_sort_ord swo_int hoL hz (fun h2 => ints_sortable hI h2) fun out hs hb => ⟨_, rfl, ?_⟩) (args_list_sort _)))
  obtain ⟨g1, g2, g3⟩ := ints_out hI hs hb
  obtain ⟨ep, he'⟩ := PyProof.Rows.sortedHeap_at (vs := vs) (out := out.toArray) hoL
  refine wpAny_pure ⟨_, rfl, h out _ h1 _ ep g1 g2 g3 k1 (fun b ob hb2 => ?_) he'⟩
  have lt1 : b < h1.objs.size := Heap.lt_size hb2
  rw [PyProof.Rows.sortedHeap_old (Nat.ne_of_lt lt1) (by rw [size_push']; exact Nat.lt_succ_of_lt lt1)]
  exact Heap.get?_push_of_some _ hb2
end
end SrtO
namespace Q
open PySem PySem.Spec PyProof.Rows L2
/-- sorted(x), x a list or a tuple of whole numbers -/
def qSortB (K : PySem.W.Frag) : List V → Hp → VK → Prop := fun vs H Q => ∃ (a : Addr) (ns : List Int), vs = [V.ref a] ∧ (SqL K H a (ns.map V.int) ∨ SqT K H a (ns.map V.int)) ∧
  ∀ (ns' : List Int) (p : Addr), ns'.Perm ns → ns'.Pairwise (· ≤ ·) → H p = none → Q (.ref p) (upd H p (.lst (ns'.map V.int)))
theorem c_sortB {X : Cx} : CallR X (.builtin "sorted") (qSortB X.K) := by
  intro pins s σ H vs us Q I r h
  obtain ⟨a, ns, rfl, hs, q⟩ := h
  rw [Vals.ref1 r]
  have fin : ∀ {its : List Value}, Vals (ns.map V.int) its → its.length ≤ sizeLine → ∀ (out : List Value) (ns' : List Int) (h1 h' : Heap) (e : Nat), IntsAre out ns' → ns'.Perm ns → ns'.Pairwise (· ≤ ·) → (∀ b ob, s.heap.get? b = some ob → h1.get? b = some ob) → (∀ b ob, h1.get? b = some ob → h'.get? b = some ob) → h'.get? h1.objs.size = some (seqObj "list" out.toArray e) → EP X pins σ Q (.ref h1.objs.size) { s with heap := h' } := by
    intro its rv hz out ns' h1 h' e g1 g2 g3 k1 k2 he'
    have I1 : Inv X pins σ H { s with heap := h1 } := I.kept (t' := s.toks) k1
    have hlen : (ns'.map V.int).length ≤ sizeLine := by
      rw [List.length_map, g2.length_eq]
      have e3 := rv.length
      rw [List.length_map] at e3
      omega
    exact ⟨.ref _, upd H h1.objs.size (.lst (ns'.map V.int)), I1.laid (t' := s.toks) k2 (Nat.le_refl _) ⟨hlen, out, e, vals_of_ints g1, he'⟩, rfl, q _ _ g2 g3 (I1.hok.fresh (Nat.le_refl _))⟩
  rcases hs with hs | hs
  · obtain ⟨its, rv, hl, hz⟩ := I.list hs
    obtain ⟨o, ho, hc, n, hd⟩ := hl.isList
    have hz2 : its.length ≤ sizeLine := by rw [← rv.length]; exact hz
    exact SrtO.sorted_seqI (.inl rfl) ho hc hd rv.ints hz2 (fin rv hz2)
  · obtain ⟨its, rv, hl, hz⟩ := I.tuple hs
    have hT : s.heap.IsTuple a its.toArray := hl
    obtain ⟨o, ho, hc, n, hd⟩ := hT
    have hz2 : its.length ≤ sizeLine := by rw [← rv.length]; exact hz
    exact SrtO.sorted_seqI (.inr rfl) ho hc hd rv.ints hz2 (fin rv hz2)
theorem k_sortB {X : Cx} {K : PySem.W.Frag} (e : X.K = K) : CallR X (.builtin "sorted") (qSortB K) := by subst e; exact c_sortB
theorem g_sortB {K : PySem.W.Frag} {H : Hp} {Q : VK} {a : Addr} {ns : List Int} (h : SqL K H a (ns.map V.int) ∨ SqT K H a (ns.map V.int)) (q : ∀ (ns' : List Int) (p : Addr), ns'.Perm ns → ns'.Pairwise (· ≤ ·) → H p = none → Q (.ref p) (upd H p (.lst (ns'.map V.int)))) : qSortB K [.ref a] H Q := ⟨a, ns, rfl, h, q⟩
/-- tuple(x), x a list or a tuple -/
def qTupB (K : PySem.W.Frag) : List V → Hp → VK → Prop := fun xs H Q => ∃ p ys, xs = [.ref p] ∧ ((SqL K H p ys ∧ ∀ l, H l = none → Q (.ref l) (upd H l (.tup ys))) ∨ (SqT K H p ys ∧ Q (.ref p) H))
theorem k_tupleB {X : Cx} {K : PySem.W.Frag} (e : X.K = K) : CallR X (.type "tuple") (qTupB K) := by subst e; exact call_tuple_of
theorem g_tupBL {K : PySem.W.Frag} {H : Hp} {Q : VK} {p : Addr} {ys : List V} (h : SqL K H p ys) (q : ∀ l, H l = none → Q (.ref l) (upd H l (.tup ys))) : qTupB K [.ref p] H Q := ⟨p, ys, rfl, .inl ⟨h, q⟩⟩
theorem g_tupBT {K : PySem.W.Frag} {H : Hp} {Q : VK} {p : Addr} {ys : List V} (h : SqT K H p ys) (q : Q (.ref p) H) : qTupB K [.ref p] H Q := ⟨p, ys, rfl, .inr ⟨h, q⟩⟩
/-- either way: the answer is a tuple of the same values -/
theorem g_tupB {K : PySem.W.Frag} {H : Hp} {Q : VK} {p : Addr} {ys : List V} (h : SqL K H p ys ∨ SqT K H p ys) (q : ∀ l H', SqT K H' l ys → Same H H' → Q (.ref l) H') : qTupB K [.ref p] H Q := by
  rcases h with h | h
  · exact g_tupBL h fun l hl => q l _ (.inl (.inl upd_same)) (same_new hl)
  · exact g_tupBT h (q p H h fun _ _ e => e)
end Q

set_option Elab.async false
set_option linter.all false
set_option maxRecDepth 100000
set_option maxHeartbeats 4000000
/-! repr of nested data: promises that hold where no repr is under way -/
namespace Q
open PySem PySem.Spec PyProof.Rows L2
/-- a promise of a def that is called where no repr is under way -/
structure FnG (P : Program) (w : World) (K : PySem.W.Frag) (mg : Str → Option Value) (base : Heap) (CX : CXT) (k : Nat) (f : Addr) (fd : FuncData) (ps : List Str) (sp : Sp) : Prop where
  len : ∀ vs H Q E, sp vs H Q E → vs.length = ps.length
  run : ∀ (A : Around) (outer : List Env) (s : Shared) (H : Hp) (args : Args) (us : List Value) (vs : List V) (Q : VK) (E : XK), Room k A → A.guards = some [] → Env0 P w K mg base A outer s H → BindsTo s fd args (ps.zip us) → Vals vs us → sp vs H Q E →
    codeAny (model P w) A (.call (.ref f) args) (CR CX outer P w H s Q E) s
theorem FnOk.g {P : Program} {w : World} {K : PySem.W.Frag} {mg : Str → Option Value} {base : Heap} {CX : CXT} {k : Nat} {f : Addr} {fd : FuncData} {ps : List Str} {sp : Sp} (F : FnOk P w K mg base CX k f fd ps sp) : FnG P w K mg base CX k f fd ps sp :=
  ⟨F.len, fun A outer s H args us vs Q E hr _ => F.run A outer s H args us vs Q E hr⟩
theorem FnG.mono {P : Program} {w : World} {K : PySem.W.Frag} {mg : Str → Option Value} {base : Heap} {CX : CXT} {j k : Nat} {f : Addr} {fd : FuncData} {ps : List Str} {sp : Sp} (F : FnG P w K mg base CX j f fd ps sp) (h : j ≤ k) : FnG P w K mg base CX k f fd ps sp :=
  ⟨F.len, fun A outer s H args us vs Q E hr => F.run A outer s H args us vs Q E (hr.mono h)⟩
theorem FunD.okG {CX : CXT} {P : Program} {w : World} {K : PySem.W.Frag} {mg : Str → Option Value} {base : Heap} {x qual : Str} {params : Arguments} {body : List Stmt} {scope : Scope} {dvs : List V} {kws : List (Str × V)} {f : Addr} {fd : FuncData} {N ps : List Str} {k : Nat} {sp : Sp}
    (F : FunD K x qual params body scope dvs kws f fd) (S : FnScope N ps scope) (len : ∀ vs H Q E, sp vs H Q E → vs.length = ps.length)
    (walk : ∀ (cdv : Value) (A : Around) (outer : List Env) (s : Shared) (H : Hp) (vs : List V) (Q : VK) (E : XK), Room k (A.deeper (envOfC qual scope s.heap.objs.size f cdv)) → A.guards = some [] → sp vs H Q E →
      ∃ t, PSs (cxOf CX P w K mg base N qual scope f cdv A outer s H E) body t ∧ t { nx := fun _ H' => Q .non H', rt := Q } (L2.start N vs) H) : FnG P w K mg base CX (k + 1) f fd ps sp := by
  obtain ⟨oc, od, dV, kV, doc, pm, an, cdv, ct, osl, rfl, lk, hcd, _, _⟩ := F.ex
  refine ⟨len, ?_⟩
  intro A outer s H args us vs Q E room gd e0 bnd rel wish
  have Kin : K.In s.heap := e0.mod.kin.keeps fun b o z => (e0.bs b o z).1
  have kinds : ∀ y ∈ ps.zip us, scope.names.lookup y.1 = some .local ∨ (scope.names.lookup y.1 = some .cell ∧ ((cellsFrom (s.heap.objs.size + 1) scope.names []).lookup y.1).isSome = true) := by
    rintro ⟨n, v⟩ hy
    exact (S.par n (List.of_mem_zip hy).1).elim .inl fun q => .inr ⟨q, PySem.W.cellsFrom_some _ _ _ (.inl q)⟩
  have dp : A.depth < recursionLimit := room.depth
  refine codeAny_call_function dp (Kin _ _ lk) rfl S.co S.gen rfl (PySem.W.codeRec_of Kin hcd) (bnd _ _ _ _ (wpAny_newFunctionEnv_cells S.kind kinds fun env he s1 ic => ?_))
  subst he
  refine ⟨(e0.mod.nolimit.keeps fun b o z => (e0.bs b o z).1).keeps ic.toInCall.keep, codeAny_func ?_⟩
  obtain ⟨t, ht, hq⟩ := walk cdv A outer s H vs Q E (room.deeper _) gd wish
  have I0 := inv_start (CX := CX) (A := A) (E := E) S room.hd e0 (len _ _ _ _ wish) rel ic
  refine wpAny_mono (ht.run [] s1 (L2.start N vs) H _ I0 hq) (fun fl s' hs => ?_) fun e s' hs => hs
  cases fl with
  | ret u =>
    obtain ⟨v, σ', H', J, rv, q⟩ := hs
    exact ⟨v, H', J.os, J.bare, J.base, J.hok, rv, q⟩
  | next =>
    obtain ⟨σ', H', J, q⟩ := hs
    exact ⟨V.non, H', J.os, J.bare, J.base, J.hok, rfl, q⟩
  | brk => exact hs.choose_spec.choose_spec.2.elim
  | cont => exact hs.choose_spec.choose_spec.2.elim
/-- what a caller needs of a def without defaults, where no repr is under way -/
structure CalG (P : Program) (w : World) (K : PySem.W.Frag) (mg : Str → Option Value) (base : Heap) (x : Str) (k : Nat) (ps : List Str) (sp : Sp) : Prop where
  ex : ∃ (f : Addr) (fd : FuncData), FnG P w K mg base CX0 k f fd ps sp ∧ mg x = some (.ref f) ∧ PySem.W.keepIn K (.ref f) = true ∧ Binds K fd ps []
theorem calg_mk {P : Program} {w : World} {K : PySem.W.Frag} {mg : Str → Option Value} {base : Heap} {x q : Str} {pa : Arguments} {bd : List Stmt} {sc : Scope} {dv : List V} {kw : List (Str × V)} {k : Nat} {ps : List Str} {sp : Sp}
    (h : ∃ (f : Addr) (fd : FuncData), FunD K x q pa bd sc dv kw f fd ∧ mg x = some (.ref f))
    (ok : ∀ {f : Addr} {fd : FuncData}, FunD K x q pa bd sc dv kw f fd → FnG P w K mg base CX0 k f fd ps sp)
    (b : ∀ {f : Addr} {fd : FuncData}, FunD K x q pa bd sc dv kw f fd → Binds K fd ps []) : CalG P w K mg base x k ps sp := by
  obtain ⟨f, fd, F, m⟩ := h
  exact ⟨f, fd, ok F, m, F.kp, b F⟩
section
variable {X : Cx} {x : Str} {k : Nat} {ps : List Str} {sp : Sp} {e : Expr} {es : List Expr} {t : TA} {p pos : Pos}
theorem run_fnG {f : Addr} {fd : FuncData} {pins : List (Addr × Obj)} {σ : L2.St} {H : Hp} {s : Shared} {Q : VK} {us : List Value} {vs : List V} (F : FnG X.prog X.w X.K X.mg X.base CX0 k f fd ps sp) (room : Room k X.A) (gd : X.A.guards = some []) (hb : Binds X.K fd ps [])
    (I : Inv X pins σ H s) (r : Vals vs us) (h : sp vs H Q E0) : wpAny (model X.prog X.w) X.A (call (.ref f) us) (EP X pins σ Q) X.xe s := by
  have bd : BindsTo s fd ⟨us, []⟩ (ps.zip us) := by
    have z := hb s us I.kIn (by rw [List.append_nil, ← r.length]; exact F.len _ _ _ _ h)
    rwa [List.append_nil] at z
  refine wpAny_call (codeAny_mono (F.run X.A X.stack s H ⟨us, []⟩ us vs Q E0 room gd I.env0 bd r h) fun res s' hq => ?_)
  cases res with
  | error er => exact pass0 pins σ H s er s' I hq
  | ok fl =>
    cases fl with
    | ret u => exact I.after hq
    | _ => exact hq.elim
theorem pe_calG (C : CalG X.prog X.w X.K X.mg X.base x k ps sp) (room : Room k X.A) (gd : X.A.guards = some []) (hg : Gl X x) (ha : PA X (e :: es) t)
    (hd : (x == ("__debug__" : Str)) = false := by decide) (he : starEach (e :: es) X.env = (false, eval e X.env) :: starEach es X.env := by rfl) (hl : (backTo pos (starEach es X.env)).any (·.1) = false := by rfl) :
    PE X (.Call (.Name x p) (e :: es) [] pos) (tCall sp [] E0 t) := by
  obtain ⟨f, fd, F, hm, hk, hb⟩ := C.ex
  refine ⟨fun pins s σ H Q I h => wpAny_Call_Name_kw (ld_glob I hg hm ?_ hd)⟩
  refine PySem.W.callWith_K (h₀ := X.base) I.ok.mod.kin hk (thn (ha.run pos pins s σ H _ I h) fun us s1 z => ?_) he hl
  obtain ⟨vs, H1, I1, r, q⟩ := z
  exact ⟨I1.kIn, run_fnG F room gd hb I1 r (by rwa [List.append_nil] at q)⟩
end
/-! repr -/
def qReprD (K : PySem.W.Frag) : List V → Hp → VK → Prop := fun xs H Q => ∃ x d, xs = [x] ∧ Dp K H x d ∧ d.showable = true ∧ d.hasDict = false ∧ d.depth ≤ 60 ∧ d.shown.length ≤ sizeLine ∧ Q (.str d.shown) H
theorem call_reprD {X : Cx} (gd : X.A.guards = some []) (hu : X.A.units + 64 < cLine) : CallR X (.builtin "repr") (qReprD X.K) := by
  intro pins s σ H xs us Q I r h
  obtain ⟨x, d, rfl, hx, h1, h2, h3, h4, q⟩ := h
  obtain ⟨u, rfl, ru⟩ := vals1 r
  have deep : ∀ {a : Addr} {as : List Addr}, Reads s.heap (.ref a) d as → wpAny (model X.prog X.w) X.A (call (.builtin "repr") [.ref a]) (EP X pins σ Q) X.xe s := fun rd =>
    repr_of_reads' rd h1 (PyData.noDict_hsm h2) gd (by omega) (fun _ _ z => z) (fun h' u tk kp => ⟨.str d.shown, H, I.kept (t' := tk) kp, ⟨_, rfl⟩, q⟩) h4
  cases hx with
  | non =>
    cases ru
    exact PySem.P.repr_of_none ⟨.str _, H, I.tok _, ⟨_, rfl⟩, q⟩
  | bl b =>
    cases ru
    exact PySem.P.repr_of_bool ⟨.str _, H, I.tok _, ⟨_, rfl⟩, q⟩
  | int i =>
    obtain ⟨t, rfl⟩ := ru
    exact PySem.P.repr_of_int (of_decide_eq_true h1) ⟨.str _, H, I.tok _, ⟨_, rfl⟩, q⟩
  | str z =>
    obtain ⟨t, rfl⟩ := ru
    exact PySem.P.repr_of_str ⟨.str _, H, I.tok _, ⟨_, rfl⟩, q⟩ h4
  | lst ha hda =>
    obtain ⟨as, rd⟩ := Dp.reads I _ _ u (.lst ha hda) ru
    cases ru
    exact deep rd
  | tup ha hda =>
    obtain ⟨as, rd⟩ := Dp.reads I _ _ u (.tup ha hda) ru
    cases ru
    exact deep rd
theorem k_reprD {X : Cx} {K : PySem.W.Frag} (e : X.K = K) (gd : X.A.guards = some []) (hu : X.A.units + 64 < cLine) : CallR X (.builtin "repr") (qReprD K) := by subst e; exact call_reprD gd hu
theorem g_reprD {K : PySem.W.Frag} {x : V} {d : PyData} {H : Hp} {Q : VK} (hx : Dp K H x d) (h1 : d.showable = true) (h2 : d.hasDict = false) (h3 : d.depth ≤ 60) (h4 : d.shown.length ≤ sizeLine) (q : Q (.str d.shown) H) : qReprD K [x] H Q := ⟨x, d, rfl, hx, h1, h2, h3, h4, q⟩
end Q

set_option Elab.async false
set_option linter.all false
set_option maxRecDepth 100000
set_option maxHeartbeats 4000000
/-! a law's end for promises that hold where no repr is under way -/
namespace Q
open PySem PySem.Spec PyProof.Rows L2
section
variable {P : Program} {w : World} {K : PySem.W.Frag} {mg mb : Str → Option Value} {k : Nat} {fa a : Addr} {fd : FuncData} {x : Str} {sp : Sp} {s : Shared} {us : List Value} {ns : List Int}
/-- what the law's call owes -/
abbrev OweL (s : Shared) : Result → Shared → Prop := fun r s' => r = .ok (.ret (.bool true)) ∧ OldK s.heap s'.heap ∧ s'.os = s.os ∧ AllBare s'.gens
/-- the heap behind the head without what H follows: of an object that is no script -/
theorem hid_ns {H : Hp} (ha : s.heap.get? a = some { cls := .type "list", data := .seq us.toArray }) (own : ∀ b, H b ≠ none → b = a ∧ K.lookup b = none) {b : Addr} {m : Str → Option Value} (h : s.heap.Ns b m) : (hidT s.heap H).Ns b m := by
  obtain ⟨o, es, ep, e, d, r⟩ := h
  refine ⟨o, es, ep, hidT_get e ?_, d, r⟩
  apply Classical.byContradiction
  intro z
  obtain ⟨rfl, _⟩ := own b z
  rw [ha] at e
  injection e with e
  rw [← e] at d
  cases show Data.seq us.toArray _ = Data.dict es ep from d
theorem lawG_at {H : Hp} (kin : K.In s.heap) (g1 : s.heap.Ns mainGlobals mg) (g2 : s.heap.Ns builtinsNs mb) (bb : ∀ x : Str, x ≠ "__name__" → mb x = bootBuiltins x) (nl : s.heap.NoLimit) (ge : s.gens = #[])
    (ha : s.heap.get? a = some { cls := .type "list", data := .seq us.toArray }) (room : Room k callerA)
    (F : ∀ base : Heap, K.In base → base.Ns mainGlobals mg → FnG P w K mg base CX0 k fa fd [x] sp) (bnd : ∀ (s : Shared) (u : Value), BindsTo s fd ⟨[u], []⟩ [(x, u)])
    (own : ∀ b, H b ≠ none → b = a ∧ K.lookup b = none) (fz : ∀ b u, H b = some u → ∃ o xs, u = .frz o (.lst xs)) (hok : HOk P w H s.heap)
    (wish : sp [.ref a] H (fun v _ => v = .bl true) fun _ _ _ => False) : codeAny (model P w) callerA (.call (.ref fa) ⟨[.ref a], []⟩) (OweL s) s := by
  have kin2 : K.In (hidT s.heap H) := fun b o e => hidT_get (kin b o e) (Classical.byContradiction fun z => by rw [(own b z).2] at e; cases e)
  have md : Mod K mg (hidT s.heap H) := by
    obtain ⟨mc, n1, n2⟩ := nl
    exact ⟨kin2, hid_ns ha own g1, ⟨mb, hid_ns ha own g2, bb⟩, ⟨mc, hid_ns ha own n1, n2⟩⟩
  have noF : ∀ b ∈ frs ([] : List Env), H b = none := by intro b z; cases z
  have en : Env0 P w K mg (hidT s.heap H) callerA [] s H := { frames := rfl, mod := md, bs := fun _ _ e => of_hidT e, bsz := Nat.le_of_eq (hidT_size _ _), funs := trivial, frf := noF, hok := hok, bare := .of_eq ge }
  have run := (F _ kin2 (hid_ns ha own g1)).run callerA [] s H ⟨[.ref a], []⟩ [.ref a] [.ref a] _ _ room rfl en (bnd s (.ref a)) (.cons rfl .nil) wish
  refine codeAny_mono run ?_
  intro r s' h
  cases r with
  | error e => exact (show False from h).elim
  | ok fl =>
    cases fl with
    | ret u =>
      obtain ⟨v, H', e1, e2, un, hok', rv, q⟩ := h
      obtain rfl : v = .bl true := q
      obtain rfl : u = Value.bool true := rv
      refine ⟨rfl, OldK.of_keep ?_, e1, e2⟩
      intro b o e
      by_cases q : H b = none
      · exact un.keep b o e q (fun z => nomatch (show b ∈ ([] : List Addr) from z)) (fun z => nomatch z)
      · obtain ⟨u, hu⟩ := Option.ne_none_iff_exists'.mp q
        obtain ⟨ob, xs, rfl⟩ := fz b u hu
        have o1 := (hok b _ hu).1
        have o2 := (hok' b _ (un.frzs b ob _ hu)).1
        rw [e] at o1
        injection o1 with o1
        rw [o1]
        exact o2
    | next => exact (show False from h).elim
    | brk => exact (show False from h).elim
    | cont => exact (show False from h).elim
theorem lawG_call (kin : K.In s.heap) (g1 : s.heap.Ns mainGlobals mg) (g2 : s.heap.Ns builtinsNs mb) (bb : ∀ x : Str, x ≠ "__name__" → mb x = bootBuiltins x) (nl : s.heap.NoLimit) (ge : s.gens = #[])
    (ha : s.heap.get? a = some { cls := .type "list", data := .seq us.toArray }) (hi : IntsAre us ns) (small : ns.length ≤ sizeLine) (room : Room k callerA)
    (F : ∀ base : Heap, K.In base → base.Ns mainGlobals mg → FnG P w K mg base CX0 k fa fd [x] sp) (bnd : ∀ (s : Shared) (u : Value), BindsTo s fd ⟨[u], []⟩ [(x, u)])
    (wish : ∀ H : Hp, Only H → SqL K H a (ns.map V.int) → sp [.ref a] H (fun v _ => v = .bl true) fun _ _ _ => False) : codeAny (model P w) callerA (.call (.ref fa) ⟨[.ref a], []⟩) (OweL s) s := by
  have hr := vals_ints hi
  rcases hk : K.lookup a with _ | o
  · have me : (fun b => if b = a then some (.frz { cls := .type "list", data := .seq us.toArray } (.lst (ns.map V.int))) else none : Hp) a = some (.frz { cls := .type "list", data := .seq us.toArray } (.lst (ns.map V.int))) := if_pos rfl
    have ot : ∀ b, b ≠ a → (fun b => if b = a then some (.frz { cls := .type "list", data := .seq us.toArray } (.lst (ns.map V.int))) else none : Hp) b = none := fun b z => if_neg z
    generalize (fun b => if b = a then some (.frz { cls := .type "list", data := .seq us.toArray } (.lst (ns.map V.int))) else none : Hp) = H at me ot
    have at_a : ∀ b u, H b = some u → b = a ∧ u = .frz { cls := .type "list", data := .seq us.toArray } (.lst (ns.map V.int)) := by
      intro b u z
      by_cases hb : b = a
      · subst hb
        rw [me] at z
        injection z with z
        exact ⟨rfl, z.symm⟩
      · rw [ot b hb] at z
        cases z
    have fz : ∀ b u, H b = some u → ∃ o xs, u = .frz o (.lst xs) := fun b u z => ⟨_, _, (at_a b u z).2⟩
    refine lawG_at kin g1 g2 bb nl ge ha room F bnd (H := H) ?_ fz ?_ (wish H ?_ (.inl (.inr ⟨_, me⟩)))
    · intro b z
      obtain ⟨u, hu⟩ := Option.ne_none_iff_exists'.mp z
      obtain ⟨rfl, _⟩ := at_a b u hu
      exact ⟨rfl, hk⟩
    · intro b u z
      obtain ⟨rfl, rfl⟩ := at_a b u z
      exact ⟨ha, by rw [List.length_map]; exact small, us, _, hr, ha⟩
    · intro b
      cases q : H b with
      | none => exact .inl rfl
      | some u =>
        obtain ⟨o, xs, rfl⟩ := fz b u q
        exact .inr ⟨o, xs, rfl⟩
  · have e := kin a o hk
    rw [ha] at e
    injection e with e
    subst e
    refine lawG_at kin g1 g2 bb nl ge ha room F bnd (H := fun _ => none) (fun b z => (z rfl).elim) (fun b u z => nomatch z) (fun b u z => nomatch z) (wish _ (fun _ => .inl rfl) (.inr ⟨_, us.toArray, _, hk, rfl, rfl, rfl, ?_, by simpa using hr⟩))
    rw [List.size_toArray, hi.length]
    exact small
end
theorem walk_ofG {l : PySem.W.OpenLaw} {n k : Nat} {q : Program} {loose : List Str} {XP : (Str → Option Value) → Heap → Prop} {YP : World → Heap → Prop} {d : DefRec} {x : Str}
    (most : l.most = some n) (small : n ≤ sizeLine) (nodf : d.params.defaults = []) (room : Room k callerA)
    (F : ∀ (w : World) (mg : Str → Option Value) (fa : Addr) (h : Heap), YP w h → h.Ns mainGlobals mg → mg d.name = some (.ref fa) →
      ∃ (K : PySem.W.Frag) (fd : FuncData) (sp : Sp), (K.In h ∧ ∀ base : Heap, K.In base → base.Ns mainGlobals mg → FnG l.prog w K mg base CX0 k fa fd [x] sp) ∧ (∀ (s : Shared) (u : Value), BindsTo s fd ⟨[u], []⟩ [(x, u)]) ∧
        ∀ (H : Hp) (a : Addr) (ns : List Int), ns.length ≤ n → Only H → SqL K H a (ns.map V.int) → sp [.ref a] H (fun v _ => v = .bl true) fun _ _ _ => False) :
    PySem.W.WalkO q loose XP YP l.row.toRowW d [] (fun f vs => PySem.call f vs) := by
  apply Att.attach_call most nodf
  intro w _ s1 mg mb fa o _ _ _ a vs ns G Y _ _ _ hm ho hi hl hg
  obtain ⟨K, fd, sp, ⟨kin, f⟩, b, wish⟩ := F w mg fa _ Y G.T.g hm
  exact lawG_call kin G.T.g G.T.b G.T.builtins G.T.nolimit hg ho hi (Nat.le_trans hl small) room f b fun H => wish H a ns hl
/-! lengths of the texts -/
theorem shownAll_sum {c : Nat} : ∀ {ds : List PyData}, (∀ d ∈ ds, d.shown.length ≤ c) → ∀ t ∈ PyData.shownAll ds, t.length ≤ c
  | [], _, t, h => by simp [PyData.shownAll] at h
  | d :: ds, hc, t, h => by
    rw [PyData.shownAll, List.mem_cons] at h
    rcases h with rfl | h
    · exact hc _ (List.mem_cons_self ..)
    · exact shownAll_sum (fun e he => hc e (List.mem_cons_of_mem _ he)) t h
end Q

set_option Elab.async false
set_option linter.all false
set_option maxRecDepth 100000
set_option maxHeartbeats 4000000
/-! a class whose __init__ takes any number of arguments behind the named ones -/
namespace Q
open PySem PySem.Spec PyProof.Rows L2
/-- how such a def binds: a tuple of what is left is made -/
def BindsV (fd : FuncData) (ps : List Str) (n : Nat) : Prop := ∀ (us ms : List Value), us.length = n → bindArgs fd ⟨us ++ ms, []⟩ = (newTuple ms >>= fun t => pure (ps.zip (us ++ [t])))
/-- a promise of a def from the point where its arguments are bound (s: before, s3: then) -/
structure FnV (P : Program) (w : World) (K : PySem.W.Frag) (mg : Str → Option Value) (base : Heap) (CX : CXT) (k : Nat) (f : Addr) (fd : FuncData) (ps : List Str) (sp : Sp) : Prop where
  len : ∀ vs H Q E, sp vs H Q E → vs.length = ps.length
  run : ∀ (A : Around) (outer : List Env) (s s3 : Shared) (H : Hp) (args : Args) (us : List Value) (vs : List V) (Q : VK) (E : XK), Room k A → K.In s.heap → Env0 P w K mg base A outer s3 H →
    (∀ (M : Model) (A : Around) (E : Value → Shared → Prop) (Q : List (Str × Value) → Shared → Prop), Q (ps.zip us) s3 → wpAny M A (bindArgs fd args) Q E s) → Vals vs us → sp vs H Q E →
    codeAny (model P w) A (.call (.ref f) args) (CR CX outer P w H s3 Q E) s
theorem FunD.okV {CX : CXT} {P : Program} {w : World} {K : PySem.W.Frag} {mg : Str → Option Value} {base : Heap} {x qual : Str} {params : Arguments} {body : List Stmt} {scope : Scope} {dvs : List V} {kws : List (Str × V)} {f : Addr} {fd : FuncData} {N ps : List Str} {k : Nat} {sp : Sp}
    (F : FunD K x qual params body scope dvs kws f fd) (S : FnScope N ps scope) (len : ∀ vs H Q E, sp vs H Q E → vs.length = ps.length)
    (walk : ∀ (cdv : Value) (A : Around) (outer : List Env) (s : Shared) (H : Hp) (vs : List V) (Q : VK) (E : XK), Room k (A.deeper (envOfC qual scope s.heap.objs.size f cdv)) → sp vs H Q E →
      ∃ t, PSs (cxOf CX P w K mg base N qual scope f cdv A outer s H E) body t ∧ t { nx := fun _ H' => Q .non H', rt := Q } (L2.start N vs) H) : FnV P w K mg base CX (k + 1) f fd ps sp := by
  obtain ⟨oc, od, dV, kV, doc, pm, an, cdv, ct, osl, rfl, lk, hcd, _, _⟩ := F.ex
  refine ⟨len, ?_⟩
  intro A outer s s3 H args us vs Q E room Kin e0 bnd rel wish
  have kinds : ∀ y ∈ ps.zip us, scope.names.lookup y.1 = some .local ∨ (scope.names.lookup y.1 = some .cell ∧ ((cellsFrom (s3.heap.objs.size + 1) scope.names []).lookup y.1).isSome = true) := by
    rintro ⟨n, v⟩ hy
    exact (S.par n (List.of_mem_zip hy).1).elim .inl fun q => .inr ⟨q, PySem.W.cellsFrom_some _ _ _ (.inl q)⟩
  have dp : A.depth < recursionLimit := room.depth
  refine codeAny_call_function dp (Kin _ _ lk) rfl S.co S.gen rfl (PySem.W.codeRec_of Kin hcd) (bnd _ _ _ _ (wpAny_newFunctionEnv_cells S.kind kinds fun env he s1 ic => ?_))
  subst he
  refine ⟨(e0.mod.nolimit.keeps fun b o z => (e0.bs b o z).1).keeps ic.toInCall.keep, codeAny_func ?_⟩
  obtain ⟨t, ht, hq⟩ := walk cdv A outer s3 H vs Q E (room.deeper _) wish
  have I0 := inv_start (CX := CX) (A := A) (E := E) S room.hd e0 (len _ _ _ _ wish) rel ic
  refine wpAny_mono (ht.run [] s1 (L2.start N vs) H _ I0 hq) (fun fl s' hs => ?_) fun e s' hs => hs
  cases fl with
  | ret u =>
    obtain ⟨v, σ', H', J, rv, q⟩ := hs
    exact ⟨v, H', J.os, J.bare, J.base, J.hok, rv, q⟩
  | next =>
    obtain ⟨σ', H', J, q⟩ := hs
    exact ⟨V.non, H', J.os, J.bare, J.base, J.hok, rfl, q⟩
  | brk => exact hs.choose_spec.choose_spec.2.elim
  | cont => exact hs.choose_spec.choose_spec.2.elim
/-- what a caller needs of a class that is made so: n arguments besides the object are named -/
structure MkV (CX : CXT) (P : Program) (w : World) (K : PySem.W.Frag) (mg : Str → Option Value) (base : Heap) (C : Addr) (k n : Nat) (ps : List Str) (sp : Sp) : Prop where
  ex : ∃ (f : Addr) (fd : FuncData), Mk K C f ∧ FnV P w K mg base CX k f fd ps sp ∧ BindsV fd ps (n + 1)
/-- the class's call: a tuple of the arguments behind the first n -/
def tMkV (C : Addr) (n : Nat) (sp : Sp) (E : XK) (ta : TA) : TE := fun σ H Q => ta σ H fun vs H1 => n ≤ vs.length ∧ (vs.drop n).length ≤ sizeLine ∧ ∀ x dx p, H1 x = none → H1 dx = none → H1 p = none → dx ≠ x → p ≠ x → p ≠ dx →
  sp (.ref x :: (vs.take n ++ [.ref p])) (upd (upd (upd H1 dx (.own x)) x (.ins C dx [])) p (.tup (vs.drop n))) (fun v H2 => v = .non ∧ Q (.ref x) H2) E
section
variable {X : Cx} {CX : CXT} {C : Addr} {k n : Nat} {ps : List Str} {sp : Sp} {e : Expr} {es : List Expr} {t : TA} {x : Str} {p pos : Pos} {E : XK}
theorem run_makeV {f : Addr} {fd : FuncData} {pins : List (Addr × Obj)} {σ : L2.St} {H : Hp} {s : Shared} {Q : VK} {us : List Value} {vs : List V} (M : Mk X.K C f) (F : FnV X.prog X.w X.K X.mg X.base CX k f fd ps sp) (room : Room (k + 1) X.A) (bv : BindsV fd ps (n + 1))
    (hx : Passes CX X E) (I : Inv X pins σ H s) (r : Vals vs us) (hn : n ≤ vs.length) (hz : (vs.drop n).length ≤ sizeLine)
    (h : ∀ x dx p, H x = none → H dx = none → H p = none → dx ≠ x → p ≠ x → p ≠ dx →
      sp (.ref x :: (vs.take n ++ [.ref p])) (upd (upd (upd H dx (.own x)) x (.ins C dx [])) p (.tup (vs.drop n))) (fun v H2 => v = .non ∧ Q (.ref x) H2) E) :
    wpAny (model X.prog X.w) X.A (call (.ref C) us) (EP X pins σ Q) X.xe s := by
  have lt1 : s.heap.objs.size < s.heap.objs.size + 1 := Nat.lt_succ_self _
  have hq := h (s.heap.objs.size + 1) s.heap.objs.size (s.heap.objs.size + 2) (I.hok.fresh (Nat.le_succ _)) (I.hok.fresh (Nat.le_refl _)) (I.hok.fresh (Nat.le_add_right _ 2)) (Nat.ne_of_lt lt1) (Nat.ne_of_gt (Nat.lt_succ_self _)) (Nat.ne_of_gt (Nat.lt_succ_of_lt lt1))
  have I2 := Inv.made (C := C) I
  have rd : Vals (vs.drop n) (us.drop n) := Vals.drop n r
  have rt : Vals (vs.take n) (us.take n) := Vals.take n r
  generalize hs2 : ({ s with heap := (s.heap.push PySem.W.emptyDict).push (PySem.W.instObj C s.heap.objs.size) } : Shared) = s2 at I2
  have hsz : s2.heap.objs.size = s.heap.objs.size + 2 := by
    rw [← hs2]
    show ((s.heap.push PySem.W.emptyDict).push _).objs.size = _
    rw [Heap.size_push, Heap.size_push]
  have I3 : Inv X pins σ (upd (upd (upd H s.heap.objs.size (.own (s.heap.objs.size + 1))) (s.heap.objs.size + 1) (.ins C s.heap.objs.size [])) s2.heap.objs.size (.tup (vs.drop n))) { s2 with heap := s2.heap.push { cls := .type "tuple", data := .seq (us.drop n).toArray } } :=
    I2.laid (t' := s2.toks) (fun b u e => Heap.get?_push_of_some _ e) (Nat.le_refl _) ⟨hz, us.drop n, rd, ⟨_, Heap.get?_push_size _ rfl, rfl, _, rfl⟩⟩
  rw [← hsz] at hq
  have r2 : Vals (V.ref (s.heap.objs.size + 1) :: (vs.take n ++ [V.ref s2.heap.objs.size])) (Value.ref (s.heap.objs.size + 1) :: (us.take n ++ [Value.ref s2.heap.objs.size])) := .cons rfl (rt.append (.cons rfl .nil))
  have lus : n ≤ us.length := by rw [← r.length]; exact hn
  have run := F.run _ X.stack s2 _ _ ⟨Value.ref (s.heap.objs.size + 1) :: us, []⟩ _ _ _ E (room.make C us []) I2.kIn (I3.env0.make C us []) (fun M A E' Q' q => ?b) r2 hq
  · refine wpAny_call (make_map (f := f) I.kIn M.makes M.init (beq_iff_eq.mp M.fn) (codeAny_mono (by rw [hs2]; exact run) fun r s' hq' => ?_))
    cases r with
    | error er => exact hx pins σ _ _ er s' I3 hq'
    | ok fl =>
      cases fl with
      | ret u =>
        obtain ⟨v, H', I4, rv, ev, q3⟩ := I3.after hq'
        subst ev
        exact ⟨rv, ⟨V.ref (s.heap.objs.size + 1), H', I4, rfl, q3⟩⟩
      | next => exact False.elim hq'
      | brk => exact False.elim hq'
      | cont => exact False.elim hq'
  case b =>
    have eb := bv (Value.ref (s.heap.objs.size + 1) :: us.take n) (us.drop n) (by rw [List.length_cons, List.length_take]; omega)
    rw [List.cons_append, List.take_append_drop] at eb
    rw [eb]
    exact wpAny_bind (wpAny_newTuple (wpAny_pure q) (by rw [← rd.length]; exact hz))
theorem pe_mkV (hm : X.mg x = some (.ref C)) (M : MkV CX X.prog X.w X.K X.mg X.base C k n ps sp) (hr : Room (k + 1) X.A) (hx : Passes CX X E) (hg : Gl X x) (ha : PA X (e :: es) t)
    (hd : (x == ("__debug__" : Str)) = false := by decide) (he : starEach (e :: es) X.env = (false, eval e X.env) :: starEach es X.env := by rfl) (hl : (backTo pos (starEach es X.env)).any (·.1) = false := by rfl) :
    PE X (.Call (.Name x p) (e :: es) [] pos) (tMkV C n sp E t) := by
  obtain ⟨f, fd, hmk, F, hb⟩ := M.ex
  refine ⟨fun pins s σ H Q I h => wpAny_Call_Name_kw (ld_glob I hg hm ?_ hd)⟩
  refine PySem.W.callWith_K (h₀ := X.base) I.ok.mod.kin hmk.kp (thn (ha.run pos pins s σ H _ I h) fun us s1 ⟨vs, H1, I1, r, h1, h2, q⟩ => ⟨I1.kIn, ?_⟩) he hl
  exact run_makeV hmk F hr hb hx I1 r h1 h2 q
end
theorem mkv_mk {CX : CXT} {P : Program} {w : World} {K : PySem.W.Frag} {mg : Str → Option Value} {base : Heap} {C f : Addr} {x q : Str} {pa : Arguments} {bd : List Stmt} {sc : Scope} {kw : List (Str × V)} {k n : Nat} {ps : List Str} {sp : Sp}
    (mk : Mk K C f) (h : ∃ (fd : FuncData), FunD K x q pa bd sc [] kw f fd)
    (ok : ∀ {f : Addr} {fd : FuncData}, FunD K x q pa bd sc [] kw f fd → FnV P w K mg base CX k f fd ps sp)
    (b : ∀ (kV doc pm : Value) (an : Option Addr) (cdv ct : Value), BindsV (PySem.W.fnOf x q pa bd sc .none kV doc pm an cdv ct) ps (n + 1)) : MkV CX P w K mg base C k n ps sp := by
  obtain ⟨fd, F⟩ := h
  refine ⟨f, fd, mk, ok F, ?_⟩
  obtain ⟨oc, od, dV, kV, doc, pm, an, cdv, ct, osl, rfl, lk, hcd, hD, hK⟩ := F.ex
  rcases hD with ⟨_, rfl⟩ | ⟨e, _⟩
  · exact b kV doc pm an cdv ct
  · exact absurd rfl e
end Q

set_option Elab.async false
set_option linter.all false
set_option maxRecDepth 100000
set_option maxHeartbeats 4000000
/-! an own object as a test, by its __len__ -/
namespace Q
open PySem PySem.Spec PyProof.Rows L2
section
variable {X : Cx} {C : Addr} {k : Nat} {ps : List Str} {sp : Sp}
theorem pt_ownLen {e : Expr} {ta : TE} (he : PE X e ta) (M : MCal X.prog X.w X.K X.mg X.base C "__len__" k ps sp) (nb : NoAttr X.K C "__bool__") (hr : Room (k + 1) X.A) (hw : ∀ whole, isTrue e X.env whole = (do let v ← whole; standAt e.pos; holding [v] (truthy v))) :
    PT X e (fun σ H Q => ta σ H fun x H1 => ∃ a dx fs, x = .ref a ∧ H1 a = some (.ins C dx fs) ∧ sp [.ref a] H1 (fun v H' => ∃ n : Nat, v = .int n ∧ n ≤ 1000 ∧ Q ((n : Int) != 0) H') E0) := by
  refine ⟨fun pins s σ H Q I h => ?_⟩
  refine isTrue_plain (thn (he.run pins s σ H _ I h) fun v s1 ⟨x, H1, I1, rx, q1⟩ => ?_) (hw _)
  obtain ⟨a, dx, fs, rfl, ha, hs⟩ := q1
  cases rx
  obtain ⟨_, J0, _⟩ := ins_get I1.hok ha
  obtain ⟨od, J, _⟩ := J0.look
  obtain ⟨mm, hF⟩ := I1.fr
  obtain ⟨f, fd, hm, F, hb⟩ := M.ex
  have kin := I1.ok.mod.kin.keeps hF.keep
  have key : wpAny (model X.prog X.w) X.A (runValue (.builtin "len" ⟨[.ref a], []⟩)) (fun r s' => ∃ (n : Nat) (t : Tok) (H' : Hp), r = .int n t ∧ Inv X pins σ H' s' ∧ Q ((n : Int) != 0) H') X.xe s1 := by
    refine wpAny_runValue (codeAny_builtin entry_len ?_)
    rw [Around.under_plainId plain_len _]; unfold Builtin.«len»
    refine wpAny_bind (m := oneArg "len" ⟨[.ref a], []⟩) (wpAny_pure (wpAny_bind (m := callSpecial? (.ref a) (Str.ofString "__len__")) (PySem.W.special_fn kin J hm.at_ (beq_iff_eq.mp hm.fn) ?_)))
    refine thn (run_own (m := "__len__") F hb hr.in1 rfl I1 hs) fun u t ⟨z, H', I', rz, n, ez, nn, q⟩ => ?_
    subst ez
    obtain ⟨tk, rfl⟩ := rz
    refine wpAny_bind (wpAny_holding (wpAny_pure (wpAny_bind (wpAny_letGo ?_))))
    show wpAny _ _ (if (n : Int) < 0 then _ else _) _ _ _; rw [if_neg (by omega)]
    show wpAny _ _ (if (n : Int) ≥ 2 ^ 63 then _ else _) _ _ _; rw [if_neg (by omega)]
    exact wpAny_bind (wpAny_mkInt (wpAny_pure ⟨n, _, H', rfl, I'.tok _, q⟩))
  have asks : ∀ {Q' : Option Value → Shared → Prop}, Q' (some (.ref f)) s1 → wpAny (model X.prog X.w) X.A (specialOf (.ref a) "__len__") Q' X.xe s1 := by
    intro Q' q
    unfold specialOf
    exact wpAny_bind (J.type.here ((PySem.W.looks_findIn kin hm.at_).here q))
  unfold truthy; refine wpAny_bind (DSub.special_no (name := Str.ofString "__bool__") kin J nb ?_)
  refine wpAny_bind (asks ?_)
  exact wpAny_bind (wpAny_mono key (fun r s' ⟨n, t, H', e, I', q⟩ => by subst e; exact wpAny_pure ⟨H', I', q⟩) fun _ _ e => e)
end
end Q

set_option Elab.async false
set_option linter.all false
set_option maxRecDepth 100000
set_option maxHeartbeats 4000000
/-! a caught error handed to a def: its class, its attributes -/
namespace Q
open PySem PySem.Spec PyProof.Rows L2
/-- a caught error that a def is handed: its object stands and is not written (base: it may stand there) -/
def ExH (base : Heap) (H : Hp) (a : Addr) (oe : Obj) : Prop := H a = some (.frz oe (.own a)) ∨ base.get? a = some oe
theorem ExH.get {X : Cx} {pins : List (Addr × Obj)} {σ : L2.St} {H : Hp} {s : Shared} {a : Addr} {oe : Obj} (I : Inv X pins σ H s) (h : ExH X.base H a oe) : s.heap.get? a = some oe := by
  rcases h with h | h
  · exact (show ObjOk X.prog X.w H s.heap a (.frz oe (.own a)) from I.hok a _ h).1
  · exact I.bk _ _ h
/-- what is known of it: its class, its attributes -/
structure ExV (base : Heap) (H : Hp) (a C : Addr) (fs : List (Str × V)) : Prop where
  ex : ∃ (oe : Obj) (dd : Addr) (vs : Array Value), ExH base H a oe ∧ oe.cls = .ref C ∧ oe.dict = some dd ∧ oe.data = .fields vs ∧ H dd = some (.xd fs)
theorem ExV.sm {base : Heap} {H H' : Hp} {a C : Addr} {fs : List (Str × V)} (h : ExV base H a C fs) (s : Same H H') : ExV base H' a C fs := by
  obtain ⟨oe, dd, vs, h1, h2, h3, h4, h5⟩ := h
  exact ⟨oe, dd, vs, h1.imp (s _ _) id, h2, h3, h4, s _ _ h5⟩
theorem ExV.inst {X : Cx} {pins : List (Addr × Obj)} {σ : L2.St} {H : Hp} {s : Shared} {a C : Addr} {fs : List (Str × V)} (I : Inv X pins σ H s) (h : ExV X.base H a C fs) :
    ∃ (oe od : Obj) (mA : Str → Option Value), PySem.W.InstAt s.heap a oe C (some od) ∧ (∀ f, RelO (fs.lookup f) (mA f)) ∧ ∀ n, PySem.W.lookIn n od = some (mA n) := by
  obtain ⟨oe, dd, vs, h1, h2, h3, h4, h5⟩ := h
  obtain ⟨mA, hns, hr⟩ := (show ObjOk X.prog X.w H s.heap dd (.xd fs) from I.hok dd _ h5)
  obtain ⟨od, ho, hl⟩ := lookIn_ns hns
  exact ⟨oe, od, mA, ⟨h1.get I, h2, by unfold PySem.W.notCls; rw [h4], by rw [h3]; exact ho⟩, hr, hl⟩
/-- isinstance(e, c), e such an error -/
def rIsE (K : PySem.W.Frag) (base : Heap) : List V → Hp → VK → Prop := fun xs H Q => ∃ (a C : Addr) (fs : List (Str × V)) (c : V) (cv : Value) (b : Bool), xs = [.ref a, c] ∧ ExV base H a C fs ∧ ExcC K C ∧ ClsV c cv ∧ PySem.W.kitOne K (.ref C) cv = some b ∧ Q (.bl b) H
theorem call_isE {X : Cx} : CallR X (.builtin "isinstance") (rIsE X.K X.base) := by
  intro pins s σ H xs us Q I r h
  obtain ⟨a, C, fs, c, cv, b, rfl, hE, hC, k, e, q⟩ := h
  obtain ⟨u1, u2, rfl, r1, r2⟩ := vals2 r
  have e2 := k.eq r2
  subst e2
  cases (show u1 = Value.ref a from r1)
  obtain ⟨oe, od, mA, J, _⟩ := hE.inst I
  exact PySem.W.kia_one (kitx_exd hC) I.kIn ⟨_, J⟩ e (fun z => nomatch z) fun tk => ⟨.bl b, H, I.tok tk, rfl, q⟩
/-- isinstance(e, (c1, c2, ..)) -/
def rIsET (K : PySem.W.Frag) (base : Heap) : List V → Hp → VK → Prop := fun xs H Q => ∃ (a C : Addr) (fs : List (Str × V)) (tp : Addr) (cs : List V) (us : List Value) (b : Bool), xs = [.ref a, .ref tp] ∧ ExV base H a C fs ∧ ExcC K C ∧ H tp = some (.tup cs) ∧ Paired ClsV cs us ∧ PySem.W.kitAny K (.ref C) us = some b ∧ Q (.bl b) H
theorem call_isET {X : Cx} : CallR X (.builtin "isinstance") (rIsET X.K X.base) := by
  intro pins s σ H xs us Q I r h
  obtain ⟨a, C, fs, tp, cs, ws, b, rfl, hE, hC, hT, k, e, q⟩ := h
  obtain ⟨u1, u2, rfl, r1, r2⟩ := vals2 r
  cases (show u1 = Value.ref a from r1)
  cases (show u2 = Value.ref tp from r2)
  obtain ⟨oe, od, mA, J, _⟩ := hE.inst I
  obtain ⟨_, its, rv, o, h1, h2, n, h3⟩ := (show ObjOk X.prog X.w H s.heap tp (.tup cs) from I.hok tp _ hT)
  have e3 := ClsV.all k rv
  subst e3
  obtain ⟨oc, od2, dt, sl⟩ := o
  simp only at h2 h3
  subst h2 h3
  exact PySem.W.kia_tup (kitx_exd hC) I.kIn ⟨_, J⟩ h1 e (fun z => nomatch z) fun tk => ⟨.bl b, H, I.tok tk, rfl, q⟩
/-- e.f -/
def tXfE (K : PySem.W.Frag) (base : Heap) (f : Str) (te : TE) : TE := fun σ H Q => te σ H fun x H1 => ∃ (a C : Addr) (fs : List (Str × V)) (v : V), x = .ref a ∧ ExV base H1 a C fs ∧ XfC K C ∧ PySem.W.findIn K (.ref C) f = some none ∧ fs.lookup f = some v ∧ Q v H1
theorem pe_xfE {X : Cx} {e : Expr} {te : TE} {pos : Pos} {n : Str} (he : PE X e te) (hb : attributeBase e n X.env (eval e X.env) = eval e X.env := by rfl) : PE X (.Attribute e n pos) (tXfE X.K X.base n te) := by
  refine ⟨fun pins s σ H Q I h => ?_⟩
  refine attr_of hb (thn (he.run pins s σ H _ I h) fun u s1 hh => ?_)
  obtain ⟨x, H1, I1, rx, a, C, fs, v, ex, hE, T, hno, l, q⟩ := hh
  subst ex
  obtain rfl : u = Value.ref a := rx
  obtain ⟨oe, od, mA, J, hr, hl⟩ := hE.inst I1
  obtain ⟨u, hu, ru⟩ := RelO.some_of (v := v) (o := mA n) (by rw [← l]; exact hr n)
  exact HandSPX.exc_get I1.kIn J T.ga T.gg T.exC (PySem.W.findObj_own T.hdC hno rfl (by rw [hl, hu])) (handed_of ru) ⟨v, H1, I1.tok _, ru, q⟩
/-- a call in an except suite that hands the caught error on -/
def tCallE (base : Heap) (a : Addr) (oe : Obj) (sp : Sp) (t : TA) : TE := fun σ H Q => t σ H fun vs H1 => (H1 a = none → sp vs (upd H1 a (.frz oe (.own a))) (fun v H2 => Q v (del H2 a)) E0) ∧ (base.get? a = some oe → sp vs H1 Q E0)
theorem hok_del {P : Program} {w : World} {H : Hp} {h : Heap} {a : Addr} {oe : Obj} {u : HO} (x : HOk P w H h) (e : H a = some (.frz oe u)) : HOk P w (del H a) h := fun b o q => by
  have n : b ≠ a := fun z => by rw [z, del_same] at q; cases q
  rw [del_ne n] at q
  refine (x b o q).stay (fun _ _ _ z => z) (fun c z => ?_) fun c xs z => ?_
  · rw [del_ne (fun z2 => by rw [z2, e] at z; cases z)]; exact z
  · rw [del_ne (fun z2 => by rw [z2, e] at z; cases z)]; exact z
theorem un_del {fs : List Addr} {H H2 : Hp} {h h' : Heap} {a : Addr} {oe : Obj} {u : HO} (x : Un fs [] (upd H a (.frz oe u)) H2 h h') (n : H a = none) (nf : a ∉ fs) (e : h.get? a = some oe) (e2 : h'.get? a = some oe) : Un fs [] H (del H2 a) h h' where
  keep b o q n1 n2 n3 := by
    by_cases z : b = a
    · subst z
      rw [e] at q
      rw [e2, ← q]
    · exact x.keep b o q (by rw [upd_ne z]; exact n1) n2 n3
  slot b o q n1 n2 n3 := x.slot b o q (by rw [upd_ne (fun z => nf (by rw [← z]; exact n2))]; exact n1) n2 n3
  free b o q n1 n3 := by
    by_cases z : b = a
    · rw [z]; exact del_same
    · rw [del_ne z]; exact x.free b o q (by rw [upd_ne z]; exact n1) n3
  there := x.there
  tups b xs q := by
    have z : b ≠ a := ne_of_none q n
    rw [del_ne z]; exact x.tups b xs (by rw [upd_ne z]; exact q)
  frzs b o u q := by
    have z : b ≠ a := ne_of_none q n
    rw [del_ne z]; exact x.frzs b o u (by rw [upd_ne z]; exact q)
  tbls b ps q := by
    have z : b ≠ a := ne_of_none q n
    rw [del_ne z]; exact x.tbls b ps (by rw [upd_ne z]; exact q)
section
variable {X : Cx} {x : Str} {k : Nat} {ps : List Str} {sp : Sp} {e : Expr} {es : List Expr} {t : TA} {p pos : Pos} {a : Addr} {oe : Obj} {pn : List (Addr × Obj)}
theorem run_fnE {f : Addr} {fd : FuncData} {pins : List (Addr × Obj)} {σ : L2.St} {H : Hp} {s : Shared} {Q : VK} {us : List Value} {vs : List V} (F : FnC X.prog X.w X.K X.mg X.base CX0 k f fd ps sp) (room : L2H.RoomH k X.A) (hb : Binds X.K fd ps []) (hp : (a, oe) ∈ X.pn)
    (I : Inv X pins σ H s) (r : Vals vs us) (h : (H a = none → sp vs (upd H a (.frz oe (.own a))) (fun v H2 => Q v (del H2 a)) E0) ∧ (X.base.get? a = some oe → sp vs H Q E0)) : wpAny (model X.prog X.w) X.A (call (.ref f) us) (EP X pins σ Q) X.xe s := by
  obtain ⟨hg, na, nL, nF, _⟩ := I.pin (a, oe) (List.mem_append_left _ hp)
  have w1 := h.1 na
  have lenv := F.len _ _ _ _ w1
  have bd : BindsTo s fd ⟨us, []⟩ (ps.zip us) := by
    have z := hb s us I.kIn (by rw [List.append_nil, ← r.length]; exact lenv)
    rwa [List.append_nil] at z
  cases hB : X.base.get? a with
  | some o =>
    have : s.heap.get? a = some o := I.bk _ _ hB
    rw [hg] at this
    exact run_fnC F room hb I r (h.2 (by rw [hB]; exact this.symm))
  | none =>
    have e0 := I.env0
    have ns : a ∉ frs X.stack := fun z => (List.mem_cons.mp (I.stkSub a z)).elim nL nF
    have e1 : Env0 X.prog X.w X.K X.mg X.base X.A X.stack s (upd H a (.frz oe (.own a))) := ⟨e0.frames, e0.mod, fun b o q => ⟨(e0.bs b o q).1, by rw [upd_ne (fun z => by rw [z, hB] at q; cases q)]; exact (e0.bs b o q).2⟩, e0.bsz, e0.funs,
      fun b hb => by rw [upd_ne (fun z => ns (by rw [← z]; exact hb))]; exact e0.frf b hb, _root_.L2.HOk.laidN I.hok (fun _ _ q => q) na ⟨hg, oe, hg⟩, e0.bare⟩
    refine wpAny_call (codeAny_mono (F.run X.A X.stack s _ ⟨us, []⟩ us vs _ E0 room e1 bd r w1) fun res s' hq => ?_)
    cases res with
    | error er => exact pass0 pins σ _ s er s' I (hq : CX0 X.stack _ s E0 er s')
    | ok fl =>
      cases fl with
      | ret u =>
        obtain ⟨v, H2, os, bare, un, hok, rv, q⟩ := hq
        have e2 : H2 a = some (.frz oe (.own a)) := un.frzs a oe (.own a) upd_same
        exact I.after ⟨v, del H2 a, os, bare, un_del un na ns hg (show ObjOk X.prog X.w H2 s'.heap a (.frz oe (.own a)) from hok a _ e2).1, hok_del hok e2, rv, q⟩
      | _ => exact hq.elim
theorem pe_calE (C : CalW X.prog X.w X.K X.mg X.base x k ps sp) (room : L2H.RoomH k (X.suite a ((a, oe) :: pn)).A) (hg : Gl (X.suite a ((a, oe) :: pn)) x) (ha : PA (X.suite a ((a, oe) :: pn)) (e :: es) t)
    (hd : (x == ("__debug__" : Str)) = false := by decide) (he : starEach (e :: es) X.env = (false, eval e X.env) :: starEach es X.env := by rfl) (hl : (backTo pos (starEach es X.env)).any (·.1) = false := by rfl) :
    PE (X.suite a ((a, oe) :: pn)) (.Call (.Name x p) (e :: es) [] pos) (tCallE X.base a oe sp t) := by
  obtain ⟨f, fd, F, hm, hk, hb⟩ := C.ex
  refine ⟨fun pins s σ H Q I h => wpAny_Call_Name_kw (ld_glob I hg hm ?_ hd)⟩
  refine PySem.W.callWith_K (h₀ := X.base) I.ok.mod.kin hk (thn (ha.run pos pins s σ H _ I h) fun us s1 z => ?_) he hl
  obtain ⟨vs, H1, I1, r, q⟩ := z
  exact ⟨I1.kIn, run_fnE F room hb List.mem_cons_self I1 r q⟩
end
theorem k_isE {X : Cx} {K : PySem.W.Frag} {base : Heap} (e : X.K = K) (eb : X.base = base) : CallR X (.builtin "isinstance") (rIsE K base) := by subst e eb; exact call_isE
theorem k_isET {X : Cx} {K : PySem.W.Frag} {base : Heap} (e : X.K = K) (eb : X.base = base) : CallR X (.builtin "isinstance") (rIsET K base) := by subst e eb; exact call_isET
theorem k_xfE {X : Cx} {K : PySem.W.Frag} {base : Heap} {e : Expr} {te : TE} {pos : Pos} {n : Str} (ek : X.K = K) (eb : X.base = base) (he : PE X e te) (hb : attributeBase e n X.env (eval e X.env) = eval e X.env := by rfl) : PE X (.Attribute e n pos) (tXfE K base n te) := by subst ek eb; exact pe_xfE he hb
section
variable {X : Cx} {x : Str} {k : Nat} {ps : List Str} {sp : Sp} {e : Expr} {es : List Expr} {t : TA} {p pos : Pos} {a : Addr} {oe : Obj} {pn : List (Addr × Obj)}
/-- the same, whatever the object is -/
def tCallZ (base : Heap) (a : Addr) (cls : Value) (d : Option Addr) (sp : Sp) (t : TA) : TE := fun σ H Q => t σ H fun vs H1 => ∀ oe : Obj, Zc cls d oe → (∃ vs, oe.data = .fields vs) → (H1 a = none → sp vs (upd H1 a (.frz oe (.own a))) (fun v H2 => Q v (del H2 a)) E0) ∧ (base.get? a = some oe → sp vs H1 Q E0)
theorem pe_calZ {cls : Value} {d : Option Addr} (C : CalW X.prog X.w X.K X.mg X.base x k ps sp) (hz : Zc cls d oe) (hf : ∃ vs, oe.data = .fields vs) (room : L2H.RoomH k (X.suite a ((a, oe) :: pn)).A) (hg : Gl (X.suite a ((a, oe) :: pn)) x) (ha : PA (X.suite a ((a, oe) :: pn)) (e :: es) t)
    (hd : (x == ("__debug__" : Str)) = false := by decide) (he : starEach (e :: es) X.env = (false, eval e X.env) :: starEach es X.env := by rfl) (hl : (backTo pos (starEach es X.env)).any (·.1) = false := by rfl) :
    PE (X.suite a ((a, oe) :: pn)) (.Call (.Name x p) (e :: es) [] pos) (tCallZ X.base a cls d sp t) := by
  obtain ⟨f, fd, F, hm, hk, hb⟩ := C.ex
  refine ⟨fun pins s σ H Q I h => wpAny_Call_Name_kw (ld_glob I hg hm ?_ hd)⟩
  refine PySem.W.callWith_K (h₀ := X.base) I.ok.mod.kin hk (thn (ha.run pos pins s σ H _ I h) fun us s1 z => ?_) he hl
  obtain ⟨vs, H1, I1, r, q⟩ := z
  exact ⟨I1.kIn, run_fnE F room hb List.mem_cons_self I1 r (q oe hz hf)⟩
end
section
variable {σ : L2.St} {H : Hp} {Q : VK} {K : PySem.W.Frag} {base : Heap}
theorem g_calZ {a : Addr} {cls : Value} {d : Option Addr} {sp : Sp} {t : TA} (h : t σ H fun vs H1 => ∀ oe : Obj, Zc cls d oe → (∃ vs, oe.data = .fields vs) → (H1 a = none → sp vs (upd H1 a (.frz oe (.own a))) (fun v H2 => Q v (del H2 a)) E0) ∧ (base.get? a = some oe → sp vs H1 Q E0)) : tCallZ base a cls d sp t σ H Q := h
theorem g_isE {a C : Addr} {fs : List (Str × V)} {c : V} {cv : Value} {b : Bool} (h : ExV base H a C fs) (hC : ExcC K C) (k : ClsV c cv) (e : PySem.W.kitOne K (.ref C) cv = some b) (q : Q (.bl b) H) : rIsE K base [.ref a, c] H Q := ⟨a, C, fs, c, cv, b, rfl, h, hC, k, e, q⟩
theorem g_isET {a C tp : Addr} {fs : List (Str × V)} {cs : List V} {us : List Value} {b : Bool} (h : ExV base H a C fs) (hC : ExcC K C) (hT : H tp = some (.tup cs)) (k : Paired ClsV cs us) (e : PySem.W.kitAny K (.ref C) us = some b) (q : Q (.bl b) H) : rIsET K base [.ref a, .ref tp] H Q := ⟨a, C, fs, tp, cs, us, b, rfl, h, hC, hT, k, e, q⟩
theorem g_xfE {σ : L2.St} {H : Hp} {Q : VK} {K : PySem.W.Frag} {base : Heap} {f : Str} {te : TE} (h : te σ H fun x H1 => ∃ (a C : Addr) (fs : List (Str × V)) (v : V), x = .ref a ∧ ExV base H1 a C fs ∧ XfC K C ∧ PySem.W.findIn K (.ref C) f = some none ∧ fs.lookup f = some v ∧ Q v H1) : tXfE K base f te σ H Q := h
/-- the error in hand, as a def sees it that is called in the suite -/
theorem exV_in {a C dd : Addr} {oe : Obj} {fs : List (Str × V)} (hz : Zc (.ref C) (some dd) oe) (hf : ∃ vs, oe.data = .fields vs) (ne : dd ≠ a) (h : H dd = some (.xd fs)) : ExV base (upd H a (.frz oe (.own a))) a C fs := by
  obtain ⟨vs, hf⟩ := hf
  exact ⟨oe, dd, vs, .inl upd_same, hz.1, hz.2, hf, by rw [upd_ne ne]; exact h⟩
theorem exV_base {a C dd : Addr} {oe : Obj} {fs : List (Str × V)} (hz : Zc (.ref C) (some dd) oe) (hf : ∃ vs, oe.data = .fields vs) (hb : base.get? a = some oe) (h : H dd = some (.xd fs)) : ExV base H a C fs := by
  obtain ⟨vs, hf⟩ := hf
  exact ⟨oe, dd, vs, .inr hb, hz.1, hz.2, hf, h⟩
theorem same_del {H H2 : Hp} {a : Addr} {o : HO} (n : H a = none) (s : Same (upd H a o) H2) : Same H (del H2 a) := fun b u e => by
  have z := ne_of_none e n
  rw [del_ne z]
  exact s b u (by rw [upd_ne z]; exact e)
end
end Q

set_option Elab.async false
set_option linter.all false
set_option maxRecDepth 100000
set_option maxHeartbeats 4000000
/-! own errors whose __init__ keeps several arguments -/
namespace Q
open PySem PySem.Spec PyProof.Rows L2
/-- the dict of such an error: the last one kept stands first -/
def putL (fs : List Str) (ys : List V) : List (Str × V) := (fs.zip ys).reverse
def spExL (C : Addr) (fs : List Str) : Sp := fun vs H Q _ => ∃ (a : Addr) (ys : List V), vs = .ref a :: ys ∧ ys.length = fs.length ∧ H a = some (exo a C none) ∧ ∀ dx, H dx = none → dx ≠ a → Q .non (upd (upd H dx (exd dx (putL fs ys))) a (exo a C (some dx)))
/-- what the raising of such an error asks -/
theorem g_mkOL {C : Addr} {fs : List Str} {ta : TA} {σ : L2.St} {H : Hp} {Q : XK} (hl : fs.length ≤ 900) (h : ta σ H fun vs H1 => vs.length = fs.length ∧ ∀ d, H1 d = none → Q (.ref C) (some d) (upd H1 d (.xd (putL fs vs)))) (mono : ∀ {A B : List V → Hp → Prop}, (∀ vs H1, A vs H1 → B vs H1) → ta σ H A → ta σ H B) : tMkO C (spExL C fs) [] ta σ H Q := by
  refine mono (fun vs H1 z => ?_) h
  obtain ⟨lv, k⟩ := z
  refine ⟨by omega, fun a ha => ⟨a, vs, by rw [List.append_nil], lv, upd_same, fun dx hd n => ⟨rfl, dx, putL fs vs, upd_same, ?_, ?_, ?_⟩⟩⟩
  · rw [upd_ne n, upd_same]
  · rwa [upd_ne n] at hd
  · rw [upd_ne n] at hd
    have e : upd (del (upd (upd (upd H1 a (exo a C none)) dx (exd dx (putL fs vs))) a (exo a C (some dx))) a) dx (.xd (putL fs vs)) = upd H1 dx (.xd (putL fs vs)) := by
      funext b
      by_cases h1 : b = dx
      · rw [h1, upd_same, upd_same]
      · rw [upd_ne h1, upd_ne h1]
        by_cases h2 : b = a
        · rw [h2, ha]; simp [del]
        · show (if b = a then none else _) = _
          rw [if_neg h2, upd_ne h2, upd_ne h1, upd_ne h2]
    rw [e]
    exact k dx hd
/-- what a def needs that raises such an error, anywhere -/
structure ExcL (P : Program) (w : World) (K : PySem.W.Frag) (mg : Str → Option Value) (base : Heap) (C : Addr) (fs : List Str) (k : Nat) : Prop where
  ex : ∃ (fI : Addr) (fd : FuncData) (ps : List Str) (f : Str), OxK K C fI f ∧ FnC P w K mg base CX0 k fI fd ps (spExL C fs) ∧ Binds K fd ps []
theorem excl_mk {P : Program} {w : World} {K : PySem.W.Frag} {mg : Str → Option Value} {base : Heap} {C fI : Addr} {f : Str} {fs : List Str} {x q : Str} {pa : Arguments} {bd : List Stmt} {sc : Scope} {dv : List V} {kw : List (Str × V)} {k : Nat} {ps : List Str}
    (ox : OxK K C fI f) (h : ∃ (fd : FuncData), FunD K x q pa bd sc dv kw fI fd) (ok : ∀ {f' : Addr} {fd : FuncData}, FunD K x q pa bd sc dv kw f' fd → FnC P w K mg base CX0 k f' fd ps (spExL C fs))
    (b : ∀ {f' : Addr} {fd : FuncData}, FunD K x q pa bd sc dv kw f' fd → Binds K fd ps []) : ExcL P w K mg base C fs k := by
  obtain ⟨fd, F⟩ := h
  exact ⟨fI, fd, ps, f, ox, ok F, b F⟩
theorem pmk_l {X : Cx} {C : Addr} {fs : List Str} {x : Str} {k : Nat} {e : Expr} {es : List Expr} {ta : TA} {p pos : Pos} (M : ExcL X.prog X.w X.K X.mg X.base C fs k) (room : L2H.RoomH (k + 1) X.A) (hg : Gl X x) (hm : X.mg x = some (.ref C)) (ha : PA X (e :: es) ta)
    (hdb : (x == ("__debug__" : Str)) = false := by decide) (hst : starEach (e :: es) X.env = (false, eval e X.env) :: starEach es X.env := by rfl) (hpl : (backTo pos (starEach es X.env)).any (·.1) = false := by rfl) :
    L2H.PMk5 X (.Call (.Name x p) (e :: es) [] pos) (tMkO C (spExL C fs) [] ta) := by
  obtain ⟨fI, fd, ps, f, ox, F1, hb⟩ := M.ex
  exact pmkC ox.ox ox.ic ox.tc F1 room hb hg hm ha hdb hst hpl
/-- the heap behind another assignment -/
theorem ex_put {H : Hp} {dx a : Addr} {u o u' : HO} (n : dx ≠ a) : upd (upd (upd H dx u) a o) dx u' = upd (upd H dx u') a o := by
  funext b
  by_cases h1 : b = dx
  · rw [h1, upd_same, upd_ne n, upd_same]
  · rw [upd_ne h1]
    by_cases h2 : b = a
    · rw [h2, upd_same, upd_same]
    · rw [upd_ne h2, upd_ne h2, upd_ne h1, upd_ne h1]
end Q

set_option Elab.async false
set_option linter.all false
set_option maxRecDepth 100000
set_option maxHeartbeats 4000000
/-! isinstance(e, (c1, c2, ..)) where e is the caught error itself, of an own class that the reading tells -/
namespace Q
open PySem PySem.Spec PyProof.Rows L2
def rIsDT (K : PySem.W.Frag) (a : Addr) (cls : Value) (d : Option Addr) : List V → Hp → VK → Prop := fun xs H Q => ∃ (D dd : Addr) (fs : List (Str × V)) (tp : Addr) (cs : List V) (us : List Value) (b : Bool), cls = .ref D ∧ ExcC K D ∧ d = some dd ∧ H dd = some (.xd fs) ∧ xs = [.ref a, .ref tp] ∧ H tp = some (.tup cs) ∧ Paired ClsV cs us ∧ PySem.W.kitAny K (.ref D) us = some b ∧ Q (.bl b) H
theorem call_isDT {X : Cx} {a : Addr} {oe : Obj} {cls : Value} {d : Option Addr} {pn : List (Addr × Obj)} (hz : Zc cls d oe) (hf : ∃ vs, oe.data = .fields vs) : CallR (X.suite a ((a, oe) :: pn)) (.builtin "isinstance") (rIsDT X.K a cls d) := by
  intro pins s σ H xs us Q I r h
  obtain ⟨D, dd, fs, tp, cs, ws, b, rfl, C, rfl, hdd, rfl, hT, k, e, q⟩ := h
  obtain ⟨u1, u2, rfl, r1, r2⟩ := vals2 r
  obtain rfl : u1 = Value.ref a := r1
  cases (show u2 = Value.ref tp from r2)
  have at_ := (I.pin (a, oe) (List.mem_append.mpr (.inl List.mem_cons_self))).1
  obtain ⟨vs, hv⟩ := hf
  obtain ⟨mA, hns, _⟩ := I.hok dd _ hdd
  obtain ⟨od, ho, _⟩ := lookIn_ns hns
  have J : ∃ od, PySem.W.InstAt s.heap a oe D od := ⟨some od, at_, hz.1, by unfold PySem.W.notCls; rw [hv], by rw [hz.2]; exact ho⟩
  obtain ⟨_, its, rv, o, h1, h2, n, h3⟩ := (show ObjOk X.prog X.w H s.heap tp (.tup cs) from I.hok tp _ hT)
  have e3 := ClsV.all k rv
  subst e3
  obtain ⟨oc, od2, dt, sl⟩ := o
  simp only at h2 h3
  subst h2 h3
  exact PySem.W.kia_tup (kitx_exd C) I.kIn J h1 e (fun z => nomatch z) fun tk => ⟨.bl b, H, I.kept (t' := tk) fun _ _ z => z, rfl, q⟩
theorem k_isDT {X : Cx} {K : PySem.W.Frag} {a : Addr} {oe : Obj} {cls : Value} {d : Option Addr} {pn : List (Addr × Obj)} (ek : X.K = K) (hz : Zc cls d oe) (hf : ∃ vs, oe.data = .fields vs) : CallR (X.suite a ((a, oe) :: pn)) (.builtin "isinstance") (rIsDT K a cls d) := by subst ek; exact call_isDT hz hf
theorem g_isDT {K : PySem.W.Frag} {D a dd tp : Addr} {fs : List (Str × V)} {cs : List V} {us : List Value} {b : Bool} {H : Hp} {Q : VK} (C : ExcC K D) (h : H dd = some (.xd fs)) (hT : H tp = some (.tup cs)) (k : Paired ClsV cs us) (e : PySem.W.kitAny K (.ref D) us = some b) (q : Q (.bl b) H) : rIsDT K a (.ref D) (some dd) [.ref a, .ref tp] H Q := ⟨D, dd, fs, tp, cs, us, b, rfl, C, rfl, h, rfl, hT, k, e, q⟩
end Q

set_option Elab.async false
set_option linter.all false
set_option maxRecDepth 100000
set_option maxHeartbeats 4000000
/-! calls of defs that may raise, in a try's body or where the caller passes the error on -/
namespace Q
open PySem PySem.Spec PyProof.Rows L2
structure CalX (CX : CXT) (P : Program) (w : World) (K : PySem.W.Frag) (mg : Str → Option Value) (base : Heap) (x : Str) (k : Nat) (ps : List Str) (sp : Sp) : Prop where
  ex : ∃ (f : Addr) (fd : FuncData), FnOk P w K mg base CX k f fd ps sp ∧ mg x = some (.ref f) ∧ PySem.W.keepIn K (.ref f) = true ∧ Binds K fd ps []
theorem calx_mk {CX : CXT} {P : Program} {w : World} {K : PySem.W.Frag} {mg : Str → Option Value} {base : Heap} {x q : Str} {pa : Arguments} {bd : List Stmt} {sc : Scope} {dv : List V} {kw : List (Str × V)} {k : Nat} {ps : List Str} {sp : Sp}
    (h : ∃ (f : Addr) (fd : FuncData), FunD K x q pa bd sc dv kw f fd ∧ mg x = some (.ref f))
    (ok : ∀ {f : Addr} {fd : FuncData}, FunD K x q pa bd sc dv kw f fd → FnOk P w K mg base CX k f fd ps sp)
    (b : ∀ {f : Addr} {fd : FuncData}, FunD K x q pa bd sc dv kw f fd → Binds K fd ps []) : CalX CX P w K mg base x k ps sp := by
  obtain ⟨f, fd, F, m⟩ := h
  exact ⟨f, fd, ok F, m, F.kp, b F⟩
section
variable {X : Cx} {CX : CXT} {x : Str} {k : Nat} {ps : List Str} {sp : Sp} {e : Expr} {es : List Expr} {t : TA} {p pos : Pos} {E : L2.St → XK}
theorem run_fnX {f : Addr} {fd : FuncData} {pins : List (Addr × Obj)} {σ : L2.St} {H : Hp} {s : Shared} {Q : VK} {us : List Value} {vs : List V} (F : FnOk X.prog X.w X.K X.mg X.base CX k f fd ps sp) (room : Room k X.A) (hb : Binds X.K fd ps [])
    (hx : PassesAt CX X σ (E σ)) (I : Inv X pins σ H s) (r : Vals vs us) (h : sp vs H Q (E σ)) : wpAny (model X.prog X.w) X.A (call (.ref f) us) (EP X pins σ Q) X.xe s := by
  have bd : BindsTo s fd ⟨us, []⟩ (ps.zip us) := by
    have z := hb s us I.kIn (by rw [List.append_nil, ← r.length]; exact F.len _ _ _ _ h)
    rwa [List.append_nil] at z
  refine wpAny_call (codeAny_mono (F.run X.A X.stack s H ⟨us, []⟩ us vs Q (E σ) room I.env0 bd r h) fun res s' hq => ?_)
  cases res with
  | error er => exact hx pins H s er s' I hq
  | ok fl =>
    cases fl with
    | ret u => exact I.after hq
    | _ => exact hq.elim
theorem pe_calX (C : CalX CX X.prog X.w X.K X.mg X.base x k ps sp) (room : Room k X.A) (hx : ∀ σ, PassesAt CX X σ (E σ)) (hg : Gl X x) (ha : PA X (e :: es) t)
    (hd : (x == ("__debug__" : Str)) = false := by decide) (he : starEach (e :: es) X.env = (false, eval e X.env) :: starEach es X.env := by rfl) (hl : (backTo pos (starEach es X.env)).any (·.1) = false := by rfl) :
    PE X (.Call (.Name x p) (e :: es) [] pos) (tCallS sp E t) := by
  obtain ⟨f, fd, F, hm, hk, hb⟩ := C.ex
  refine ⟨fun pins s σ H Q I h => wpAny_Call_Name_kw (ld_glob I hg hm ?_ hd)⟩
  refine PySem.W.callWith_K (h₀ := X.base) I.ok.mod.kin hk (thn (ha.run pos pins s σ H _ I h) fun us s1 z => ?_) he hl
  obtain ⟨vs, H1, I1, r, q⟩ := z
  exact ⟨I1.kIn, run_fnX F room hb (hx σ) I1 r q⟩
/-- what a callee raises the def raises too -/
theorem passE {E2 : XK} {W : WX} (tk : L2N.Takes X W) (h : ∀ cls d σ H, E2 cls d H → W cls d σ H) : Passes (L2N.CX X.prog X.w) X E2 := L2N.passes_call tk h
theorem passAtE {E2 : XK} {W : WX} (tk : L2N.Takes X W) (h : ∀ cls d σ H, E2 cls d H → W cls d σ H) (σ : L2.St) : PassesAt (L2N.CX X.prog X.w) X σ E2 := fun pins H s e s' I c => L2N.passes_call tk h pins σ H s e s' I c
end
end Q

set_option Elab.async false
set_option linter.all false
set_option maxRecDepth 100000
set_option maxHeartbeats 4000000
/-! try: body, several clauses except C as n -/
namespace Q
open PySem PySem.Spec PyProof.Rows L2
/-- one clause: the class it names, its name's slot, its suite's reading -/
structure Cls1 where
  c : Value
  i : Nat
  ts : Addr → Value → Option Addr → TS
/-- the ends of a suite: its name goes -/
def endA (i : Nat) (D : Ends) : Ends := { nx := fun σ H => D.nx (σ.set i none) H, rt := D.rt, bk := fun σ H => D.bk (σ.set i none) H, ct := fun σ H => D.ct (σ.set i none) H }
def wManyA (K : PySem.W.Frag) (Wo : WX) (D : Ends) : List Cls1 → WX
  | [] => Wo
  | k :: r => fun cls d σ H => ∃ b, PySem.W.exmOne K cls k.c = some b ∧ (b = true → ∀ a, H a = none → k.ts a cls d (endA k.i D) (σ.set k.i (some (.ref a))) H) ∧ (b = false → wManyA K Wo D r cls d σ H)
inductive HdsA (X : Cx) : List ExceptHandler → List Cls1 → Prop
  | nil : HdsA X [] []
  | cons {x n : Str} {k : Cls1} {b0 : Stmt} {su : List Stmt} {np ps : Pos} {hds : List ExceptHandler} {l : List Cls1} (hi : X.N[k.i]? = some n) (hk : X.env.kindOf n = some .local) (hc : Names X x k.c)
      (ok : ∀ (a : Addr) (oe : Obj) (cls : Value) (d : Option Addr) (pn : List (Addr × Obj)), Zc cls d oe → (∃ vs, oe.data = .fields vs) → PSs (X.suite a ((a, oe) :: pn)) (b0 :: su) (k.ts a cls d)) (r : HdsA X hds l) :
      HdsA X (.ExceptHandler (some (.Name x np)) (some n) (b0 :: su) ps :: hds) (k :: l)
section
variable {X : Cx} {body : List Stmt} {h0 : ExceptHandler} {hds : List ExceptHandler} {l : List Cls1} {pos : Pos} {tb : WX → TS} {Wo : WX}
theorem ps_try_manyA (st : X.stack = X.env :: X.outer) (fr : X.env.frame = some X.env.locals) (nd : X.N.Nodup) (tk : L2.Takes X Wo)
    (hb : ∀ (W : WX) (pn : List (Addr × Obj)) (xe : Value → Shared → Prop), L2.Takes (X.tr pn xe) W → PassesOwn (model X.prog X.w) X.A X.env xe → PSs (X.tr pn xe) body (tb W))
    (hh : HdsA X (h0 :: hds) l) : PS X (.Try body (h0 :: hds) [] [] pos) (fun D σ H => tb (wManyA X.K Wo D l) D σ H) := by
  refine ⟨fun pins s σ H D I w0 => wpAny_Try_except ?_⟩
  have okX := I.ok
  have frames : X.A.frames = some (X.env :: X.outer) := okX.frames.trans (congrArg some st)
  have run := (hb (wManyA X.K Wo D l) (X.pn ++ pins) (fun e t1 => wpAny (model X.prog X.w) X.A (noteFrame e X.env) (fun _ t2 => wpAny (model X.prog X.w) X.A (setFlight e none) (fun _ t3 => wpAny (model X.prog X.w) X.A (handleBy e X.env (h0 :: hds)) (SP X pins D) X.xe t3) X.xe t2) X.xe t1) ?caught PassesOwn.looking).run [] s σ H D (I.toTry _) w0
  case caught =>
    rintro u t ⟨a, Bh, tI, pins1, σ1, H1, cls, d, rfl, Ia, nb, up, sky, na, os, ag, wish⟩
    have Ib : Inv X pins σ1 H1 tI := Ia.ofTry okX
    refine Sky.land Zc.steady frames fr (show Sky Bh (X.env :: X.outer) a (Zc cls d) X.env.locals t.heap by rw [← st]; exact sky) fun g fg ug => ?_
    have Ig : Inv X pins σ1 H1 { t with heap := g } := Ib.landed nb fg.1 (up.trans ug) os ag
    obtain ⟨o3, w3, at3, z3, d3⟩ := fg.there
    have out : a ∉ frs (X.env :: X.outer) := fun hm => by
      obtain ⟨_, o', e', no⟩ := fg.2.2.1.mem hm
      rw [at3] at e'
      cases e'
      exact no _ d3
    have aL : a ≠ X.env.locals := fun z => out (List.mem_filterMap.mpr ⟨X.env, List.mem_cons_self, by rw [fr, z]⟩)
    have aF : a ∉ X.fs := fun hm => by
      obtain ⟨e, he, q⟩ := List.mem_filterMap.mp hm
      exact out (List.mem_filterMap.mpr ⟨e, List.mem_cons_of_mem _ he, q⟩)
    have Sg := Ig.suite at3 d3 na aL aF
    have each : ∀ {hs2 : List ExceptHandler} {l2 : List Cls1}, HdsA X hs2 l2 → wManyA X.K Wo D l2 cls d σ1 H1 → wpAny (model X.prog X.w) X.A (handleBy (.ref a) X.env hs2) (SP X pins D) X.xe { t with heap := g } := by
      intro hs2 l2 hk
      induction hk with
      | nil =>
        intro w
        refine wpAny_handleBy_nil ?_
        obtain ⟨_, _, _, oe, vs, T, oT, _, e1, _, e2, e3, _⟩ := id fg
        unfold PySem.passOn
        refine wpAny_bind (wpAny_field e1 e2 e3 ?_)
        rw [if_neg (show ¬ ((Value.ref T == Value.none) = true) by simp)]
        have fin : wpAny (model X.prog X.w) X.A (setFlight (.ref a) X.env.frame) (fun _ t4 => wpAny (model X.prog X.w) X.A (throw (.ref a) : Sem Flow) (SP X pins D) X.xe t4) X.xe { t with heap := g } := by
          rw [fr]
          exact HandSPX.setFlight_upZ fg fun g4 hg4 ug4 => wpAny_throw (tk _ _ ⟨a, Bh, tI, pins, σ1, H1, cls, d, rfl, Ib, nb, (up.trans ug).trans ug4, .inr (.inr (by rw [st]; exact hg4)), na, os, ag, w⟩)
        first
        | exact wpAny_bind fin
        | exact wpAny_bind (wpAny_pure (wpAny_bind fin))
      | @cons x n k b0 su np ps hds2 l3 hi hk2 hc ok r ih =>
        rintro ⟨b, eb, yes, no⟩
        refine wpAny_handleBy_cons (codeAny_handlers_test ?_) (by intro q; cases q)
        have looks : PySem.W.Looks (model X.prog X.w) g (typeOf (.ref a)) cls := fun A Q E s k q => wpAny_typeOf_ref (k _ _ at3) (by rw [z3.1]; exact q)
        have named : ∀ {Q2 : Value → Shared → Prop} {E2 : Value → Shared → Prop}, Q2 k.c { t with heap := g } → wpAny (model X.prog X.w) (X.A.mark (some (.ref a))) (eval (.Name x np) X.env) Q2 E2 { t with heap := g } := fun q => by
          obtain ⟨g1, g2, g3 | ⟨g3, g4, g5⟩⟩ := hc
          · exact ld_glob (X := X.suite a ((a, o3) :: (X.pn ++ pins))) Sg g1 g3 q g2
          · exact ld_blt (X := X.suite a ((a, o3) :: (X.pn ++ pins))) Sg g1 g3 g4 q g5 g2
        refine named ((PySem.W.exm_one (M := model X.prog X.w) Ig.kIn looks eb).here ?_)
        cases b with
        | false => exact ih (no rfl)
        | true =>
          refine codeAny_handlers_suite_as (HandSPX.lands_againZ fg fun g4 fg4 ug4 => ?_)
          have I4 : Inv X pins σ1 H1 { t with heap := g4 } := Ib.landed nb fg4.1 ((up.trans ug).trans ug4) os ag
          obtain ⟨o4, w4, at4, z4, d4⟩ := fg4.there
          refine store_ok (X := X.suite a ((a, o4) :: (X.pn ++ pins))) (v := .ref a) (I4.suite at4 d4 na aL aF) nd hi (.inl hk2) rfl (fun t5 S5 => ?_) (.inr hk2)
          refine wpAny_mono ((ok a o4 cls d (X.pn ++ pins) z4 ⟨_, d4⟩).run [] t5 _ H1 _ S5 (yes rfl a na)) (fun f t6 sp => ?_) (fun _ _ z => z.elim)
          have gone : ∀ {σ6 : L2.St} {H6 : Hp} {Q2 : Shared → Prop}, Inv (X.suite a ((a, o4) :: (X.pn ++ pins))) [] σ6 H6 t6 → (∀ t7, Inv X pins (σ6.set k.i none) H6 t7 → Q2 t7) → wpAny (model X.prog X.w) X.A (do bindName X.env n .none; unbindBehindTheSuite X.env n ps) (fun _ t7 => Q2 t7) X.xe t6 := fun S6 hq => gone_ok (S6.unsuite okX) nd hi hk2 hq
          cases f with
          | ret u =>
            obtain ⟨v, σ6, H6, S6, r6, q6⟩ := sp
            exact gone S6 fun t7 I7 => ⟨_, _, _, I7, r6, q6⟩
          | next =>
            obtain ⟨σ6, H6, S6, q6⟩ := sp
            exact gone S6 fun t7 I7 => ⟨_, _, I7, q6⟩
          | brk =>
            obtain ⟨σ6, H6, S6, q6⟩ := sp
            exact gone S6 fun t7 I7 => ⟨_, _, I7, q6⟩
          | cont =>
            obtain ⟨σ6, H6, S6, q6⟩ := sp
            exact gone S6 fun t7 I7 => ⟨_, _, I7, q6⟩
    exact each hh wish
  refine wpAny_mono run (fun f t1 sp => ?_) (fun e t1 he => he)
  cases f with
  | ret u =>
    obtain ⟨v, σ1, H1, I1, r, q⟩ := sp
    exact ⟨v, σ1, H1, I1.ofTry okX, r, q⟩
  | next =>
    obtain ⟨σ1, H1, I1, q⟩ := sp
    exact wpAny_execs_nil ⟨σ1, H1, I1.ofTry okX, q⟩
  | brk =>
    obtain ⟨σ1, H1, I1, q⟩ := sp
    exact ⟨σ1, H1, I1.ofTry okX, q⟩
  | cont =>
    obtain ⟨σ1, H1, I1, q⟩ := sp
    exact ⟨σ1, H1, I1.ofTry okX, q⟩
end
end Q

set_option Elab.async false
set_option linter.all false
set_option maxRecDepth 100000
set_option maxHeartbeats 4000000
/-! walks over what is a list or a tuple; list.count of whole numbers -/
namespace Q
open PySem PySem.Spec PyProof.Rows L2
def iB (K : PySem.W.Frag) (te : TE) : TI := fun σ H R => te σ H fun x H1 => ∃ a, x = .ref a ∧ (((∃ xs, SqL K H1 a xs) ∧ R (Itl K a) H1) ∨ ((∃ xs, SqT K H1 a xs) ∧ R (Itt K a) H1))
theorem pi_B {X : Cx} {tg l : Expr} {te : TE} (hl : PE X l te) : PI X tg l (iB X.K te) := by
  refine ⟨fun pins s σ H R I h => thn (hl.run pins s σ H _ I h) fun v s1 z => ?_⟩
  obtain ⟨x, H1, I1, rx, a, rfl, z⟩ := z
  cases rx
  have own : ∀ b ∈ [s1.heap.objs.size], FpOk X pins H1 b := fun b hb => by
    obtain rfl : b = s1.heap.objs.size := by simpa using hb
    exact I1.fpOk (Nat.le_refl _) (I1.hok.fresh (Nat.le_refl _))
  rcases z with ⟨⟨xs, hq⟩, q⟩ | ⟨⟨xs, hq⟩, q⟩
  · obtain ⟨its, _, p, _⟩ := I1.list hq
    exact wpAny_pyIter_list p.isList ⟨s1.heap.objs.size, [s1.heap.objs.size], _, _, H1, rfl, I1.kept (t' := s1.toks) fun b o e => Heap.get?_push_of_some _ e, turn_list a _, ⟨_, Heap.get?_push_size _ rfl, rfl, rfl⟩, own, q⟩
  · obtain ⟨its, _, p, _⟩ := I1.tuple hq
    exact wpAny_pyIter_tuple (show s1.heap.IsTuple a its.toArray from p) ⟨s1.heap.objs.size, [s1.heap.objs.size], _, _, H1, rfl, I1.kept (t' := s1.toks) fun b o e => Heap.get?_push_of_some _ e, turn_tuple a _, ⟨_, Heap.get?_push_size _ rfl, rfl, rfl⟩, own, q⟩
theorem k_piB {X : Cx} {K : PySem.W.Frag} {tg l : Expr} {te : TE} (e : X.K = K) (hl : PE X l te) : PI X tg l (iB K te) := by subst e; exact pi_B hl
theorem k_lcount {X : Cx} {K : PySem.W.Frag} (e : X.K = K) : MtR X "list.count" (rCntI K) := by subst e; exact mt_lcount
section
variable {K : PySem.W.Frag} {g : TG} {tt : TT} {te : TE} {tb : TS} {vs : List Nat} {D0 : Ends} {σ σ0 : L2.St} {H : Hp} {Q : VK} {a : Addr} {R : It → Hp → Prop}
def BR (K : PySem.W.Frag) (R : It → Hp → Prop) (x : V) (H1 : Hp) : Prop := ∃ a, x = .ref a ∧ (((∃ xs, SqL K H1 a xs) ∧ R (Itl K a) H1) ∨ ((∃ xs, SqT K H1 a xs) ∧ R (Itt K a) H1))
theorem g_iB {tl : TE} (h : tl σ H (BR K R)) : iB K tl σ H R := h
instance st_g_iB {tl : TE} : Step (iB K tl σ H R) (tl σ H (BR K R)) := ⟨fun z => g_iB z⟩
theorem g_bR {xs : List V} (c : SqL K H a xs ∨ SqT K H a xs) (h1 : SqL K H a xs → R (Itl K a) H) (h2 : SqT K H a xs → R (Itt K a) H) : BR K R (.ref a) H := by
  rcases c with c | c
  · exact ⟨a, rfl, .inl ⟨⟨xs, c⟩, h1 c⟩⟩
  · exact ⟨a, rfl, .inr ⟨⟨xs, c⟩, h2 c⟩⟩
theorem keep_sm {H' : Hp} {xs : List V} (s : L2.Same H H') : (SqL K H a xs → SqL K H' a xs) ∧ (SqT K H a xs → SqT K H' a xs) := ⟨sqL_sm s, seqT_same s⟩
theorem lcB {xs : List V} (c : SqL K H a xs ∨ SqT K H a xs) (hw : wipe σ vs = σ0) (h : ∀ D, H D = none → ∃ Pv : Nat → Hp → Prop, Pv 0 (upd H D (.lst [])) ∧ (∀ i H', i ≤ xs.length → Pv i H' → (SqL K H a xs → SqL K H' a xs) ∧ (SqT K H a xs → SqT K H' a xs)) ∧
    (∀ (i : Nat) (x : V) (H' : Hp), xs[i]? = some x → Pv i H' → Turn1 g tt te vs σ0 D x H' (Pv (i + 1))) ∧ ∀ H', Pv xs.length H' → Q (.ref D) H') : BR K (fun J H1 => LcG J g tt te vs σ Q H1) (.ref a) H := by
  refine g_bR c (fun z => lcL (xs := xs) hw fun D hD => ?_) (fun z => lcT (xs := xs) hw fun D hD => ?_)
  · obtain ⟨Pv, h0, hl, hs, hd⟩ := h D hD
    exact ⟨Pv, h0, fun i H' hi p => (hl i H' hi p).1 z, hs, hd⟩
  · obtain ⟨Pv, h0, hl, hs, hd⟩ := h D hD
    exact ⟨Pv, h0, fun i H' hi p => (hl i H' hi p).2 z, hs, hd⟩
theorem forB {xs : List V} (c : SqL K H a xs ∨ SqT K H a xs) (h : ∃ Pv : Nat → L2.St → Hp → Prop, Pv 0 σ H ∧ (∀ i σ' H', i ≤ xs.length → Pv i σ' H' → (SqL K H a xs → SqL K H' a xs) ∧ (SqT K H a xs → SqT K H' a xs)) ∧
    (∀ i x σ' H', xs[i]? = some x → Pv i σ' H' → g x σ' H' fun σ2 H2 => tb { D0 with nx := Pv (i + 1), ct := Pv (i + 1), bk := D0.nx } σ2 H2) ∧ ∀ σ' H', Pv xs.length σ' H' → D0.nx σ' H') : BR K (fun J H1 => ForG J g tb D0 σ H1) (.ref a) H := by
  obtain ⟨Pv, h0, hl, hs, hd⟩ := h
  exact g_bR c (fun z => forL (xs := xs) ⟨Pv, h0, fun i σ' H' hi p => (hl i σ' H' hi p).1 z, hs, hd⟩) (fun z => forT (xs := xs) ⟨Pv, h0, fun i σ' H' hi p => (hl i σ' H' hi p).2 z, hs, hd⟩)
theorem g_lcount {p : Addr} {ns : List Int} {k : Int} (h : SqL K H p (ns.map V.int)) (q : Q (.int (ns.count k : Nat)) H) : rCntI K (.ref p) [.int k] H Q := ⟨p, ns, k, rfl, rfl, h, q⟩
end
end Q
-- step instances

set_option Elab.async false
set_option linter.all false
set_option maxRecDepth 100000
set_option maxHeartbeats 4000000
/-! data as trees; what stays while certain addresses alone are written; comprehensions over such data -/
namespace Q
open PySem PySem.Spec L2
section
variable {K : PySem.W.Frag}
theorem dp_same {H H' : Hp} (s : Same H H') : ∀ {v : V} {d : PyData}, Dp K H v d → Dp K H' v d := by
  intro v d h
  exact Dp.rec (motive_1 := fun v d _ => Dp K H' v d) (motive_2 := fun vs ds _ => DpAll K H' vs ds) .non (fun b => .bl b) (fun i => .int i) (fun x => .str x)
    (fun h1 _ ih => .lst (s.seq h1) ih) (fun h1 _ ih => .tup (seqT_same s h1) ih) .nil (fun _ _ i1 i2 => .cons i1 i2) h
theorem dpAll_len {H : Hp} : ∀ {vs : List V} {ds : List PyData}, DpAll K H vs ds → vs.length = ds.length
  | _, _, .nil => rfl
  | _, _, .cons _ h => congrArg Nat.succ (dpAll_len h)
theorem dpAll_at {H : Hp} : ∀ {vs : List V} {ds : List PyData} {i : Nat} {v : V}, DpAll K H vs ds → vs[i]? = some v → ∃ d, ds[i]? = some d ∧ Dp K H v d
  | _, _, i, v, .nil, e => by simp at e
  | _, _, 0, v, .cons (d := d) h _, e => ⟨d, rfl, by
      obtain rfl := Option.some.inj e
      exact h⟩
  | _, _, i + 1, v, .cons _ h, e => dpAll_at (i := i) h e
theorem all_rep (n : Nat) : (List.replicate n true).all id = true := by
  induction n with
  | zero => rfl
  | succ n ih => rw [List.replicate_succ, List.all_cons, ih]; rfl
mutual
def smallD : PyData → Bool
  | .list xs => decide (xs.length ≤ 1000) && smallAll xs
  | .tuple xs => decide (xs.length ≤ 1000) && smallAll xs
  | _ => true
def smallAll : List PyData → Bool
  | [] => true
  | x :: xs => smallD x && smallAll xs
end
theorem smallAll_mem : ∀ {xs : List PyData} {x : PyData}, smallAll xs = true → x ∈ xs → smallD x = true
  | y :: ys, x, h, m => by
    have h2 : (smallD y && smallAll ys) = true := h
    rw [Bool.and_eq_true] at h2
    rcases List.mem_cons.mp m with e | m
    · rw [e]; exact h2.1
    · exact smallAll_mem h2.2 m
theorem dpAll_same {H H' : Hp} (s : Same H H') : ∀ {xs : List V} {ds : List PyData}, DpAll K H xs ds → DpAll K H' xs ds
  | _, _, .nil => .nil
  | _, _, .cons h hs => .cons (dp_same s h) (dpAll_same s hs)
/-- what is written stands in S -/
def ChgS (S : Addr → Prop) (H H' : Hp) : Prop := ∀ b o, ¬ S b → H b = some o → H' b = some o
theorem ChgS.refl {S : Addr → Prop} {H : Hp} : ChgS S H H := fun _ _ _ h => h
theorem ChgS.trans {S : Addr → Prop} {H H1 H2 : Hp} (x : ChgS S H H1) (y : ChgS S H1 H2) : ChgS S H H2 := fun b o n h => y b o n (x b o n h)
theorem toS {S : Addr → Prop} {a : Addr} {H H' : Hp} (c : Chg a H H') (s : S a) : ChgS S H H' := fun b o n h => c b o (fun e => n (e ▸ s)) h
mutual
inductive Dq (K : PySem.W.Frag) (S : Addr → Prop) (H : Hp) : V → PyData → Prop where
  | non : Dq K S H .non .none
  | bl (b : Bool) : Dq K S H (.bl b) (.bool b)
  | int (i : Int) : Dq K S H (.int i) (.int i)
  | str (x : Str) : Dq K S H (.str x) (.str x)
  | lst {b : Addr} {xs : List V} {ds : List PyData} : (∀ H', ChgS S H H' → H' b = some (.lst xs)) → DqAll K S H xs ds → Dq K S H (.ref b) (.list ds)
  | tup {b : Addr} {xs : List V} {ds : List PyData} : (∀ H', ChgS S H H' → SqT K H' b xs) → DqAll K S H xs ds → Dq K S H (.ref b) (.tuple ds)
inductive DqAll (K : PySem.W.Frag) (S : Addr → Prop) (H : Hp) : List V → List PyData → Prop where
  | nil : DqAll K S H [] []
  | cons {v : V} {vs : List V} {d : PyData} {ds : List PyData} : Dq K S H v d → DqAll K S H vs ds → DqAll K S H (v :: vs) (d :: ds)
end
mutual
theorem Dq.tr {S S2 : Addr → Prop} {H H2 : Hp} (c : ∀ H', ChgS S2 H2 H' → ChgS S H H') : ∀ {x : V} {d : PyData}, Dq K S H x d → Dq K S2 H2 x d
  | _, _, .non => .non
  | _, _, .bl b => .bl b
  | _, _, .int i => .int i
  | _, _, .str z => .str z
  | _, _, .lst h hs => .lst (fun H3 c2 => h H3 (c H3 c2)) (DqAll.tr c hs)
  | _, _, .tup h hs => .tup (fun H3 c2 => h H3 (c H3 c2)) (DqAll.tr c hs)
theorem DqAll.tr {S S2 : Addr → Prop} {H H2 : Hp} (c : ∀ H', ChgS S2 H2 H' → ChgS S H H') : ∀ {xs : List V} {ds : List PyData}, DqAll K S H xs ds → DqAll K S2 H2 xs ds
  | _, _, .nil => .nil
  | _, _, .cons h hs => .cons (Dq.tr c h) (DqAll.tr c hs)
end
theorem Dq.chg {S : Addr → Prop} {H H' : Hp} (c : ChgS S H H') {x : V} {d : PyData} (h : Dq K S H x d) : Dq K S H' x d := h.tr fun _ c2 => c.trans c2
theorem DqAll.chg {S : Addr → Prop} {H H' : Hp} (c : ChgS S H H') {xs : List V} {ds : List PyData} (h : DqAll K S H xs ds) : DqAll K S H' xs ds := h.tr fun _ c2 => c.trans c2
mutual
theorem Dq.dp {S : Addr → Prop} {H : Hp} : ∀ {x : V} {d : PyData}, Dq K S H x d → Dp K H x d
  | _, _, .non => .non
  | _, _, .bl b => .bl b
  | _, _, .int i => .int i
  | _, _, .str z => .str z
  | _, _, .lst h hs => .lst (.of (h H ChgS.refl)) (DqAll.dp hs)
  | _, _, .tup h hs => .tup (h H ChgS.refl) (DqAll.dp hs)
theorem DqAll.dp {S : Addr → Prop} {H : Hp} : ∀ {xs : List V} {ds : List PyData}, DqAll K S H xs ds → DpAll K H xs ds
  | _, _, .nil => .nil
  | _, _, .cons h hs => .cons (Dq.dp h) (DqAll.dp hs)
end
theorem DqAll.len {S : Addr → Prop} {H : Hp} {xs : List V} {ds : List PyData} (h : DqAll K S H xs ds) : xs.length = ds.length := dpAll_len h.dp
theorem DqAll.app {S : Addr → Prop} {H : Hp} : ∀ {xs ys : List V} {ds es : List PyData}, DqAll K S H xs ds → DqAll K S H ys es → DqAll K S H (xs ++ ys) (ds ++ es)
  | _, _, _, _, .nil, h2 => h2
  | _, _, _, _, .cons h hs, h2 => .cons h (DqAll.app hs h2)
theorem DqAll.take {S : Addr → Prop} {H : Hp} : ∀ (n : Nat) {xs : List V} {ds : List PyData}, DqAll K S H xs ds → DqAll K S H (xs.take n) (ds.take n)
  | 0, _, _, _ => by rw [List.take_zero, List.take_zero]; exact .nil
  | _ + 1, _, _, .nil => .nil
  | n + 1, _, _, .cons h hs => .cons h (DqAll.take n hs)
theorem DqAll.drop {S : Addr → Prop} {H : Hp} : ∀ (n : Nat) {xs : List V} {ds : List PyData}, DqAll K S H xs ds → DqAll K S H (xs.drop n) (ds.drop n)
  | 0, _, _, h => h
  | _ + 1, _, _, .nil => .nil
  | n + 1, _, _, .cons _ hs => DqAll.drop n hs
theorem DqAll.set {S : Addr → Prop} {H : Hp} {y : V} {e : PyData} (hy : Dq K S H y e) : ∀ (n : Nat) {xs : List V} {ds : List PyData}, DqAll K S H xs ds → DqAll K S H (xs.set n y) (ds.set n e)
  | _, _, _, .nil => .nil
  | 0, _, _, .cons _ hs => .cons hy hs
  | n + 1, _, _, .cons h hs => .cons h (DqAll.set hy n hs)
theorem DqAll.at {S : Addr → Prop} {H : Hp} : ∀ {xs : List V} {ds : List PyData} {i : Nat} {v : V}, DqAll K S H xs ds → xs[i]? = some v → ∃ d, ds[i]? = some d ∧ Dq K S H v d
  | _, _, 0, _, .cons h _, e => ⟨_, rfl, by rw [← Option.some.inj e]; exact h⟩
  | _, _, n + 1, _, .cons _ hs, e => DqAll.at (i := n) hs e
theorem dq_new {S : Addr → Prop} {b : Addr} {H : Hp} {xs : List V} {ds : List PyData} (n : ¬ S b) (h : H b = some (.lst xs)) (hs : DqAll K S H xs ds) : Dq K S H (.ref b) (.list ds) :=
  .lst (fun H' c => c b _ n h) hs
theorem dq_newT {S : Addr → Prop} {b : Addr} {H : Hp} {xs : List V} {ds : List PyData} (n : ¬ S b) (h : H b = some (.tup xs)) (hs : DqAll K S H xs ds) : Dq K S H (.ref b) (.tuple ds) :=
  .tup (fun H' c => .inl (.inl (c b _ n h))) hs
/-- what may be written is there already -/
def Al (S : Addr → Prop) (H : Hp) : Prop := ∀ s, S s → H s ≠ none
theorem Al.no {S : Addr → Prop} {H : Hp} {p : Addr} (h : Al S H) (hp : H p = none) : ¬ S p := fun z => h p z hp
mutual
/-- the depth and the lengths of data are bounded -/
def bndD : Nat → Nat → PyData → Bool
  | n, m, .list xs => decide (0 < n) && (decide (xs.length ≤ m) && bndAll (n - 1) m xs)
  | n, m, .tuple xs => decide (0 < n) && (decide (xs.length ≤ m) && bndAll (n - 1) m xs)
  | _, _, .dict _ => false
  | _, _, .str s => PyData.strOk s
  | _, _, _ => true
def bndAll : Nat → Nat → List PyData → Bool
  | _, _, [] => true
  | n, m, x :: xs => bndD n m x && bndAll n m xs
end
theorem bndAll_iff {n m : Nat} : ∀ {xs : List PyData}, bndAll n m xs = true ↔ ∀ x ∈ xs, bndD n m x = true
  | [] => ⟨fun _ x hx => absurd hx List.not_mem_nil, fun _ => rfl⟩
  | x :: xs => by
    show (bndD n m x && bndAll n m xs) = true ↔ _
    rw [Bool.and_eq_true, bndAll_iff, List.forall_mem_cons]
theorem bnd_list {n m : Nat} {xs : List PyData} : bndD n m (.list xs) = true ↔ 0 < n ∧ xs.length ≤ m ∧ ∀ x ∈ xs, bndD (n - 1) m x = true := by
  show (decide (0 < n) && (decide (xs.length ≤ m) && bndAll (n - 1) m xs)) = true ↔ _
  rw [Bool.and_eq_true, Bool.and_eq_true, decide_eq_true_iff, decide_eq_true_iff, bndAll_iff]
theorem bnd_tup {n m : Nat} {xs : List PyData} : bndD n m (.tuple xs) = true ↔ 0 < n ∧ xs.length ≤ m ∧ ∀ x ∈ xs, bndD (n - 1) m x = true := by
  show (decide (0 < n) && (decide (xs.length ≤ m) && bndAll (n - 1) m xs)) = true ↔ _
  rw [Bool.and_eq_true, Bool.and_eq_true, decide_eq_true_iff, decide_eq_true_iff, bndAll_iff]
mutual
theorem bnd_mono : ∀ {n m n2 m2 : Nat} {d : PyData}, bndD n m d = true → n ≤ n2 → m ≤ m2 → bndD n2 m2 d = true
  | n, m, n2, m2, .list xs, h, h1, h2 => by
    show (decide (0 < n2) && (decide (xs.length ≤ m2) && bndAll (n2 - 1) m2 xs)) = true
    have z : (decide (0 < n) && (decide (xs.length ≤ m) && bndAll (n - 1) m xs)) = true := h
    rw [Bool.and_eq_true, Bool.and_eq_true] at z ⊢
    have z1 := of_decide_eq_true z.1
    have z2 := of_decide_eq_true z.2.1
    exact ⟨decide_eq_true (by omega), decide_eq_true (by omega), bnd_monos z.2.2 (by omega) h2⟩
  | n, m, n2, m2, .tuple xs, h, h1, h2 => by
    show (decide (0 < n2) && (decide (xs.length ≤ m2) && bndAll (n2 - 1) m2 xs)) = true
    have z : (decide (0 < n) && (decide (xs.length ≤ m) && bndAll (n - 1) m xs)) = true := h
    rw [Bool.and_eq_true, Bool.and_eq_true] at z ⊢
    have z1 := of_decide_eq_true z.1
    have z2 := of_decide_eq_true z.2.1
    exact ⟨decide_eq_true (by omega), decide_eq_true (by omega), bnd_monos z.2.2 (by omega) h2⟩
  | _, _, _, _, .none, _, _, _ => rfl
  | _, _, _, _, .bool _, _, _, _ => rfl
  | _, _, _, _, .int _, _, _, _ => rfl
  | _, _, _, _, .str _, h, _, _ => h
  | _, _, _, _, .dict _, h, _, _ => Bool.noConfusion h
theorem bnd_monos : ∀ {n m n2 m2 : Nat} {ds : List PyData}, bndAll n m ds = true → n ≤ n2 → m ≤ m2 → bndAll n2 m2 ds = true
  | _, _, _, _, [], _, _, _ => rfl
  | n, m, n2, m2, d :: ds, h, h1, h2 => by
    have z : (bndD n m d && bndAll n m ds) = true := h
    rw [Bool.and_eq_true] at z
    show (bndD n2 m2 d && bndAll n2 m2 ds) = true
    rw [bnd_mono z.1 h1 h2, bnd_monos z.2 h1 h2]
    rfl
end
mutual
theorem bnd_small : ∀ {n m : Nat} {d : PyData}, bndD n m d = true → m ≤ 1000 → smallD d = true
  | n, m, .list xs, h, h1 => by
    have z : (decide (0 < n) && (decide (xs.length ≤ m) && bndAll (n - 1) m xs)) = true := h
    rw [Bool.and_eq_true, Bool.and_eq_true] at z
    have z2 := of_decide_eq_true z.2.1
    show (decide (xs.length ≤ 1000) && smallAll xs) = true
    rw [bnd_smalls z.2.2 h1, decide_eq_true (by omega)]
    rfl
  | n, m, .tuple xs, h, h1 => by
    have z : (decide (0 < n) && (decide (xs.length ≤ m) && bndAll (n - 1) m xs)) = true := h
    rw [Bool.and_eq_true, Bool.and_eq_true] at z
    have z2 := of_decide_eq_true z.2.1
    show (decide (xs.length ≤ 1000) && smallAll xs) = true
    rw [bnd_smalls z.2.2 h1, decide_eq_true (by omega)]
    rfl
  | _, _, .none, _, _ => rfl
  | _, _, .bool _, _, _ => rfl
  | _, _, .int _, _, _ => rfl
  | _, _, .str _, _, _ => rfl
  | _, _, .dict _, h, _ => Bool.noConfusion h
theorem bnd_smalls : ∀ {n m : Nat} {ds : List PyData}, bndAll n m ds = true → m ≤ 1000 → smallAll ds = true
  | _, _, [], _, _ => rfl
  | n, m, d :: ds, h, h1 => by
    have z : (bndD n m d && bndAll n m ds) = true := h
    rw [Bool.and_eq_true] at z
    show (smallD d && smallAll ds) = true
    rw [bnd_small z.1 h1, bnd_smalls z.2 h1]
    rfl
end
mutual
theorem bnd_depth : ∀ {n m : Nat} {d : PyData}, bndD n m d = true → d.depth ≤ n
  | n, m, .list xs, h => by
    have z : (decide (0 < n) && (decide (xs.length ≤ m) && bndAll (n - 1) m xs)) = true := h
    rw [Bool.and_eq_true, Bool.and_eq_true] at z
    have z1 := of_decide_eq_true z.1
    have z2 := bnd_depths z.2.2
    show PyData.depthAll xs + 1 ≤ n
    omega
  | n, m, .tuple xs, h => by
    have z : (decide (0 < n) && (decide (xs.length ≤ m) && bndAll (n - 1) m xs)) = true := h
    rw [Bool.and_eq_true, Bool.and_eq_true] at z
    have z1 := of_decide_eq_true z.1
    have z2 := bnd_depths z.2.2
    show PyData.depthAll xs + 1 ≤ n
    omega
  | _, _, .none, _ => Nat.zero_le _
  | _, _, .bool _, _ => Nat.zero_le _
  | _, _, .int _, _ => Nat.zero_le _
  | _, _, .str _, _ => Nat.zero_le _
  | _, _, .dict _, h => Bool.noConfusion h
theorem bnd_depths : ∀ {n m : Nat} {ds : List PyData}, bndAll n m ds = true → PyData.depthAll ds ≤ n
  | _, _, [], _ => Nat.zero_le _
  | n, m, d :: ds, h => by
    have z : (bndD n m d && bndAll n m ds) = true := h
    rw [Bool.and_eq_true] at z
    have z1 := bnd_depth z.1
    have z2 := bnd_depths z.2
    show max d.depth (PyData.depthAll ds) ≤ n
    omega
end
mutual
theorem bnd_can : ∀ {n m : Nat} {d : PyData}, bndD n m d = true → d.canLay0 = true
  | n, m, .list xs, h => by
    have z : (decide (0 < n) && (decide (xs.length ≤ m) && bndAll (n - 1) m xs)) = true := h
    rw [Bool.and_eq_true, Bool.and_eq_true] at z
    exact bnd_cans z.2.2
  | n, m, .tuple xs, h => by
    have z : (decide (0 < n) && (decide (xs.length ≤ m) && bndAll (n - 1) m xs)) = true := h
    rw [Bool.and_eq_true, Bool.and_eq_true] at z
    exact bnd_cans z.2.2
  | _, _, .none, _ => rfl
  | _, _, .bool _, _ => rfl
  | _, _, .int _, _ => rfl
  | _, _, .str _, h => h
  | _, _, .dict _, h => Bool.noConfusion h
theorem bnd_cans : ∀ {n m : Nat} {ds : List PyData}, bndAll n m ds = true → PyData.canLayAll0 ds = true
  | _, _, [], _ => rfl
  | n, m, d :: ds, h => by
    have z : (bndD n m d && bndAll n m ds) = true := h
    rw [Bool.and_eq_true] at z
    show (PyData.canLay0 d && PyData.canLayAll0 ds) = true
    rw [bnd_can z.1, bnd_cans z.2]
    rfl
end
theorem bnd_shaped {n m : Nat} {d : PyData} (h : bndD n m d = true) (h1 : n ≤ 64) : SeqAt.shaped d = true := by
  have h2 := bnd_depth h
  unfold SeqAt.shaped
  rw [bnd_can h, Bool.true_and]
  exact decide_eq_true (by omega)
/-- numbers of a range -/
def isNum (x : V) (l m : Int) : Bool := match x with | .int i => decide (l ≤ i) && decide (i ≤ m) | _ => false
def NumN (x : V) : Prop := (∃ i, x = .int i) ∨ x = .non
theorem isNum_int {x : V} {l m : Int} (h : NumN x) (e : isNum x l m = true) : ∃ i, x = .int i ∧ l ≤ i ∧ i ≤ m := by
  rcases h with ⟨i, rfl⟩ | rfl
  · have e2 : (decide (l ≤ i) && decide (i ≤ m)) = true := e
    rw [Bool.and_eq_true] at e2
    exact ⟨i, rfl, of_decide_eq_true e2.1, of_decide_eq_true e2.2⟩
  · exact absurd (show false = true from e) (by decide)
theorem get_lt {α : Type} {xs : List α} {i : Nat} (h : i < xs.length) : ∃ v, xs[i]? = some v := ⟨xs[i], List.getElem?_eq_getElem h⟩
theorem at_pos {xs : List V} {i : Int} {v : V} (h : 0 ≤ i) (hv : xs[i.toNat]? = some v) : atI xs i = some v := by
  have e : i = ((i.toNat : Nat) : Int) := by omega
  rw [e]
  exact atI_nat hv
theorem bne_t {b : Bool} (h : ¬ b = true) : b = false := by
  cases b
  · rfl
  · exact absurd rfl h
/-- the bag of a law -/
def Bag (H : Hp) (a l : Addr) : Prop := ∃ (ns : List Int) (i g m c : Int),
  H a = some (.lst [.ref l, .int i, .int g, .int m, .int c]) ∧ H l = some (.lst (ns.map V.int)) ∧ l ≠ a ∧
  0 ≤ i ∧ 0 ≤ g ∧ 0 ≤ m ∧ m < 2147483648 ∧ 0 ≤ c

theorem bag_new {H : Hp} {a l p : Addr} {o : HO} (h : Bag H a l) (hp : H p = none) : Bag (L2.upd H p o) a l := by
  obtain ⟨ns, i, g, m, c, hB, hl, r⟩ := h
  exact ⟨ns, i, g, m, c, h_ne (ne_of_none hB hp) hB, h_ne (ne_of_none hl hp) hl, r⟩
theorem bag_sm {H H' : Hp} {a l : Addr} (h : Bag H a l) (s : Same H H') : Bag H' a l := by
  obtain ⟨ns, i, g, m, c, hB, hl, r⟩ := h
  exact ⟨ns, i, g, m, c, s _ _ hB, s _ _ hl, r⟩
theorem bag_chg {H : Hp} {a l D : Addr} {o : HO} (h : Bag H a l) (h1 : D ≠ a) (h2 : D ≠ l) : Bag (L2.upd H D o) a l := by
  obtain ⟨ns, i, g, m, c, hB, hl, r⟩ := h
  exact ⟨ns, i, g, m, c, h_ne (Ne.symm h1) hB, h_ne (Ne.symm h2) hl, r⟩
theorem bag_apart {H : Hp} {a l D : Addr} (h : Bag H a l) (hD : H D = none) : D ≠ a ∧ D ≠ l := by
  obtain ⟨ns, i, g, m, c, hB, hl, r⟩ := h
  exact ⟨Ne.symm (ne_of_none hB hD), Ne.symm (ne_of_none hl hD)⟩
theorem ne_bag {H : Hp} {a l p : Addr} (h : Bag H a l) (hp : H p = none) : p ≠ a := by
  obtain ⟨ns, i, g, m, c, hB, _⟩ := h
  exact Ne.symm (ne_of_none hB hp)

/-! steps that write in S alone and lose nothing -/
structure Go (S : Addr → Prop) (H H' : Hp) : Prop where
  st : ChgS S H H'
  al : ∀ b, H b ≠ none → H' b ≠ none
theorem Go.refl {S : Addr → Prop} {H : Hp} : Go S H H := ⟨ChgS.refl, fun _ h => h⟩
theorem Go.trans {S : Addr → Prop} {H H1 H2 : Hp} (x : Go S H H1) (y : Go S H1 H2) : Go S H H2 := ⟨x.st.trans y.st, fun b h => y.al b (x.al b h)⟩
theorem al_sm {H H' : Hp} (s : Same H H') (b : Addr) (h : H b ≠ none) : H' b ≠ none := fun z => by
  cases e : H b with
  | none => exact h e
  | some o => rw [s b o e] at z; cases z
theorem Go.sm {S : Addr → Prop} {H H' : Hp} (s : Same H H') : Go S H H' := ⟨fun b o _ e => s b o e, al_sm s⟩
theorem Go.put {S : Addr → Prop} {H : Hp} {D : Addr} {o : HO} (s : S D) : Go S H (upd H D o) := by
  refine ⟨fun b u n e => by rw [upd_ne (fun z => n (by rw [z]; exact s))]; exact e, fun b h => ?_⟩
  by_cases z : b = D
  · rw [z, upd_same]; exact fun z => by cases z
  · rw [upd_ne z]; exact h
theorem Go.new {S : Addr → Prop} {H : Hp} {p : Addr} {o : HO} (hp : H p = none) : Go S H (upd H p o) := Go.sm (same_new hp)
theorem Go.bag {S : Addr → Prop} {H H' : Hp} {a l : Addr} (c : Chg a H H') (B : Bag H' a l) (s : S a) : Go S H H' := by
  refine ⟨toS c s, fun b h z => ?_⟩
  by_cases e : b = a
  · obtain ⟨_, _, _, _, _, e1, _⟩ := B
    rw [e, e1] at z
    cases z
  · cases hh : H b with
    | none => exact h hh
    | some o => rw [c b o e hh] at z; cases z
theorem Al.go {S : Addr → Prop} {H H' : Hp} (h : Al S H) (g : Go S H H') : Al S H' := fun s hs => g.al s (h s hs)
theorem Al.sm {S : Addr → Prop} {H H' : Hp} (h : Al S H) (g : Same H H') : Al S H' := fun s hs => al_sm g s (h s hs)
theorem Al.bag {S : Addr → Prop} {H H' : Hp} {a l : Addr} (h : Al S H) (c : Chg a H H') (B : Bag H' a l) (sa : S a) : Al S H' := h.go (Go.bag c B sa)
theorem Dq.go {S : Addr → Prop} {H H' : Hp} (g : Go S H H') {x : V} {d : PyData} (h : Dq K S H x d) : Dq K S H' x d := h.chg g.st
theorem Dq.sm {S : Addr → Prop} {H H' : Hp} (g : Same H H') {x : V} {d : PyData} (h : Dq K S H x d) : Dq K S H' x d := h.chg fun b o _ e => g b o e
theorem DqAll.sm {S : Addr → Prop} {H H' : Hp} (g : Same H H') {x : List V} {d : List PyData} (h : DqAll K S H x d) : DqAll K S H' x d := h.chg fun b o _ e => g b o e
theorem DqAll.go {S : Addr → Prop} {H H' : Hp} (g : Go S H H') {x : List V} {d : List PyData} (h : DqAll K S H x d) : DqAll K S H' x d := h.chg g.st
def SD (S : Addr → Prop) (D : Addr) : Addr → Prop := fun b => S b ∨ b = D
theorem al_sd {S : Addr → Prop} {D : Addr} {H : Hp} (h : Al S H) (hD : H D ≠ none) : Al (SD S D) H := fun b hb => by
  rcases hb with hb | hb
  · exact h b hb
  · rw [hb]; exact hD
theorem chg_in {S : Addr → Prop} {D : Addr} {H H' : Hp} (hD : H D = none) (c : ∀ b o, ¬ S b → b ≠ D → H b = some o → H' b = some o) : ∀ H2, ChgS (SD S D) H' H2 → ChgS S H H2 := fun H2 c2 b o n e => by
  have nb : b ≠ D := ne_of_none e hD
  exact c2 b o (fun z => z.elim n nb) (c b o n nb e)
theorem Dq.in {S : Addr → Prop} {D : Addr} {H H' : Hp} (hD : H D = none) (c : ∀ b o, ¬ S b → b ≠ D → H b = some o → H' b = some o) {x : V} {d : PyData} (h : Dq K S H x d) : Dq K (SD S D) H' x d := h.tr (chg_in hD c)
theorem DqAll.in {S : Addr → Prop} {D : Addr} {H H' : Hp} (hD : H D = none) (c : ∀ b o, ¬ S b → b ≠ D → H b = some o → H' b = some o) {x : List V} {d : List PyData} (h : DqAll K S H x d) : DqAll K (SD S D) H' x d := h.tr (chg_in hD c)
theorem Dq.out {S : Addr → Prop} {D : Addr} {H : Hp} {x : V} {d : PyData} (h : Dq K (SD S D) H x d) : Dq K S H x d := h.tr fun H2 c2 b o n e => c2 b o (fun z => n (.inl z)) e
theorem DqAll.out {S : Addr → Prop} {D : Addr} {H : Hp} {x : List V} {d : List PyData} (h : DqAll K (SD S D) H x d) : DqAll K S H x d := h.tr fun H2 c2 b o n e => c2 b o (fun z => n (.inl z)) e
theorem Dq.list_inv {S : Addr → Prop} {H : Hp} {x : V} {ds : List PyData} (h : Dq K S H x (.list ds)) : ∃ b xs, x = .ref b ∧ H b = some (.lst xs) ∧ DqAll K S H xs ds ∧ ¬ S b := by
  cases h with
  | @lst b xs _ h hs =>
    refine ⟨b, xs, rfl, h H ChgS.refl, hs, fun sb => ?_⟩
    have e := h (upd H b (.lst (xs ++ [.non]))) (fun c o n e => by rw [upd_ne (fun z => n (by rw [z]; exact sb))]; exact e)
    rw [upd_same] at e
    have e2 : xs ++ [V.non] = xs := by
      injection e with e
      injection e
    have e3 := congrArg List.length e2
    rw [List.length_append] at e3
    simp at e3
theorem Dq.tup_inv {S : Addr → Prop} {H : Hp} {x : V} {ds : List PyData} (h : Dq K S H x (.tuple ds)) : ∃ b xs, x = .ref b ∧ SqT K H b xs ∧ DqAll K S H xs ds := by
  cases h with
  | tup h hs => exact ⟨_, _, rfl, h H ChgS.refl, hs⟩
theorem Dq.int_inv {S : Addr → Prop} {H : Hp} {x : V} {i : Int} (h : Dq K S H x (.int i)) : x = .int i := by cases h; rfl
theorem Dq.str_inv {S : Addr → Prop} {H : Hp} {x : V} {i : Str} (h : Dq K S H x (.str i)) : x = .str i := by cases h; rfl
theorem Dq.bl_inv {S : Addr → Prop} {H : Hp} {x : V} {i : Bool} (h : Dq K S H x (.bool i)) : x = .bl i := by cases h; rfl
theorem Dq.non_inv {S : Addr → Prop} {H : Hp} {x : V} (h : Dq K S H x .none) : x = .non := by cases h; rfl
theorem DqAll.get {S : Addr → Prop} {H : Hp} : ∀ {xs : List V} {ds : List PyData} {i : Nat} {d : PyData}, DqAll K S H xs ds → ds[i]? = some d → ∃ v, xs[i]? = some v ∧ Dq K S H v d
  | _, _, 0, _, .cons h _, e => ⟨_, rfl, by rw [← Option.some.inj e]; exact h⟩
  | _, _, n + 1, _, .cons _ hs, e => DqAll.get (i := n) hs e
theorem dqAll_ints {S : Addr → Prop} {H : Hp} : ∀ {ns : List Int} {xs : List V}, DqAll K S H xs (ns.map PyData.int) → xs = ns.map V.int
  | [], _, .nil => rfl
  | n :: ns, _, .cons h hs => by rw [h.int_inv, dqAll_ints hs]; rfl
theorem dqAll_bls {S : Addr → Prop} {H : Hp} : ∀ {ns : List Bool} {xs : List V}, DqAll K S H xs (ns.map PyData.bool) → xs = ns.map V.bl
  | [], _, .nil => rfl
  | n :: ns, _, .cons h hs => by rw [h.bl_inv, dqAll_bls hs]; rfl
theorem dqAll_strs {S : Addr → Prop} {H : Hp} : ∀ {ns : List Str} {xs : List V}, DqAll K S H xs (ns.map PyData.str) → xs = ns.map V.str
  | [], _, .nil => rfl
  | n :: ns, _, .cons h hs => by rw [h.str_inv, dqAll_strs hs]; rfl
theorem dq_ints {S : Addr → Prop} {H : Hp} : ∀ ns : List Int, DqAll K S H (ns.map V.int) (ns.map PyData.int)
  | [] => .nil
  | n :: ns => .cons (.int n) (dq_ints ns)
theorem dp_dq {S : Addr → Prop} {H : Hp} {x : V} {d : PyData} (h : Dq K S H x d) : Dp K H x d := h.dp
-- the turns of a comprehension
section
variable {S : Addr → Prop} {g : TG} {tt : TT} {te : TE} {vs : List Nat} {σ σ0 : L2.St} {H : Hp} {Q : VK}
/-- one turn of a comprehension that writes nothing: its item is told by o -/
def StepQ (K : PySem.W.Frag) (S : Addr → Prop) (H : Hp) (g : TG) (tt : TT) (te : TE) (vs : List Nat) (σ0 : L2.St) (x : V) (o : Option PyData) : Prop :=
  ∀ (D : Addr) (H' : Hp) (N : Hp → Prop), H D = none → Same H H' → Al (SD S D) H' → (∀ {z d}, Dq K S H z d → Dq K (SD S D) H' z d) →
    (∀ e, o = some e → ∀ y H3, Dq K (SD S D) H3 y e → Same H' H3 → TurnD D N y H3) → (o = none → ∀ H3, Same H' H3 → N H3) → Turn1 g tt te vs σ0 D x H' N
theorem fm_some (es : List PyData) : (es.map some).filterMap id = es := by
  induction es with
  | nil => rfl
  | cons e r ih => rw [List.map_cons, List.filterMap_cons_some (f := id) rfl, ih]
theorem coreQ {xs : List V} {os : List (Option PyData)} (al : Al S H) (hl : os.length ≤ 1000) (hx : xs.length = os.length)
    (step : ∀ (i : Nat) x o, xs[i]? = some x → os[i]? = some o → StepQ K S H g tt te vs σ0 x o)
    (done : ∀ p ys H', H p = none → H' p = some (.lst ys) → DqAll K S H' ys (os.filterMap id) → Same H H' → Q (.ref p) H') (D : Addr) (hD : H D = none) :
    ∃ Pv : Nat → Hp → Prop, Pv 0 (upd H D (.lst [])) ∧ (∀ i H', Pv i H' → Same H H') ∧ (∀ (i : Nat) x H', xs[i]? = some x → Pv i H' → Turn1 g tt te vs σ0 D x H' (Pv (i + 1))) ∧ ∀ H', Pv xs.length H' → Q (.ref D) H' := by
  refine ⟨fun i H' => ∃ ys, H' D = some (.lst ys) ∧ Same H H' ∧ DqAll K (SD S D) H' ys ((os.take i).filterMap id), ⟨[], upd_same, same_new hD, .nil⟩, fun i H' ⟨_, _, s, _⟩ => s, ?_, ?_⟩
  · rintro i x H' hx2 ⟨ys, e1, s, hy⟩
    have il : i < os.length := by have := (List.getElem?_eq_some_iff.mp hx2).1; omega
    have ho : os[i]? = some os[i] := List.getElem?_eq_getElem il
    have hal : Al (SD S D) H' := al_sd (al.sm s) (by rw [e1]; exact fun z => by cases z)
    have yl : ys.length ≤ 1000 := by
      rw [hy.len]
      refine Nat.le_trans (List.length_filterMap_le _ _) ?_
      rw [List.length_take]
      omega
    refine step i x _ hx2 ho D H' _ hD s hal (fun h => h.in hD fun b o _ _ e => s b o e) (fun e he y H3 hy3 s3 => ?_) (fun he H3 s3 => ?_)
    · refine g_turnD (s3 _ _ e1) yl ⟨ys ++ [y], upd_same, fun b u e' => by rw [upd_ne (ne_of_none e' hD)]; exact s3 _ _ (s _ _ e'), ?_⟩
      have c3 : ChgS (SD S D) H3 (upd H3 D (.lst (ys ++ [y]))) := fun b o n e' => by rw [upd_ne (fun z => n (.inr z))]; exact e'
      rw [List.take_add_one, ho, List.filterMap_append]
      refine ((hy.sm s3).chg c3).app ?_
      rw [he]
      exact .cons (hy3.chg c3) .nil
    · refine ⟨ys, s3 _ _ e1, s.trans s3, ?_⟩
      rw [List.take_add_one, ho, List.filterMap_append, he]
      show DqAll K (SD S D) H3 ys ((os.take i).filterMap id ++ [])
      rw [List.append_nil]
      exact hy.sm s3
  · rintro H' ⟨ys, e1, s, hy⟩
    rw [hx, List.take_length] at hy
    exact done D ys H' hD e1 hy.out s
theorem lcQL {a : Addr} {xs : List V} {os : List (Option PyData)} (c : SqL K H a xs) (al : Al S H) (hl : os.length ≤ 1000) (hx : xs.length = os.length) (hw : wipe σ vs = σ0)
    (step : ∀ (i : Nat) x o, xs[i]? = some x → os[i]? = some o → StepQ K S H g tt te vs σ0 x o)
    (done : ∀ p ys H', H p = none → H' p = some (.lst ys) → DqAll K S H' ys (os.filterMap id) → Same H H' → Q (.ref p) H') : LcG (Itl K a) g tt te vs σ Q H :=
  lcL (xs := xs) hw fun D hD => by
    obtain ⟨Pv, h0, hs, ht, hd⟩ := coreQ al hl hx step done D hD
    exact ⟨Pv, h0, fun i H' _ p => sqL_sm (hs i H' p) c, ht, hd⟩
theorem lcQT {a : Addr} {xs : List V} {os : List (Option PyData)} (c : SqT K H a xs) (al : Al S H) (hl : os.length ≤ 1000) (hx : xs.length = os.length) (hw : wipe σ vs = σ0)
    (step : ∀ (i : Nat) x o, xs[i]? = some x → os[i]? = some o → StepQ K S H g tt te vs σ0 x o)
    (done : ∀ p ys H', H p = none → H' p = some (.lst ys) → DqAll K S H' ys (os.filterMap id) → Same H H' → Q (.ref p) H') : LcG (Itt K a) g tt te vs σ Q H :=
  lcT (xs := xs) hw fun D hD => by
    obtain ⟨Pv, h0, hs, ht, hd⟩ := coreQ al hl hx step done D hD
    exact ⟨Pv, h0, fun i H' _ p => seqT_same (hs i H' p) c, ht, hd⟩
theorem lcQB {a : Addr} {xs : List V} {os : List (Option PyData)} (c : SqL K H a xs ∨ SqT K H a xs) (al : Al S H) (hl : os.length ≤ 1000) (hx : xs.length = os.length) (hw : wipe σ vs = σ0)
    (step : ∀ (i : Nat) x o, xs[i]? = some x → os[i]? = some o → StepQ K S H g tt te vs σ0 x o)
    (done : ∀ p ys H', H p = none → H' p = some (.lst ys) → DqAll K S H' ys (os.filterMap id) → Same H H' → Q (.ref p) H') : BR K (fun J H1 => LcG J g tt te vs σ Q H1) (.ref a) H :=
  g_bR c (fun c => lcQL c al hl hx hw step done) (fun c => lcQT c al hl hx hw step done)
theorem lcQR {lo : Int} {n : Nat} {os : List (Option PyData)} (al : Al S H) (hl : os.length ≤ 1000) (hx : n = os.length) (hw : wipe σ vs = σ0)
    (step : ∀ (i : Nat) o, os[i]? = some o → StepQ K S H g tt te vs σ0 (.int (lo + i)) o)
    (done : ∀ p ys H', H p = none → H' p = some (.lst ys) → DqAll K S H' ys (os.filterMap id) → Same H H' → Q (.ref p) H') : LcG (Itr lo n) g tt te vs σ Q H :=
  lcR hw fun D hD => by
    have it : ∀ i : Nat, i < n → ((List.range n).map fun i : Nat => V.int (lo + i))[i]? = some (.int (lo + i)) := fun i hi => by rw [List.getElem?_map, List.getElem?_range hi]; rfl
    obtain ⟨Pv, h0, hs, ht, hd⟩ := coreQ (xs := (List.range n).map fun i : Nat => V.int (lo + i)) al hl (by rw [List.length_map, List.length_range]; exact hx) (fun i x o hx2 ho => by
      have il : i < n := by have := (List.getElem?_eq_some_iff.mp ho).1; omega
      rw [it i il] at hx2
      rw [← Option.some.inj hx2]
      exact step i o ho) done D hD
    rw [List.length_map, List.length_range] at hd
    exact ⟨Pv, h0, fun i H' hi p => ht i _ H' (it i hi) p, hd⟩
/-- one turn of a comprehension that draws -/
def StepB (K : PySem.W.Frag) (S : Addr → Prop) (H : Hp) (a l : Addr) (g : TG) (tt : TT) (te : TE) (vs : List Nat) (σ0 : L2.St) (x : V) (R : PyData → Prop) : Prop :=
  ∀ (D : Addr) (H' : Hp) (N : Hp → Prop), H D = none → D ≠ a → D ≠ l → Bag H' a l → Al (SD S D) H' → SD S D a → (∀ b o, b ≠ a → H b = some o → H' b = some o) → (∀ {z d}, Dq K S H z d → Dq K (SD S D) H' z d) →
    (∀ e, R e → ∀ y H3, Dq K (SD S D) H3 y e → Bag H3 a l → Chg a H' H3 → TurnD D N y H3) → Turn1 g tt te vs σ0 D x H' N
theorem coreB {a l : Addr} {xs : List V} {R : Nat → PyData → Prop} (B : Bag H a l) (sa : S a) (al : Al S H) (hl : xs.length ≤ 1000)
    (step : ∀ (i : Nat) x, xs[i]? = some x → StepB K S H a l g tt te vs σ0 x (R i))
    (done : ∀ p ys es H', H p = none → H' p = some (.lst ys) → DqAll K S H' ys es → es.length = xs.length → (∀ (i : Nat) e, es[i]? = some e → R i e) → Bag H' a l → Chg a H H' → Q (.ref p) H') (D : Addr) (hD : H D = none) :
    ∃ Pv : Nat → Hp → Prop, Pv 0 (upd H D (.lst [])) ∧ (∀ i H', Pv i H' → Chg a H H') ∧ (∀ (i : Nat) x H', xs[i]? = some x → Pv i H' → Turn1 g tt te vs σ0 D x H' (Pv (i + 1))) ∧ ∀ H', Pv xs.length H' → Q (.ref D) H' := by
  obtain ⟨na, nl⟩ := bag_apart B hD
  refine ⟨fun i H' => ∃ ys es, H' D = some (.lst ys) ∧ Chg a H H' ∧ Bag H' a l ∧ DqAll K (SD S D) H' ys es ∧ es.length = i ∧ (∀ (j : Nat) e, es[j]? = some e → R j e), ⟨[], [], upd_same, Chg.new hD, bag_new B hD, .nil, rfl, fun j e h => by simp at h⟩, fun i H' ⟨_, _, _, s, _⟩ => s, ?_, ?_⟩
  · rintro i x H' hx2 ⟨ys, es, e1, c, B1, hy, le, hR⟩
    have il : i < xs.length := (List.getElem?_eq_some_iff.mp hx2).1
    have hal : Al (SD S D) H' := al_sd (al.bag c B1 sa) (by rw [e1]; exact fun z => by cases z)
    refine step i x hx2 D H' _ hD na nl B1 hal (.inl sa) c (fun h => h.in hD fun b o n _ e => c b o (fun z => n (z ▸ sa)) e) (fun e he y H3 hy3 B3 c3 => ?_)
    refine g_turnD (c3 _ _ na e1) (by rw [hy.len]; omega) ⟨ys ++ [y], es ++ [e], upd_same, fun b u n e' => by rw [upd_ne (ne_of_none e' hD)]; exact c3 _ _ n (c _ _ n e'), bag_chg B3 na nl, ?_, by rw [List.length_append, le]; rfl, ?_⟩
    · have c4 : ChgS (SD S D) H3 (upd H3 D (.lst (ys ++ [y]))) := fun b o n e' => by rw [upd_ne (fun z => n (.inr z))]; exact e'
      exact ((hy.chg (toS c3 (.inl sa))).chg c4).app (.cons (hy3.chg c4) .nil)
    · intro j e' h
      rcases Nat.lt_or_ge j es.length with hj | hj
      · rw [List.getElem?_append_left hj] at h
        exact hR j e' h
      · rw [List.getElem?_append_right hj] at h
        have j0 : j - es.length = 0 := by
          have := (List.getElem?_eq_some_iff.mp h).1
          simp at this
          omega
        rw [j0] at h
        have ej : j = i := by omega
        rw [ej, ← Option.some.inj h]
        exact he
  · rintro H' ⟨ys, es, e1, c, B1, hy, le, hR⟩
    exact done D ys es H' hD e1 hy.out le hR B1 c
theorem lcBR {a l : Addr} {lo : Int} {n : Nat} {R : Nat → PyData → Prop} (B : Bag H a l) (sa : S a) (al : Al S H) (hl : n ≤ 1000) (hw : wipe σ vs = σ0)
    (step : ∀ i : Nat, i < n → StepB K S H a l g tt te vs σ0 (.int (lo + i)) (R i))
    (done : ∀ p ys es H', H p = none → H' p = some (.lst ys) → DqAll K S H' ys es → es.length = n → (∀ (i : Nat) e, es[i]? = some e → R i e) → Bag H' a l → Chg a H H' → Q (.ref p) H') : LcG (Itr lo n) g tt te vs σ Q H :=
  lcR hw fun D hD => by
    have it : ∀ i : Nat, i < n → ((List.range n).map fun i : Nat => V.int (lo + i))[i]? = some (.int (lo + i)) := fun i hi => by rw [List.getElem?_map, List.getElem?_range hi]; rfl
    have ln : ((List.range n).map fun i : Nat => V.int (lo + i)).length = n := by rw [List.length_map, List.length_range]
    obtain ⟨Pv, h0, hs, ht, hd⟩ := coreB (xs := (List.range n).map fun i : Nat => V.int (lo + i)) B sa al (by rw [ln]; exact hl) (fun i x hx2 => by
      have il : i < n := by have := (List.getElem?_eq_some_iff.mp hx2).1; omega
      rw [it i il] at hx2
      rw [← Option.some.inj hx2]
      exact step i il) (fun p ys es H' h1 h2 h3 h4 => done p ys es H' h1 h2 h3 (by rw [ln] at h4; exact h4)) D hD
    rw [ln] at hd
    exact ⟨Pv, h0, fun i H' hi p => ht i _ H' (it i hi) p, hd⟩
theorem lcBL {a l b : Addr} {xs : List V} {R : Nat → PyData → Prop} (hb : H b = some (.lst xs)) (nb : b ≠ a) (B : Bag H a l) (sa : S a) (al : Al S H) (hl : xs.length ≤ 1000) (hw : wipe σ vs = σ0)
    (step : ∀ (i : Nat) x, xs[i]? = some x → StepB K S H a l g tt te vs σ0 x (R i))
    (done : ∀ p ys es H', H p = none → H' p = some (.lst ys) → DqAll K S H' ys es → es.length = xs.length → (∀ (i : Nat) e, es[i]? = some e → R i e) → Bag H' a l → Chg a H H' → Q (.ref p) H') : LcG (Itl K b) g tt te vs σ Q H :=
  lcL (xs := xs) hw fun D hD => by
    obtain ⟨Pv, h0, hs, ht, hd⟩ := coreB B sa al hl step done D hD
    exact ⟨Pv, h0, fun i H' _ p => .of (hs i H' p _ _ nb hb), ht, hd⟩
end
end
end Q
namespace Q
open PySem PySem.Spec L2
section
variable {K : PySem.W.Frag} {S : Addr → Prop} {g : TG} {tt : TT} {te : TE} {vs : List Nat} {σ σ0 : L2.St} {H : Hp} {Q : VK}
def isSeqD : PyData → Bool
  | .list _ => true
  | .tuple _ => true
  | _ => false
def itsD : PyData → List PyData
  | .list ds => ds
  | .tuple ds => ds
  | _ => []
theorem Dq.sq {x : V} {d : PyData} (h : Dq K S H x d) (s : isSeqD d = true) : ∃ b xs, x = .ref b ∧ (SqL K H b xs ∨ SqT K H b xs) ∧ DqAll K S H xs (itsD d) := by
  cases d with
  | list ds =>
    obtain ⟨b, xs, e, hb, hs, _⟩ := h.list_inv
    exact ⟨b, xs, e, .inl (.of hb), hs⟩
  | tuple ds =>
    obtain ⟨b, xs, e, hb, hs⟩ := h.tup_inv
    exact ⟨b, xs, e, .inr hb, hs⟩
  | _ => cases s
theorem small_its {d : PyData} (h : smallD d = true) : (itsD d).length ≤ 1000 ∧ ∀ e ∈ itsD d, smallD e = true := by
  cases d with
  | list ds =>
    have z : (decide (ds.length ≤ 1000) && smallAll ds) = true := h
    rw [Bool.and_eq_true] at z
    exact ⟨of_decide_eq_true z.1, fun e he => smallAll_mem z.2 he⟩
  | tuple ds =>
    have z : (decide (ds.length ≤ 1000) && smallAll ds) = true := h
    rw [Bool.and_eq_true] at z
    exact ⟨of_decide_eq_true z.1, fun e he => smallAll_mem z.2 he⟩
  | _ => exact ⟨Nat.zero_le _, fun e he => absurd he List.not_mem_nil⟩
theorem g_isSeq {x : V} {d : PyData} {tp : Addr} (h : Dp K H x d) (e : H tp = some (.tup [.ty "list", .ty "tuple"])) (q : Q (.bl (isSeqD d)) H) : rIsiT K [x, .ref tp] H Q := by
  cases h with
  | lst a _ => exact g_isiT2 e (tyL a) kb_list_list kb_list_tuple q
  | tup a _ => exact g_isiT2 e (tyT a) kb_tuple_list kb_tuple_tuple q
  | non => exact g_isiT2 e (.base .non) kb_NoneType_list kb_NoneType_tuple q
  | bl b => exact g_isiT2 e (.base (.bl b)) kb_bool_list kb_bool_tuple q
  | int i => exact g_isiT2 e (.base (.int i)) kb_int_list kb_int_tuple q
  | str z => exact g_isiT2 e (.base (.str z)) kb_str_list kb_str_tuple q
theorem lcFn {b : Addr} {xs : List V} {ds : List PyData} {f : PyData → PyData} (c : SqL K H b xs ∨ SqT K H b xs) (hda : DqAll K S H xs ds) (al : Al S H) (hl : ds.length ≤ 1000) (hw : wipe σ vs = σ0)
    (step : ∀ (i : Nat) x d D H' N, ds[i]? = some d → d ∈ ds → H D = none → Same H H' → Al (SD S D) H' → Dq K (SD S D) H' x d → (∀ {z d}, Dq K S H z d → Dq K (SD S D) H' z d) →
      (∀ y H3, Dq K (SD S D) H3 y (f d) → Same H' H3 → TurnD D N y H3) → Turn1 g tt te vs σ0 D x H' N)
    (done : ∀ P ys H', H P = none → H' P = some (.lst ys) → DqAll K S H' ys (ds.map f) → Same H H' → Q (.ref P) H') : BR K (fun J H1 => LcG J g tt te vs σ Q H1) (.ref b) H := by
  refine lcQB (S := S) (os := (ds.map f).map some) c al (by rw [List.length_map, List.length_map]; exact hl) (by rw [List.length_map, List.length_map]; exact hda.len) hw (fun i x o hx ho => ?_) (fun p ys H' h1 h2 h3 h4 => done p ys H' h1 h2 (by rwa [fm_some] at h3) h4)
  rw [List.getElem?_map, Option.map_eq_some_iff] at ho
  obtain ⟨e, he, rfl⟩ := ho
  rw [List.getElem?_map, Option.map_eq_some_iff] at he
  obtain ⟨d, hd, rfl⟩ := he
  obtain ⟨d', hd', hq⟩ := hda.at hx
  obtain rfl : d = d' := Option.some.inj (hd.symm.trans hd')
  intro D H' N hD s hal tr k1 _
  exact step i x d D H' N hd (List.mem_of_getElem? hd) hD s hal (tr hq) tr (fun y H3 h3 s3 => k1 _ rfl y H3 h3 s3)
theorem lcAll {b : Addr} {xs : List V} {ds : List PyData} {f : PyData → Bool} (c : SqL K H b xs ∨ SqT K H b xs) (hda : DqAll K S H xs ds) (al : Al S H) (hl : ds.length ≤ 1000) (hw : wipe σ vs = σ0)
    (step : ∀ (i : Nat) x d D H' N, ds[i]? = some d → d ∈ ds → H D = none → Same H H' → Al (SD S D) H' → Dq K (SD S D) H' x d → (∀ {z d}, Dq K S H z d → Dq K (SD S D) H' z d) →
      (∀ H3, Same H' H3 → TurnD D N (.bl (f d)) H3) → Turn1 g tt te vs σ0 D x H' N)
    (done : ∀ P H', H P = none → SqL K H' P ((ds.map f).map V.bl) → Same H H' → Q (.ref P) H') : BR K (fun J H1 => LcG J g tt te vs σ Q H1) (.ref b) H := by
  refine lcFn (f := fun d => .bool (f d)) c hda al hl hw (fun i x d D H' N hd hm hD s hal hq tr k => step i x d D H' N hd hm hD s hal hq tr fun H3 s3 => k _ H3 (.bl _) s3) (fun P ys H' h1 h2 h3 h4 => done P H' h1 ?_ h4)
  have e : ds.map (fun d => PyData.bool (f d)) = (ds.map f).map PyData.bool := by rw [List.map_map]; rfl
  rw [e] at h3
  rw [← dqAll_bls h3]
  exact .of h2
theorem g_lenQ {x : V} {d : PyData} (h : Dq K S H x d) (s : isSeqD d = true) (q : Q (.int (itsD d).length) H) : qLen K [x] H Q := by
  obtain ⟨b, xs, rfl, c, hs⟩ := h.sq s
  exact g_len c (by rw [hs.len]; exact q)
theorem g_ixQ {x : V} {d e : PyData} {i : Nat} (h : Dq K S H x d) (s : isSeqD d = true) (he : (itsD d)[i]? = some e) (q : ∀ v, Dq K S H v e → Q v H) : qIx K x (.int (i : Int)) H Q := by
  obtain ⟨b, xs, rfl, c, hs⟩ := h.sq s
  obtain ⟨v, hv, hd⟩ := hs.get he
  exact g_qix c (atI_nat hv) (q v hd)
theorem g_bRQ {x : V} {d : PyData} {R : It → Hp → Prop} (h : Dq K S H x d) (s : isSeqD d = true) (q : ∀ b xs, x = .ref b → (SqL K H b xs ∨ SqT K H b xs) → DqAll K S H xs (itsD d) → BR K R (.ref b) H) : BR K R x H := by
  obtain ⟨b, xs, rfl, c, hs⟩ := h.sq s
  exact q b xs rfl c hs
end
end Q
namespace Q
open PySem PySem.Spec L2
def MakR (C : Addr) (sp : Sp) (E : XK) (Q : VK) (vs : List V) (H1 : Hp) : Prop := ∀ x dx, H1 x = none → H1 dx = none → dx ≠ x →
  sp (.ref x :: vs) (upd (upd H1 dx (.own x)) x (.ins C dx [])) (fun v H2 => v = .non ∧ Q (.ref x) H2) E
theorem g_make {C : Addr} {sp : Sp} {E : XK} {t : TA} {σ : L2.St} {H : Hp} {Q : VK} (h : t σ H (MakR C sp E Q)) : tMake C sp [] E t σ H Q := by
  show t σ H fun vs H1 => ∀ x dx, H1 x = none → H1 dx = none → dx ≠ x → sp (.ref x :: (vs ++ [])) (upd (upd H1 dx (.own x)) x (.ins C dx [])) (fun v H2 => v = .non ∧ Q (.ref x) H2) E
  simp only [List.append_nil]
  exact h
instance st_g_make {C : Addr} {sp : Sp} {E : XK} {t : TA} {σ : L2.St} {H : Hp} {Q : VK} : Step (tMake C sp [] E t σ H Q) (t σ H (MakR C sp E Q)) := ⟨fun z => g_make z⟩
theorem same_own {H : Hp} {x dx : Addr} {o u : HO} (hx : H x = none) (hd : H dx = none) (n : dx ≠ x) : Same H (upd (upd H dx o) x u) := (same_new hd).trans (same_new (by rw [upd_ne (Ne.symm n)]; exact hx))
end Q
namespace Q
open PySem PySem.Spec L2
section
variable {K : PySem.W.Frag} {S : Addr → Prop} {g : TG} {tt : TT} {te : TE} {vs : List Nat} {σ σ0 : L2.St} {H : Hp} {Q : VK}
theorem lcTy {α : Type} {b : Addr} {xs : List V} {ts : List α} {enc f : α → PyData} (c : SqL K H b xs ∨ SqT K H b xs) (hda : DqAll K S H xs (ts.map enc)) (al : Al S H) (hl : ts.length ≤ 1000) (hw : wipe σ vs = σ0)
    (step : ∀ (i : Nat) x t D H' N, ts[i]? = some t → t ∈ ts → H D = none → Same H H' → Al (SD S D) H' → Dq K (SD S D) H' x (enc t) → (∀ {z d}, Dq K S H z d → Dq K (SD S D) H' z d) →
      (∀ y H3, Dq K (SD S D) H3 y (f t) → Same H' H3 → TurnD D N y H3) → Turn1 g tt te vs σ0 D x H' N)
    (done : ∀ P ys H', H P = none → H' P = some (.lst ys) → DqAll K S H' ys (ts.map f) → Same H H' → Q (.ref P) H') : BR K (fun J H1 => LcG J g tt te vs σ Q H1) (.ref b) H := by
  have len := hda.len
  rw [List.length_map] at len
  refine lcQB (S := S) (os := (ts.map f).map some) c al (by rw [List.length_map, List.length_map]; exact hl) (by rw [List.length_map, List.length_map]; exact len) hw (fun i x o hx ho => ?_) (fun p ys H' h1 h2 h3 h4 => done p ys H' h1 h2 (by rwa [fm_some] at h3) h4)
  rw [List.getElem?_map, Option.map_eq_some_iff] at ho
  obtain ⟨e, he, rfl⟩ := ho
  rw [List.getElem?_map, Option.map_eq_some_iff] at he
  obtain ⟨t, ht, rfl⟩ := he
  obtain ⟨d', hd', hq⟩ := hda.at hx
  rw [List.getElem?_map, ht] at hd'
  obtain rfl := Option.some.inj hd'
  intro D H' N hD s hal tr k1 _
  exact step i x t D H' N ht (List.mem_of_getElem? ht) hD s hal (tr hq) tr (fun y H3 h3 s3 => k1 _ rfl y H3 h3 s3)
theorem lcTyI {α : Type} {b : Addr} {xs : List V} {ts : List α} {enc : α → PyData} {f : α → Int} (c : SqL K H b xs ∨ SqT K H b xs) (hda : DqAll K S H xs (ts.map enc)) (al : Al S H) (hl : ts.length ≤ 1000) (hw : wipe σ vs = σ0)
    (step : ∀ (i : Nat) x t D H' N, ts[i]? = some t → t ∈ ts → H D = none → Same H H' → Al (SD S D) H' → Dq K (SD S D) H' x (enc t) → (∀ {z d}, Dq K S H z d → Dq K (SD S D) H' z d) →
      (∀ H3, Same H' H3 → TurnD D N (.int (f t)) H3) → Turn1 g tt te vs σ0 D x H' N)
    (done : ∀ P H', H P = none → H' P = some (.lst ((ts.map f).map V.int)) → Same H H' → Q (.ref P) H') : BR K (fun J H1 => LcG J g tt te vs σ Q H1) (.ref b) H := by
  refine lcTy (f := fun t => .int (f t)) c hda al hl hw (fun i x t D H' N ht hm hD s hal hq tr k => step i x t D H' N ht hm hD s hal hq tr fun H3 s3 => k _ H3 (.int _) s3) (fun P ys H' h1 h2 h3 h4 => done P H' h1 ?_ h4)
  have e : ts.map (fun t => PyData.int (f t)) = (ts.map f).map PyData.int := by rw [List.map_map]; rfl
  rw [e] at h3
  rw [← dqAll_ints h3]
  exact h2
/-- places of the wanted numbers of a list -/
def pickI (ns : List Int) (p : Int → Bool) (i : Nat) : List Int := ((List.range i).filter fun j => p (ns.getD j 0)).map fun (j : Nat) => (j : Int)
theorem pick_succ (ns : List Int) (p : Int → Bool) {i : Nat} {n : Int} (h : ns[i]? = some n) : pickI ns p (i + 1) = pickI ns p i ++ (if p n = true then [(i : Int)] else []) := by
  unfold pickI
  rw [List.range_succ, List.filter_append, List.map_append]
  congr 1
  have e : ns.getD i 0 = n := by rw [List.getD_eq_getElem?_getD, h]; rfl
  rw [List.filter_cons, e]
  split <;> rfl
theorem pick_len (ns : List Int) (p : Int → Bool) (i : Nat) : (pickI ns p i).length ≤ i := by
  unfold pickI
  rw [List.length_map]
  exact Nat.le_trans (List.length_filter_le _ _) (by rw [List.length_range]; exact Nat.le_refl _)
theorem pick_mem {ns : List Int} {p : Int → Bool} {i : Nat} {k : Int} : k ∈ pickI ns p i ↔ ∃ j : Nat, j < i ∧ p (ns.getD j 0) = true ∧ k = (j : Int) := by
  unfold pickI
  rw [List.mem_map]
  constructor
  · rintro ⟨j, hj, rfl⟩
    rw [List.mem_filter, List.mem_range] at hj
    exact ⟨j, hj.1, hj.2, rfl⟩
  · rintro ⟨j, h1, h2, rfl⟩
    exact ⟨j, by rw [List.mem_filter, List.mem_range]; exact ⟨h1, h2⟩, rfl⟩
theorem lcPickE {b : Addr} {ns : List Int} {p : Int → Bool} (c : SqL K H b (ns.map V.int)) (hl : ns.length ≤ 1000) (hw : wipe σ vs = σ0)
    (step : ∀ (i : Nat) n D T H' N, ns[i]? = some n → Same H H' → H' T = some (.tup [.int (i : Nat), .int n]) → (p n = true → ∀ H3, Same H' H3 → TurnD D N (.int (i : Nat)) H3) → (p n = false → N H') → Turn1 g tt te vs σ0 D (.ref T) H' N)
    (done : ∀ P H', H P = none → H' P = some (.lst ((pickI ns p ns.length).map V.int)) → Same H H' → Q (.ref P) H') : LcG (Ite K b) g tt te vs σ Q H := by
  refine lcE (xs := ns.map V.int) hw fun D hD => ⟨fun i H' => H' D = some (.lst ((pickI ns p i).map V.int)) ∧ Same H H', ⟨upd_same, same_new hD⟩, ?_, ?_, ?_⟩
  · rintro i H' _ ⟨_, s⟩
    exact sqL_sm s c
  · rintro i x T H' hx ⟨e1, s⟩ hT
    rw [List.getElem?_map, Option.map_eq_some_iff] at hx
    obtain ⟨n, hn, rfl⟩ := hx
    have nT : D ≠ T := ne_of_none e1 hT
    have il : i < ns.length := (List.getElem?_eq_some_iff.mp hn).1
    have s2 : Same H (upd H' T (.tup [V.int (i : Nat), V.int n])) := s.trans (same_new hT)
    have e2 : upd H' T (.tup [V.int (i : Nat), V.int n]) D = some (.lst ((pickI ns p i).map V.int)) := by rw [upd_ne nT]; exact e1
    refine step i n D T _ _ hn s2 upd_same (fun hp H3 s3 => ?_) (fun hp => ?_)
    · have pl := pick_len ns p i
      refine g_turnD (s3 _ _ e2) (by rw [List.length_map]; omega) ⟨?_, fun b u e' => by rw [upd_ne (ne_of_none e' hD)]; exact s3 _ _ (s2 _ _ e')⟩
      rw [upd_same, pick_succ ns p hn, if_pos hp, List.map_append]
      rfl
    · refine ⟨?_, s2⟩
      rw [pick_succ ns p hn, hp, if_neg Bool.false_ne_true, List.append_nil]
      exact e2
  · rintro H' ⟨e1, s⟩
    rw [List.length_map] at e1
    exact done D H' hD e1 s
end
end Q
namespace Q
open PySem PySem.Spec L2
section
variable {K : PySem.W.Frag} {g : TG} {tb : TS} {D0 : Ends} {σ : L2.St} {H : Hp} {a : Addr}
/-- for (i, x) in enumerate(tuple) -/
theorem forEQT {xs : List V} (h : ∃ Pv : Nat → L2.St → Hp → Prop, Pv 0 σ H ∧ (∀ i σ' H', i ≤ xs.length → Pv i σ' H' → SqT K H' a xs) ∧
    (∀ (i : Nat) (x : V) (T : Addr) (σ' : L2.St) (H' : Hp), xs[i]? = some x → Pv i σ' H' → H' T = none → g (.ref T) σ' (upd H' T (.tup [.int (i : Nat), x])) fun σ2 H2 => tb { D0 with nx := Pv (i + 1), ct := Pv (i + 1), bk := D0.nx } σ2 H2) ∧
    ∀ σ' H', Pv xs.length σ' H' → D0.nx σ' H') : ForG (Iet K a) g tb D0 σ H := by
  obtain ⟨Pv, h0, hl, hs, hd⟩ := h
  refine ⟨fun i m σ H => m = xs.length - i ∧ i ≤ xs.length ∧ Pv i σ H, ⟨xs.length, by simp, Nat.zero_le _, h0⟩, ?_⟩
  rintro i m σ H ⟨rfl, hi, p⟩
  have q := hl i σ H hi p
  rcases Nat.lt_or_ge i xs.length with hlt | hge
  · exact .inr ⟨⟨xs, xs[i], q, by simp [hlt]⟩, Pv (i + 1), fun σ' H' p' => ⟨xs.length - (i + 1), by omega, rfl, hlt, p'⟩, fun v H' ⟨T, x, e1, e2, e3, e4⟩ => by subst e1 e3; exact hs i x T σ _ (e4 xs q) p e2⟩
  · have e : i = xs.length := by omega
    subst e
    exact .inl ⟨⟨xs, q, Nat.le_refl _⟩, hd σ H p⟩
/-- for (i, x) in enumerate(list) -/
theorem forEQL {g : TG} {tb : TS} {D0 : Ends} {σ : L2.St} {H : Hp} {a : Addr} {xs : List V} (h : ∃ Pv : Nat → L2.St → Hp → Prop, Pv 0 σ H ∧ (∀ i σ' H', i ≤ xs.length → Pv i σ' H' → SqL K H' a xs) ∧
    (∀ (i : Nat) (x : V) (T : Addr) (σ' : L2.St) (H' : Hp), xs[i]? = some x → Pv i σ' H' → H' T = none → g (.ref T) σ' (upd H' T (.tup [.int (i : Nat), x])) fun σ2 H2 => tb { D0 with nx := Pv (i + 1), ct := Pv (i + 1), bk := D0.nx } σ2 H2) ∧
    ∀ σ' H', Pv xs.length σ' H' → D0.nx σ' H') : ForG (Ite K a) g tb D0 σ H := by
  obtain ⟨Pv, h0, hl, hs, hd⟩ := h
  refine ⟨fun i m σ H => m = xs.length - i ∧ i ≤ xs.length ∧ Pv i σ H, ⟨xs.length, by simp, Nat.zero_le _, h0⟩, ?_⟩
  rintro i m σ H ⟨rfl, hi, p⟩
  have q := hl i σ H hi p
  rcases Nat.lt_or_ge i xs.length with hlt | hge
  · exact .inr ⟨⟨xs, xs[i], q, by simp [hlt]⟩, Pv (i + 1), fun σ' H' p' => ⟨xs.length - (i + 1), by omega, rfl, hlt, p'⟩, fun v H' ⟨T, x, e1, e2, e3, e4⟩ => by subst e1 e3; exact hs i x T σ _ (e4 xs q) p e2⟩
  · have e : i = xs.length := by omega
    subst e
    exact .inl ⟨⟨xs, q, Nat.le_refl _⟩, hd σ H p⟩
end
end Q
namespace Q
open PySem PySem.Spec L2
section
variable {K : PySem.W.Frag} {S : Addr → Prop} {H : Hp}
theorem Dq.tup_inv2 {x : V} {ds : List PyData} (h : Dq K S H x (.tuple ds)) : ∃ b xs, x = .ref b ∧ (∀ H', ChgS S H H' → SqT K H' b xs) ∧ DqAll K S H xs ds := by
  cases h with
  | tup h hs => exact ⟨_, _, rfl, h, hs⟩
theorem Dq.sq2 {x : V} {d : PyData} (h : Dq K S H x d) (s : isSeqD d = true) : ∃ b xs, x = .ref b ∧ (∀ H', ChgS S H H' → SqL K H' b xs ∨ SqT K H' b xs) ∧ DqAll K S H xs (itsD d) := by
  cases h with
  | lst h hs => exact ⟨_, _, rfl, fun H' c => .inl (.of (h H' c)), hs⟩
  | tup h hs => exact ⟨_, _, rfl, fun H' c => .inr (h H' c), hs⟩
  | _ => cases s
end
end Q
namespace Q
open PySem PySem.Spec L2
section
variable {K : PySem.W.Frag} {S : Addr → Prop} {g : TG} {tb : TS} {D0 : Ends} {σ : L2.St} {H : Hp}
/-- a list or a tuple that stays while S alone is written -/
def SqS (K : PySem.W.Frag) (S : Addr → Prop) (H : Hp) (b : Addr) (xs : List V) : Prop := (∀ H', ChgS S H H' → SqL K H' b xs) ∨ (∀ H', ChgS S H H' → SqT K H' b xs)
theorem Dq.sq3 {x : V} {d : PyData} (h : Dq K S H x d) (s : isSeqD d = true) : ∃ b xs, x = .ref b ∧ SqS K S H b xs ∧ DqAll K S H xs (itsD d) := by
  cases h with
  | lst h hs => exact ⟨_, _, rfl, .inl fun H' c => .of (h H' c), hs⟩
  | tup h hs => exact ⟨_, _, rfl, .inr h, hs⟩
  | _ => cases s
theorem forBQ {b : Addr} {xs : List V} (c : SqS K S H b xs) (h : ∃ Pv : Nat → L2.St → Hp → Prop, Pv 0 σ H ∧ (∀ i σ' H', Pv i σ' H' → ChgS S H H') ∧
    (∀ (i : Nat) x σ' H', xs[i]? = some x → Pv i σ' H' → g x σ' H' fun σ2 H2 => tb { D0 with nx := Pv (i + 1), ct := Pv (i + 1), bk := D0.nx } σ2 H2) ∧ ∀ σ' H', Pv xs.length σ' H' → D0.nx σ' H') : BR K (fun J H1 => ForG J g tb D0 σ H1) (.ref b) H := by
  obtain ⟨Pv, h0, hl, hs, hd⟩ := h
  rcases c with c | c
  · exact ⟨b, rfl, .inl ⟨⟨xs, c H ChgS.refl⟩, forL (xs := xs) ⟨Pv, h0, fun i σ' H' _ p => c H' (hl i σ' H' p), hs, hd⟩⟩⟩
  · exact ⟨b, rfl, .inr ⟨⟨xs, c H ChgS.refl⟩, forT (xs := xs) ⟨Pv, h0, fun i σ' H' _ p => c H' (hl i σ' H' p), hs, hd⟩⟩⟩
end
end Q
namespace Q
open PySem PySem.Spec L2
theorem k_bm {X : Cx} {K : PySem.W.Frag} {o e : Expr} {es : List Expr} {to : TE} {ta : TA} {nm : Str} {p1 p2 : Pos} {Ty i : String} {r : V → List V → Hp → VK → Prop} (ek : X.K = K) (h1 : PlainAttrs Ty) (h2 : Slot Ty nm i) (h3 : typeOf (.builtin i) = pure (.type "method_descriptor")) (h4 : MtM X i r) (h5 : PE X o to) (h6 : PA X (e :: es) ta)
    (h7 : attributeBase o nm X.env (eval o X.env) = eval o X.env := by rfl)
    (h8 : ((backTo p2 (starEach (e :: es) X.env)).all (fun z => !z.1) && (backToKw p2 (keywordEach [] X.env)).all (fun z => z.1.isSome) && decide ((e :: es).length + ([] : List Keyword).length + (if ([] : List Keyword).isEmpty then 0 else 1) < 30)) = true := by rfl)
    (h9 : (p1.endLine == p2.line) = true := by rfl) (h10 : starEach (e :: es) X.env = (false, eval e X.env) :: starEach es X.env := by rfl) (h11 : (backTo p2 (starEach es X.env)).any (·.1) = false := by rfl) :
    PE X (.Call (.Attribute o nm p1) (e :: es) [] p2) (tBM K Ty r to ta) := by
  subst ek
  exact pe_bm h1 h2 h3 h4 h5 h6 h7 h8 h9 h10 h11
theorem pick_permG {α : Type} : ∀ (xs : List α) (m : Nat) (h : m < xs.length), ([xs[m]] ++ xs.eraseIdx m).Perm xs
  | x :: t, 0, _ => .refl _
  | x :: t, m + 1, h => by
    have ih := pick_permG t m (by simpa using h)
    show ([t[m]'(by simpa using h)] ++ x :: t.eraseIdx m).Perm (x :: t)
    refine .trans (.swap x _ _) (.cons x ih)
theorem er_map {α β : Type} (g : α → β) : ∀ (xs : List α) (m : Nat), (xs.map g).eraseIdx m = (xs.eraseIdx m).map g
  | [], _ => rfl
  | _ :: _, 0 => rfl
  | x :: t, m + 1 => congrArg (g x :: ·) (er_map g t m)
theorem seqIx_nat {n m : Nat} (h : m < n) : seqIndex? (m : Int) n = some m := by
  unfold seqIndex?
  rw [if_neg (show ¬ (m : Int) < 0 by omega)]
  show (if (decide ((0 : Int) ≤ (m : Int)) && decide ((m : Int) < (n : Int))) = true then some (m : Int).toNat else none) = some m
  rw [decide_eq_true (by omega), decide_eq_true (by omega), Bool.true_and, if_pos rfl, Int.toNat_natCast]
/-- what each item is, for all together -/
theorem gather {α : Type} {enc : α → PyData} {R : α → Prop} : ∀ {es : List PyData}, (∀ (i : Nat) e, es[i]? = some e → ∃ t, e = enc t ∧ R t) → ∃ ts : List α, es = ts.map enc ∧ ∀ t ∈ ts, R t
  | [], _ => ⟨[], rfl, fun t h => absurd h List.not_mem_nil⟩
  | e :: es, h => by
    obtain ⟨t, rfl, ht⟩ := h 0 e rfl
    obtain ⟨ts, rfl, hts⟩ := gather (es := es) fun i e he => h (i + 1) e he
    exact ⟨t :: ts, rfl, fun u hu => (List.mem_cons.mp hu).elim (fun z => by rw [z]; exact ht) (hts u)⟩
theorem of_ints {x : V} {ns : List Int} {lo hi : Int} (h : x ∈ ns.map V.int) (hb : ∀ i ∈ ns, lo ≤ i ∧ i ≤ hi) : ∃ i : Int, x = .int i ∧ lo ≤ i ∧ i ≤ hi := by
  obtain ⟨i, hi, rfl⟩ := List.mem_map.mp h
  exact ⟨i, rfl, hb i hi⟩
end Q
namespace Q
open PySem PySem.Spec L2
theorem pe_cal0 {X : Cx} {x : Str} {k : Nat} {ps : List Str} {sp : Sp} {p pos : Pos} (C : Cal X.prog X.w X.K X.mg X.base x k ps sp) (hr : Room k X.A) (hg : Gl X x) (hd : (x == ("__debug__" : Str)) = false := by decide) :
    PE X (.Call (.Name x p) [] [] pos) (tCall sp [] E0 tNil) := by
  obtain ⟨f, fd, F, hm, hk, hb⟩ := C.ex
  exact pe_call0 F hr hg hm hk hb .nil pass0 hd
end Q
-- step instances

set_option Elab.async false
set_option linter.all false
set_option maxRecDepth 100000
set_option maxHeartbeats 4000000
/-! literals of nested lists and tuples: what they read as data, without a walk through the heaps between -/
namespace Q
open PySem PySem.Spec PyProof.Rows L2
section
variable {K : PySem.W.Frag} {S : Addr → Prop} {σ : L2.St}
/-- an expression that makes the data d anew and changes nothing -/
def LitD (K : PySem.W.Frag) (S : Addr → Prop) (σ : L2.St) (te : TE) (d : PyData) : Prop := ∀ (H : Hp) (Q : VK), Al S H → (∀ y H', Same H H' → Dq K S H' y d → Q y H') → te σ H Q
def LitA (K : PySem.W.Frag) (S : Addr → Prop) (σ : L2.St) (ta : TA) (ds : List PyData) : Prop := ∀ (H : Hp) (Q : List V → Hp → Prop), Al S H → (∀ ys H', Same H H' → DqAll K S H' ys ds → Q ys H') → ta σ H Q
theorem LitD.c {v : V} {d : PyData} (h : ∀ H, Dq K S H v d) : LitD K S σ (tC v) d := fun H Q _ q => q v H (fun _ _ e => e) (h H)
theorem LitA.nil : LitA K S σ tNil [] := fun H Q _ q => q [] H (fun _ _ e => e) .nil
theorem LitA.cons {te : TE} {ta : TA} {d : PyData} {ds : List PyData} (h1 : LitD K S σ te d) (h2 : LitA K S σ ta ds) : LitA K S σ (tCons te ta) (d :: ds) := fun H Q al q =>
  h1 H _ al fun y H1 s1 d1 => h2 H1 _ (al.sm s1) fun ys H2 s2 d2 => q _ _ (s1.trans s2) (.cons (d1.sm s2) d2)
theorem LitD.tup {ta : TA} {ds : List PyData} (h : LitA K S σ ta ds) (l : ds.length ≤ 900) : LitD K S σ (tTup ta) (.tuple ds) := fun H Q al q =>
  h H _ al fun ys H1 s1 d1 => ⟨Nat.le_trans (by rw [d1.len]; exact l) (by decide), fun p hp => q _ _ (s1.trans (same_new hp)) (dq_newT ((al.sm s1).no hp) upd_same (d1.sm (same_new hp)))⟩
theorem LitD.lst {ta : TA} {ds : List PyData} (h : LitA K S σ ta ds) (l : ds.length ≤ 900) : LitD K S σ (tLst ta) (.list ds) := fun H Q al q =>
  h H _ al fun ys H1 s1 d1 => ⟨Nat.le_trans (by rw [d1.len]; exact l) (by decide), fun p hp => q _ _ (s1.trans (same_new hp)) (dq_new ((al.sm s1).no hp) upd_same (d1.sm (same_new hp)))⟩
/-- the head of a reading: the literal stands as data -/
theorem g_lit {te : TE} {d : PyData} (h : LitD K S σ te d) {H : Hp} {Q : VK} (al : Al S H) (q : ∀ y H', Same H H' → Dq K S H' y d → Q y H') : te σ H Q := h H Q al q
/-- a list literal whose place is told -/
theorem g_litL {ta : TA} {ds : List PyData} (h : LitA K S σ ta ds) (l : ds.length ≤ 900) {H : Hp} {Q : VK} (al : Al S H) (q : ∀ p ys H', Same H H' → H p = none → H' p = some (.lst ys) → DqAll K S H' ys ds → Q (.ref p) H') : tLst ta σ H Q :=
  h H _ al fun ys H1 s1 d1 => ⟨Nat.le_trans (by rw [d1.len]; exact l) (by decide), fun p hp => q p ys _ (s1.trans (same_new hp)) (s1.free hp) upd_same (d1.sm (same_new hp))⟩
end
end Q

set_option Elab.async false
set_option linter.all false
set_option maxRecDepth 100000
set_option maxHeartbeats 4000000
/-! x in a list or a tuple of data without dicts; l.count(x) of such a list -/
namespace Q
open PySem PySem.Spec PyProof.Rows L2
def rInP (K : PySem.W.Frag) (neg : Bool) : R2 := fun x y H Q => ∃ d ds, Dp K H x d ∧ (Dp K H y (.list ds) ∨ Dp K H y (.tuple ds)) ∧ d.plain = true ∧ PyData.plainAll ds = true ∧ d.depth ≤ 60 ∧ Q (.bl (xor neg (ds.any fun z => PyData.eqv z d))) H
theorem op_inP {X : Cx} {K : PySem.W.Frag} (ek : X.K = K) (hu : X.A.units + 64 < cLine) : OpR X (compareOp .In) (rInP K false) := by
  subst ek
  intro pins s σ H x y v u Q I rx ry ⟨d, ds, hd, he, sd, se, dp, q⟩
  obtain ⟨as, r1⟩ := Dp.reads I d x v hd rx
  have room : X.A.units + 1 + min (PyData.depthAll ds) d.depth < cLine := by omega
  rcases he with he | he
  · obtain ⟨bs, r2⟩ := Dp.reads I (.list ds) y u he ry
    exact SeqAt.in_list_data r2 r1 se sd room ⟨.bl _, H, I, rfl, by rwa [Bool.false_xor] at q⟩
  · obtain ⟨bs, r2⟩ := Dp.reads I (.tuple ds) y u he ry
    exact SeqAt.in_tuple_data r2 r1 se sd room ⟨.bl _, H, I, rfl, by rwa [Bool.false_xor] at q⟩
theorem op_notInP {X : Cx} {K : PySem.W.Frag} (ek : X.K = K) (hu : X.A.units + 64 < cLine) : OpR X (compareOp .NotIn) (rInP K true) := by
  subst ek
  intro pins s σ H x y v u Q I rx ry ⟨d, ds, hd, he, sd, se, dp, q⟩
  obtain ⟨as, r1⟩ := Dp.reads I d x v hd rx
  have room : X.A.units + 1 + min (PyData.depthAll ds) d.depth < cLine := by omega
  rcases he with he | he
  · obtain ⟨bs, r2⟩ := Dp.reads I (.list ds) y u he ry
    exact SeqAt.notIn_list_data r2 r1 se sd room ⟨.bl _, H, I, rfl, by rwa [Bool.true_xor] at q⟩
  · obtain ⟨bs, r2⟩ := Dp.reads I (.tuple ds) y u he ry
    exact SeqAt.notIn_tuple_data r2 r1 se sd room ⟨.bl _, H, I, rfl, by rwa [Bool.true_xor] at q⟩
theorem g_inP {K : PySem.W.Frag} {neg : Bool} {x y : V} {H : Hp} {Q : VK} {d : PyData} {ds : List PyData} (h1 : Dp K H x d) (h2 : Dp K H y (.list ds) ∨ Dp K H y (.tuple ds)) (h3 : d.plain = true) (h4 : PyData.plainAll ds = true) (h5 : d.depth ≤ 60)
    (q : Q (.bl (xor neg (ds.any fun z => PyData.eqv z d))) H) : rInP K neg x y H Q := ⟨d, ds, h1, h2, h3, h4, h5, q⟩
def rCntP (K : PySem.W.Frag) : V → List V → Hp → VK → Prop := fun x xs H Q => ∃ y d ds, xs = [y] ∧ Dp K H x (.list ds) ∧ Dp K H y d ∧ d.plain = true ∧ PyData.plainAll ds = true ∧ d.depth ≤ 60 ∧ Q (.int ((ds.countP fun z => PyData.eqv z d : Nat) : Int)) H
theorem mt_countP {X : Cx} {K : PySem.W.Frag} (ek : X.K = K) (hu : X.A.units + 64 < cLine) : MtR X "list.count" (rCntP K) := by
  subst ek
  intro pins s σ H x xs v us Q I rx rxs ⟨y, d, ds, e, he, hd, sd, se, dp, q⟩
  subst e
  obtain ⟨u, rfl, ru⟩ := rxs.one
  obtain ⟨as, r1⟩ := Dp.reads I d y u hd ru
  have room : X.A.units + 1 + min (PyData.depthAll ds) d.depth < cLine := by omega
  cases he with
  | @lst p ys _ hs ha =>
    cases rx
    obtain ⟨its, rv, ⟨⟨cls, dd, data, sl⟩, n, ho, hc, hdn, hdt⟩, hlen⟩ := I.list hs
    obtain ⟨bs, r2⟩ := Dp.readsAll I ds _ its ha rv
    exact SeqAt.count_list_data (vs := its.toArray) ⟨_, ho, hc, n, hdt⟩ (show ReadsAll s.heap its.toArray.toList ds bs from r2) r1 se sd room ⟨.int _, H, I.tok _, ⟨_, rfl⟩, q⟩
theorem g_countP {K : PySem.W.Frag} {x y : V} {H : Hp} {Q : VK} {d : PyData} {ds : List PyData} (h1 : Dp K H x (.list ds)) (h2 : Dp K H y d) (h3 : d.plain = true) (h4 : PyData.plainAll ds = true) (h5 : d.depth ≤ 60)
    (q : Q (.int ((ds.countP fun z => PyData.eqv z d : Nat) : Int)) H) : rCntP K x [y] H Q := ⟨y, d, ds, rfl, h1, h2, h3, h4, h5, q⟩
end Q

set_option Elab.async false
set_option linter.all false
set_option maxRecDepth 100000
set_option maxHeartbeats 4000000
/-! a comprehension of two clauses -/
namespace Q
open PySem PySem.Spec PyProof.Rows L2
section
variable {K : PySem.W.Frag} {g g1 : TG} {tt tt1 : TT} {wi wi1 : TI} {te : TE} {vs vs1 : List Nat} {σ σ0 σ1 : L2.St} {H : Hp} {Q : VK} {a : Addr} {J : It}
/-- the inner clause's turns -/
def In1 (J1 : It) (g1 : TG) (tt1 : TT) (te : TE) (vs1 : List Nat) (σ2 : L2.St) (D : Addr) (N : Hp → Prop) (H4 : Hp) : Prop := ∃ W1 : Nat → Nat → Hp → Prop, (∃ m, W1 0 m H4) ∧ ∀ j k H, W1 j k H →
  (J1.stop j H ∧ N H) ∨ (J1.go j H ∧ ∃ Nx1 : Hp → Prop, (∀ H', Nx1 H' → ∃ k', k' < k ∧ W1 (j + 1) k' H') ∧ ∀ x H', J1.yld j H x H' → Turn1 g1 tt1 te vs1 (wipe σ2 vs1) D x H' Nx1)
/-- a turn of the outer clause -/
def TurnE (wi1 : TI) (g1 : TG) (tt1 : TT) (te : TE) (vs1 : List Nat) (D : Addr) (N : Hp → Prop) (σ2 : L2.St) (b : Bool) (H3 : Hp) : Prop := if b = true then wi1 σ2 H3 (fun J1 H4 => In1 J1 g1 tt1 te vs1 σ2 D N H4) else N H3
def TurnF (tt : TT) (wi1 : TI) (g1 : TG) (tt1 : TT) (te : TE) (vs vs1 : List Nat) (σ0 : L2.St) (D : Addr) (N : Hp → Prop) (σ2 : L2.St) (H2 : Hp) : Prop := wipe σ2 vs = σ0 ∧ tt σ2 H2 (TurnE wi1 g1 tt1 te vs1 D N σ2)
def Turn2 (g : TG) (tt : TT) (wi1 : TI) (g1 : TG) (tt1 : TT) (te : TE) (vs vs1 : List Nat) (σ0 : L2.St) (D : Addr) (x : V) (H : Hp) (N : Hp → Prop) : Prop := g x σ0 H (TurnF tt wi1 g1 tt1 te vs vs1 σ0 D N)
def Lc2G (J : It) (g : TG) (tt : TT) (wi1 : TI) (g1 : TG) (tt1 : TT) (te : TE) (vs vs1 : List Nat) (σ : L2.St) (Q : VK) (H1 : Hp) : Prop := ∀ D, H1 D = none → ∃ W : Nat → Nat → Hp → Prop,
  (∃ m, W 0 m (upd H1 D (.lst []))) ∧ ∀ i m H, W i m H → (J.stop i H ∧ Q (.ref D) H) ∨ (J.go i H ∧ ∃ Nx : Hp → Prop,
    (∀ H', Nx H' → ∃ m', m' < m ∧ W (i + 1) m' H') ∧ ∀ x H', J.yld i H x H' → Turn2 g tt wi1 g1 tt1 te vs vs1 (wipe σ vs) D x H' Nx)
theorem g_lc2 (h : wi σ H fun J H1 => Lc2G J g tt wi1 g1 tt1 te vs vs1 σ Q H1) : tLc2 wi g tt wi1 g1 tt1 te vs vs1 σ H Q := h
instance st_g_lc2 : Step (tLc2 wi g tt wi1 g1 tt1 te vs vs1 σ H Q) (wi σ H fun J H1 => Lc2G J g tt wi1 g1 tt1 te vs vs1 σ Q H1) := ⟨fun z => g_lc2 z⟩
instance st_g_turn2 {D : Addr} {x : V} {N : Hp → Prop} : Step (Turn2 g tt wi1 g1 tt1 te vs vs1 σ0 D x H N) (g x σ0 H (TurnF tt wi1 g1 tt1 te vs vs1 σ0 D N)) := ⟨fun z => z⟩
theorem g_turnF {D : Addr} {N : Hp → Prop} (e : wipe σ vs = σ0) (h : tt σ H (TurnE wi1 g1 tt1 te vs1 D N σ)) : TurnF tt wi1 g1 tt1 te vs vs1 σ0 D N σ H := ⟨e, h⟩
theorem g_turnE {D : Addr} {N : Hp → Prop} (h : wi1 σ H (fun J1 H4 => In1 J1 g1 tt1 te vs1 σ D N H4)) : TurnE wi1 g1 tt1 te vs1 D N σ true H := by
  unfold TurnE
  rw [if_pos rfl]
  exact h
instance st_g_turnE {D : Addr} {N : Hp → Prop} : Step (TurnE wi1 g1 tt1 te vs1 D N σ true H) (wi1 σ H (fun J1 H4 => In1 J1 g1 tt1 te vs1 σ D N H4)) := ⟨fun z => g_turnE z⟩
theorem lc2L {xs : List V} (hw : wipe σ vs = σ0) (h : ∀ D, H D = none → ∃ Pv : Nat → Hp → Prop, Pv 0 (upd H D (.lst [])) ∧ (∀ i H', Pv i H' → SqL K H' a xs) ∧
    (∀ (i : Nat) (x : V) (H' : Hp), xs[i]? = some x → Pv i H' → Turn2 g tt wi1 g1 tt1 te vs vs1 σ0 D x H' (Pv (i + 1))) ∧ ∀ H', Pv xs.length H' → Q (.ref D) H') : Lc2G (Itl K a) g tt wi1 g1 tt1 te vs vs1 σ Q H := by
  subst hw
  intro D hD
  obtain ⟨Pv, h0, hl, hs, hd⟩ := h D hD
  refine ⟨fun i m H => m = xs.length - i ∧ i ≤ xs.length ∧ Pv i H, ⟨xs.length, by simp, Nat.zero_le _, h0⟩, ?_⟩
  rintro i m H ⟨rfl, hi, p⟩
  have q := hl i H p
  by_cases hlt : i < xs.length
  · exact .inr ⟨⟨xs, xs[i], q, by simp [hlt]⟩, Pv (i + 1), fun H' p' => ⟨xs.length - (i + 1), by omega, rfl, hlt, p'⟩, fun x H' ⟨e1, e2⟩ => by subst e1; exact hs i x _ (e2 xs q) p⟩
  · obtain rfl : i = xs.length := by omega
    exact .inl ⟨⟨xs, q, Nat.le_refl _⟩, hd H p⟩
theorem lc2T {xs : List V} (hw : wipe σ vs = σ0) (h : ∀ D, H D = none → ∃ Pv : Nat → Hp → Prop, Pv 0 (upd H D (.lst [])) ∧ (∀ i H', Pv i H' → SqT K H' a xs) ∧
    (∀ (i : Nat) (x : V) (H' : Hp), xs[i]? = some x → Pv i H' → Turn2 g tt wi1 g1 tt1 te vs vs1 σ0 D x H' (Pv (i + 1))) ∧ ∀ H', Pv xs.length H' → Q (.ref D) H') : Lc2G (Itt K a) g tt wi1 g1 tt1 te vs vs1 σ Q H := by
  subst hw
  intro D hD
  obtain ⟨Pv, h0, hl, hs, hd⟩ := h D hD
  refine ⟨fun i m H => m = xs.length - i ∧ i ≤ xs.length ∧ Pv i H, ⟨xs.length, by simp, Nat.zero_le _, h0⟩, ?_⟩
  rintro i m H ⟨rfl, hi, p⟩
  have q := hl i H p
  by_cases hlt : i < xs.length
  · exact .inr ⟨⟨xs, xs[i], q, by simp [hlt]⟩, Pv (i + 1), fun H' p' => ⟨xs.length - (i + 1), by omega, rfl, hlt, p'⟩, fun x H' ⟨e1, e2⟩ => by subst e1; exact hs i x _ (e2 xs q) p⟩
  · obtain rfl : i = xs.length := by omega
    exact .inl ⟨⟨xs, q, Nat.le_refl _⟩, hd H p⟩
theorem lc2B {xs : List V} (c : SqL K H a xs ∨ SqT K H a xs) (hw : wipe σ vs = σ0) (h : ∀ D, H D = none → ∃ Pv : Nat → Hp → Prop, Pv 0 (upd H D (.lst [])) ∧ (∀ i H', Pv i H' → Same H H') ∧
    (∀ (i : Nat) (x : V) (H' : Hp), xs[i]? = some x → Pv i H' → Turn2 g tt wi1 g1 tt1 te vs vs1 σ0 D x H' (Pv (i + 1))) ∧ ∀ H', Pv xs.length H' → Q (.ref D) H') : BR K (fun J H1 => Lc2G J g tt wi1 g1 tt1 te vs vs1 σ Q H1) (.ref a) H := by
  refine g_bR c (fun c => lc2L (xs := xs) hw fun D hD => ?_) (fun c => lc2T (xs := xs) hw fun D hD => ?_)
  · obtain ⟨Pv, h0, hl, hs, hd⟩ := h D hD
    exact ⟨Pv, h0, fun i H' p => sqL_sm (hl i H' p) c, hs, hd⟩
  · obtain ⟨Pv, h0, hl, hs, hd⟩ := h D hD
    exact ⟨Pv, h0, fun i H' p => seqT_same (hl i H' p) c, hs, hd⟩
/-- the inner clause over a tuple -/
theorem in1T {xs : List V} {D : Addr} {N : Hp → Prop} (hw : wipe σ vs1 = σ1) (Pv : Nat → Hp → Prop) (h0 : Pv 0 H) (hl : ∀ i H', Pv i H' → SqT K H' a xs)
    (hs : ∀ (i : Nat) (x : V) (H' : Hp), xs[i]? = some x → Pv i H' → Turn1 g1 tt1 te vs1 σ1 D x H' (Pv (i + 1))) (hd : ∀ H', Pv xs.length H' → N H') : In1 (Itt K a) g1 tt1 te vs1 σ D N H := by
  subst hw
  refine ⟨fun i m H => m = xs.length - i ∧ i ≤ xs.length ∧ Pv i H, ⟨xs.length, by simp, Nat.zero_le _, h0⟩, ?_⟩
  rintro i m H ⟨rfl, hi, p⟩
  have q := hl i H p
  by_cases hlt : i < xs.length
  · exact .inr ⟨⟨xs, xs[i], q, by simp [hlt]⟩, Pv (i + 1), fun H' p' => ⟨xs.length - (i + 1), by omega, rfl, hlt, p'⟩, fun x H' ⟨e1, e2⟩ => by subst e1; exact hs i x _ (e2 xs q) p⟩
  · obtain rfl : i = xs.length := by omega
    exact .inl ⟨⟨xs, q, Nat.le_refl _⟩, hd H p⟩
end
end Q

set_option Elab.async false
set_option linter.all false
set_option maxRecDepth 100000
set_option maxHeartbeats 4000000
/-! a global of the module that holds a tuple of texts -/
namespace Q
open PySem PySem.Spec L2
def valsSB : List Str → List Value → Bool
  | [], [] => true
  | x :: xs, .str y _ :: us => decide (x = y) && valsSB xs us
  | _, _ => false
theorem valsSB_ok : ∀ {xs : List Str} {us : List Value}, valsSB xs us = true → Vals (xs.map V.str) us
  | [], [], _ => .nil
  | x :: xs, .str y t :: us, h => by
    have h2 : (decide (x = y) && valsSB xs us) = true := h
    rw [Bool.and_eq_true] at h2
    have e := of_decide_eq_true h2.1
    subst e
    exact .cons ⟨t, rfl⟩ (valsSB_ok h2.2)
  | [], _ :: _, h => Bool.noConfusion h
  | _ :: _, [], h => Bool.noConfusion h
def tupSB (K : PySem.W.Frag) (x : Str) (ss : List Str) : Bool := match K.lookup (He.ga K x) with
  | some o => match o.data with
    | .seq its _ => decide (o.cls = .type "tuple") && (decide (its.size ≤ sizeLine) && valsSB ss its.toList)
    | _ => false
  | none => false
def TupS (K : PySem.W.Frag) (x : Str) (ss : List Str) : Prop := ∀ H : Hp, SqT K H (He.ga K x) (ss.map V.str)
theorem tupSB_ok {K : PySem.W.Frag} {x : Str} {ss : List Str} (h : tupSB K x ss = true) : TupS K x ss := by
  intro H
  unfold tupSB at h
  split at h
  · rename_i o e
    split at h
    · rename_i its n ed
      rw [Bool.and_eq_true, Bool.and_eq_true] at h
      exact .inr ⟨o, its, n, e, of_decide_eq_true h.1, ed, of_decide_eq_true h.2.1, valsSB_ok h.2.2⟩
    · cases h
  · cases h
end Q

set_option Elab.async false
set_option linter.all false
set_option maxRecDepth 100000
set_option maxHeartbeats 4000000
/-! staticmethods read off their class, with keywords -/
namespace Q
open PySem PySem.Spec PyProof.Rows L2
/-- C.m is a staticmethod: its record at p, its def at g -/
structure StmK (K : PySem.W.Frag) (C : Addr) (m : Str) (p g : Addr) : Prop where
  rd : ClX.CRead K C (.type "type")
  at_ : PySem.W.findCls K (.ref C) (.type "type") m = some (.get (.builtin "staticmethod.__get__") (.ref p) .none (.ref C))
  rc : ∃ rest, PySem.W.recIn K p "staticmethod" = some (.ref g :: rest)
def stmB (K : PySem.W.Frag) (c m : Str) : Bool := PySem.W.readsIn K (He.ga K c) (.type "type") && (decide (PySem.W.specialIn K (.ref (He.ga K c)) "__getattribute__" = some (some (.builtin "type.__getattribute__"))) &&
  He5.wrapB K (He.ga K c) "staticmethod" "staticmethod.__get__" m)
theorem stmB_ok {K : PySem.W.Frag} {c m : Str} (h : stmB K c m = true) : StmK K (He.ga K c) m (He.ma K (He.ga K c) m) (He5.wf K (He.ga K c) "staticmethod" m) := by
  obtain ⟨h1, h⟩ := He.ba h
  obtain ⟨h2, h3⟩ := He.ba h
  obtain ⟨h4, h5⟩ := He5.wrapB_ok h3
  exact ⟨⟨h1, of_decide_eq_true h2⟩, h4, h5⟩
structure SMetK (P : Program) (w : World) (K : PySem.W.Frag) (mg : Str → Option Value) (base : Heap) (C : Addr) (m : Str) (k n : Nat) (ks : List Str) (gV : List V → List V → List V) (sp : Sp) : Prop where
  ex : ∃ (p f : Addr) (fd : FuncData) (ps : List Str) (g : List Value → List Value → List Value), StmK K C m p f ∧ FnOk P w K mg base CX0 k f fd ps sp ∧ PySem.W.keepIn K (.ref f) = true ∧ KBn K fd ps n ks g gV
theorem smet_mk {P : Program} {w : World} {K : PySem.W.Frag} {mg : Str → Option Value} {base : Heap} {C : Addr} {m : Str} {x q : Str} {pa : Arguments} {bd : List Stmt} {sc : Scope} {dv : List V} {kw : List (Str × V)} {k n : Nat} {ks ps : List Str} {gV : List V → List V → List V} {sp : Sp} {p f : Addr}
    (c : StmK K C m p f) (h : ∃ (fd : FuncData), FunD K x q pa bd sc dv kw f fd) (ok : ∀ {f : Addr} {fd : FuncData}, FunD K x q pa bd sc dv kw f fd → FnOk P w K mg base CX0 k f fd ps sp)
    (b : ∀ {f : Addr} {fd : FuncData}, FunD K x q pa bd sc dv kw f fd → ∃ g, KBn K fd ps n ks g gV) : SMetK P w K mg base C m k n ks gV sp := by
  obtain ⟨fd, F⟩ := h
  obtain ⟨g, hb⟩ := b F
  exact ⟨p, f, fd, ps, g, c, ok F, F.kp, hb⟩
def tSM (C : Addr) (n j : Nat) (sp : Sp) (gV : List V → List V → List V) (ta : TE) (t tk : TA) : TE := fun σ H Q => ta σ H fun x H1 => x = .ref C ∧ t σ H1 fun vs H2 => tk σ H2 fun zs H3 => vs.length = n ∧ zs.length = j ∧ sp (gV vs zs) H3 Q E0
section
variable {X : Cx} {k n : Nat} {C : Addr} {ks : List Str} {sp : Sp} {gV : List V → List V → List V} {o e : Expr} {es : List Expr} {kws : List Keyword} {m : Str} {pos apos : Pos} {ta : TE} {t tk : TA} {pl : Sem Bool}
theorem getstat_ok {pins : List (Addr × Obj)} {σ : L2.St} {H : Hp} {s : Shared} {A : Around} {E : Value → Shared → Prop} {p g : Addr} {Q : Value × List Value → Shared → Prop} (I : Inv X pins σ H s) (c : StmK X.K C m p g) (h : ∀ s', Inv X pins σ H s' → Q (.ref g, []) s') : wpAny (model X.prog X.w) A (getMethod (.ref C) m pl) Q E s := by
  obtain ⟨rest, hp⟩ := c.rc
  refine PySem.W.method_cls I.kIn c.rd.ga (PySem.W.cls_bind I.kIn c.rd.rd c.at_ ?_)
  refine wpAny_call (PySem.W.sm_get (s := { s with toks := s.toks + 1 }) I.kIn hp (PySem.W.handed_on rfl ?_))
  exact h _ (I.tok _)
theorem pe_smK (he : PE X o ta) (M : SMetK X.prog X.w X.K X.mg X.base C m k n ks gV sp) (hr : Room k X.A) (ha : PA X (e :: es) t) (hkw : PK X kws tk)
    (some_ : (backToKw pos (keywordEach kws X.env)).all (·.1.isSome) = true := by rfl) (names : (backToKw pos (keywordEach kws X.env)).filterMap (·.1) = ks := by rfl)
    (st : starEach (e :: es) X.env = (false, eval e X.env) :: starEach es X.env := by rfl) (nost : ((backTo pos (starEach (e :: es) X.env)).any (·.1) || (backToKw pos (keywordEach kws X.env)).any (·.1.isNone)) = false := by rfl)
    (ht : eval (.Call (.Attribute o m apos) (e :: es) kws pos) X.env = (do
      let ov ← eval o X.env
      standAt apos.atName
      let (f, first) ← holding [ov] (getMethod ov m pl)
      callWith pos f first (backTo pos (starEach (e :: es) X.env)) (backToKw pos (keywordEach kws X.env))) := by rfl) :
    PE X (.Call (.Attribute o m apos) (e :: es) kws pos) (tSM C n ks.length sp gV ta t tk) := by
  obtain ⟨p, f, fd, ps, g, c, F, hk, hb⟩ := M.ex
  refine ⟨fun pins s σ H Q I h => PySem.W.methodCall_KW (pl := pl) (thn (he.run pins s σ H _ I h) fun u s1 z => ?_) ht⟩
  obtain ⟨y, H1, I1, rx, rfl, q⟩ := z
  obtain rfl : u = Value.ref C := rx
  refine getstat_ok I1 c fun s2 I2 => ?_
  refine PySem.W.callWith_KW (h₀ := X.base) I2.ok.mod.kin hk some_ (thn (ha.run pos _ s2 σ H1 _ I2 q) fun us s3 z => ?_) nost st
  obtain ⟨vs, H2, I3, rv, q2⟩ := z
  refine thn (hkw.run pos _ s3 σ H2 _ I3 q2) fun ws s4 z => ?_
  obtain ⟨zs, H3, I4, rz, l1, l2, q3⟩ := z
  refine ⟨I4.kIn, ?_⟩
  rw [names]
  exact run_fnN F hr hb pass0 I4 rv rz l1 l2 q3
theorem pe_smK0 (he : PE X o ta) (M : SMetK X.prog X.w X.K X.mg X.base C m k 0 ks gV sp) (hr : Room k X.A) (hkw : PK X kws tk)
    (some_ : (backToKw pos (keywordEach kws X.env)).all (·.1.isSome) = true := by rfl) (names : (backToKw pos (keywordEach kws X.env)).filterMap (·.1) = ks := by rfl)
    (nost : ((backTo pos (starEach [] X.env)).any (·.1) || (backToKw pos (keywordEach kws X.env)).any (·.1.isNone)) = false := by rfl)
    (ht : eval (.Call (.Attribute o m apos) [] kws pos) X.env = (do
      let ov ← eval o X.env
      standAt apos.atName
      let (f, first) ← holding [ov] (getMethod ov m pl)
      callWith pos f first (backTo pos (starEach [] X.env)) (backToKw pos (keywordEach kws X.env))) := by rfl) :
    PE X (.Call (.Attribute o m apos) [] kws pos) (tSM C 0 ks.length sp gV ta tNil tk) := by
  obtain ⟨p, f, fd, ps, g, c, F, hk, hb⟩ := M.ex
  refine ⟨fun pins s σ H Q I h => PySem.W.methodCall_KW (pl := pl) (thn (he.run pins s σ H _ I h) fun u s1 z => ?_) ht⟩
  obtain ⟨y, H1, I1, rx, rfl, q⟩ := z
  obtain rfl : u = Value.ref C := rx
  refine getstat_ok I1 c fun s2 I2 => ?_
  refine PySem.W.callWith_KW0 (h₀ := X.base) I2.ok.mod.kin hk some_ (thn (hkw.run pos _ s2 σ H1 _ I2 q) fun ws s4 z => ?_) nost
  obtain ⟨zs, H3, I4, rz, l1, l2, q3⟩ := z
  refine ⟨I4.kIn, ?_⟩
  rw [names]
  exact run_fnN (us := []) (vs := []) F hr hb pass0 I4 .nil rz l1 l2 q3
end
section
variable {C : Addr} {n j : Nat} {sp : Sp} {gV : List V → List V → List V} {ta : TE} {t tk : TA} {σ : L2.St} {H : Hp} {Q : VK}
theorem g_sm (h : ta σ H fun x H1 => x = .ref C ∧ t σ H1 fun vs H2 => tk σ H2 fun zs H3 => vs.length = n ∧ zs.length = j ∧ sp (gV vs zs) H3 Q E0) : tSM C n j sp gV ta t tk σ H Q := h
instance st_g_sm : Step (tSM C n j sp gV ta t tk σ H Q) (ta σ H fun x H1 => x = .ref C ∧ t σ H1 fun vs H2 => tk σ H2 fun zs H3 => vs.length = n ∧ zs.length = j ∧ sp (gV vs zs) H3 Q E0) := ⟨fun z => z⟩
end
end Q

set_option Elab.async false
set_option linter.all false
set_option maxRecDepth 100000
set_option maxHeartbeats 4000000
namespace Q
open PySem PySem.Spec L2
def topS (i : Nat) : Stmt := PySem.Challenge.pw_answersalone_k55_splits_refused.main.body.getD i (.Pass ⟨0, 0, 0, 0⟩)
abbrev s__wall : Stmt := topS 0
abbrev N__wall : List Str := ["k"]
abbrev P__wall : List Str := ["k"]
theorem sc__wall : FnScope N__wall P__wall (defScope s__wall) :=
  ⟨rfl, rfl, rfl, by decide +kernel, rfl, by decide +kernel, by decide +kernel⟩
abbrev s_is_number : Stmt := topS 9
abbrev N_is_number : List Str := ["value", "least", "most"]
abbrev P_is_number : List Str := ["value", "least", "most"]
theorem sc_is_number : FnScope N_is_number P_is_number (defScope s_is_number) :=
  ⟨rfl, rfl, rfl, by decide +kernel, rfl, by decide +kernel, by decide +kernel⟩
abbrev s_is_thing : Stmt := topS 21
abbrev N_is_thing : List Str := ["shape", "value", "kind", "layer", "number"]
abbrev P_is_thing : List Str := ["shape", "value"]
theorem sc_is_thing : FnScope N_is_thing P_is_thing (defScope s_is_thing) :=
  ⟨rfl, rfl, rfl, by decide +kernel, rfl, by decide +kernel, by decide +kernel⟩
abbrev s_wrong_thing : Stmt := topS 22
abbrev N_wrong_thing : List Str := ["shape", "machines", "standing", "machine", "thing"]
abbrev P_wrong_thing : List Str := ["shape", "machines"]
theorem sc_wrong_thing : FnScope N_wrong_thing P_wrong_thing (defScope s_wrong_thing) :=
  ⟨rfl, rfl, rfl, by decide +kernel, rfl, by decide +kernel, by decide +kernel⟩
abbrev s__wrong_item : Stmt := topS 23
abbrev N__wrong_item : List Str := ["shape", "machine", "at", "item"]
abbrev P__wrong_item : List Str := ["shape", "machine"]
theorem sc__wrong_item : FnScope N__wrong_item P__wrong_item (defScope s__wrong_item) :=
  ⟨rfl, rfl, rfl, by decide +kernel, rfl, by decide +kernel, by decide +kernel⟩
abbrev s__things_of : Stmt := topS 24
abbrev N__things_of : List Str := ["machine", "thing"]
abbrev P__things_of : List Str := ["machine"]
theorem sc__things_of : FnScope N__things_of P__things_of (defScope s__things_of) :=
  ⟨rfl, rfl, rfl, by decide +kernel, rfl, by decide +kernel, by decide +kernel⟩
abbrev s__law_start : Stmt := topS 26
abbrev N__law_start : List Str := ["_law_script", "_law_mixed", "_law_cell"]
abbrev P__law_start : List Str := ["_law_script"]
theorem sc__law_start : FnScope N__law_start P__law_start (defScope s__law_start) :=
  ⟨rfl, rfl, rfl, by decide +kernel, rfl, by decide +kernel, by decide +kernel⟩
abbrev s__law_draw : Stmt := topS 27
abbrev N__law_draw : List Str := ["_law_bag", "_law_many", "_law_cell", "_law_digit", "_law_seed"]
abbrev P__law_draw : List Str := ["_law_bag", "_law_many"]
theorem sc__law_draw : FnScope N__law_draw P__law_draw (defScope s__law_draw) :=
  ⟨rfl, rfl, rfl, by decide +kernel, rfl, by decide +kernel, by decide +kernel⟩
abbrev s__law_pick : Stmt := topS 28
abbrev N__law_pick : List Str := ["_law_bag", "_law_some"]
abbrev P__law_pick : List Str := ["_law_bag", "_law_some"]
theorem sc__law_pick : FnScope N__law_pick P__law_pick (defScope s__law_pick) :=
  ⟨rfl, rfl, rfl, by decide +kernel, rfl, by decide +kernel, by decide +kernel⟩
abbrev s__law_like : Stmt := topS 29
abbrev N__law_like : List Str := ["_law_told_here", "_law_due"]
abbrev P__law_like : List Str := ["_law_told_here", "_law_due"]
theorem sc__law_like : FnScope N__law_like P__law_like (defScope s__law_like) :=
  ⟨rfl, rfl, rfl, by decide +kernel, rfl, by decide +kernel, by decide +kernel⟩
abbrev s__law_things : Stmt := topS 30
abbrev N__law_things : List Str := ["_law_figure_here", "_law_many", "_law_wide", "_law_deep", "_law_broad", "_law_found", "_law_at", "_law_h", "_law_j", "_law_a"]
abbrev P__law_things : List Str := ["_law_figure_here"]
theorem sc__law_things : FnScope N__law_things P__law_things (defScope s__law_things) :=
  ⟨rfl, rfl, rfl, by decide +kernel, rfl, by decide +kernel, by decide +kernel⟩
abbrev s__law_dealt : Stmt := topS 31
abbrev N__law_dealt : List Str := ["_law_bag", "_law_parts", "_law_many", "_law_lots", "_law_k", "_law_part", "_law_lot"]
abbrev P__law_dealt : List Str := ["_law_bag", "_law_parts", "_law_many"]
theorem sc__law_dealt : FnScope N__law_dealt P__law_dealt (defScope s__law_dealt) :=
  ⟨rfl, rfl, rfl, by decide +kernel, rfl, by decide +kernel, by decide +kernel⟩
abbrev s__law_split : Stmt := topS 32
abbrev N__law_split : List Str := ["_law_form", "_law_lots"]
abbrev P__law_split : List Str := ["_law_form", "_law_lots"]
theorem sc__law_split : FnScope N__law_split P__law_split (defScope s__law_split) :=
  ⟨rfl, rfl, rfl, by decide +kernel, rfl, by decide +kernel, by decide +kernel⟩
abbrev s__law_copies : Stmt := topS 33
abbrev N__law_copies : List Str := ["_law_lots", "_law_lot"]
abbrev P__law_copies : List Str := ["_law_lots"]
theorem sc__law_copies : FnScope N__law_copies P__law_copies (defScope s__law_copies) :=
  ⟨rfl, rfl, rfl, by decide +kernel, rfl, by decide +kernel, by decide +kernel⟩
abbrev s__law_figure : Stmt := topS 34
abbrev N__law_figure : List Str := ["_law_bag"]
abbrev P__law_figure : List Str := ["_law_bag"]
theorem sc__law_figure : FnScope N__law_figure P__law_figure (defScope s__law_figure) :=
  ⟨rfl, rfl, rfl, by decide +kernel, rfl, by decide +kernel, by decide +kernel⟩
abbrev s__law_stranger : Stmt := topS 35
abbrev N__law_stranger : List Str := ["_law_bag", "_law_figure_here", "_law_many", "_law_wide", "_law_deep", "_law_broad", "_law_far", "_law_found"]
abbrev P__law_stranger : List Str := ["_law_bag", "_law_figure_here"]
theorem sc__law_stranger : FnScope N__law_stranger P__law_stranger (defScope s__law_stranger) :=
  ⟨rfl, rfl, rfl, by decide +kernel, rfl, by decide +kernel, by decide +kernel⟩
abbrev s__law_spoilt : Stmt := topS 36
abbrev N__law_spoilt : List Str := ["_law_bag", "_law_figure_here", "_law_lots", "_law_bent", "_law_parts", "_law_turn", "_law_way", "_law_lists", "_law_m", "_law_extra", "_law_lot"]
abbrev P__law_spoilt : List Str := ["_law_bag", "_law_figure_here", "_law_lots"]
theorem sc__law_spoilt : FnScope N__law_spoilt P__law_spoilt (defScope s__law_spoilt) :=
  ⟨rfl, rfl, rfl, by decide +kernel, rfl, by decide +kernel, by decide +kernel⟩
abbrev s__law_fault : Stmt := topS 37
abbrev N__law_fault : List Str := ["_law_figure_here", "_law_lots", "_law_parts", "_law_words", "_law_part", "_law_m", "_law_at", "_law_flat", "_law_lot", "_law_one", "_law_wrong"]
abbrev P__law_fault : List Str := ["_law_figure_here", "_law_lots"]
theorem sc__law_fault : FnScope N__law_fault P__law_fault (defScope s__law_fault) :=
  ⟨rfl, rfl, rfl, by decide +kernel, rfl, by decide +kernel, by decide +kernel⟩
abbrev s__law_plain_error : Stmt := topS 38
abbrev N__law_plain_error : List Str := ["_law_e"]
abbrev P__law_plain_error : List Str := ["_law_e"]
theorem sc__law_plain_error : FnScope N__law_plain_error P__law_plain_error (defScope s__law_plain_error) :=
  ⟨rfl, rfl, rfl, by decide +kernel, rfl, by decide +kernel, by decide +kernel⟩
abbrev s__law_told : Stmt := topS 39
abbrev N__law_told : List Str := ["_law_form", "_law_lots", "_law_split_here", "_law_e"]
abbrev P__law_told : List Str := ["_law_form", "_law_lots"]
theorem sc__law_told : FnScope N__law_told P__law_told (defScope s__law_told) :=
  ⟨rfl, rfl, rfl, by decide +kernel, rfl, by decide +kernel, by decide +kernel⟩
abbrev s__law_caught : Stmt := topS 40
abbrev N__law_caught : List Str := ["_law_form", "_law_lots", "_law_e"]
abbrev P__law_caught : List Str := ["_law_form", "_law_lots"]
theorem sc__law_caught : FnScope N__law_caught P__law_caught (defScope s__law_caught) :=
  ⟨rfl, rfl, rfl, by decide +kernel, rfl, by decide +kernel, by decide +kernel⟩
abbrev s_law : Stmt := topS 41
abbrev N_law : List Str := ["_law_script", "_law_bag", "_law_figure_here", "_law_form", "_law_lots", "_law_turn", "_law_bent", "_law_before", "_law_due", "_law_spare", "_law_part", "_law_gone"]
abbrev P_law : List Str := ["_law_script"]
theorem sc_law : FnScope N_law P_law (defScope s_law) :=
  ⟨rfl, rfl, rfl, by decide +kernel, rfl, by decide +kernel, by decide +kernel⟩
abbrev s_InvalidSetting___init__ : Stmt := inClass (topS 5) 0
abbrev N_InvalidSetting___init__ : List Str := ["self", "field"]
abbrev P_InvalidSetting___init__ : List Str := ["self", "field"]
theorem sc_InvalidSetting___init__ : FnScope N_InvalidSetting___init__ P_InvalidSetting___init__ (defScope s_InvalidSetting___init__) :=
  ⟨rfl, rfl, rfl, by decide +kernel, rfl, by decide +kernel, by decide +kernel⟩
abbrev s_InvalidThing___init__ : Stmt := inClass (topS 6) 0
abbrev N_InvalidThing___init__ : List Str := ["self", "machine", "at"]
abbrev P_InvalidThing___init__ : List Str := ["self", "machine", "at"]
theorem sc_InvalidThing___init__ : FnScope N_InvalidThing___init__ P_InvalidThing___init__ (defScope s_InvalidThing___init__) :=
  ⟨rfl, rfl, rfl, by decide +kernel, rfl, by decide +kernel, by decide +kernel⟩
abbrev s_InvalidSplit___init__ : Stmt := inClass (topS 7) 0
abbrev N_InvalidSplit___init__ : List Str := ["self", "kind", "layer", "number"]
abbrev P_InvalidSplit___init__ : List Str := ["self", "kind", "layer", "number"]
theorem sc_InvalidSplit___init__ : FnScope N_InvalidSplit___init__ P_InvalidSplit___init__ (defScope s_InvalidSplit___init__) :=
  ⟨rfl, rfl, rfl, by decide +kernel, rfl, by decide +kernel, by decide +kernel⟩
abbrev s_Shape___init__ : Stmt := inClass (topS 16) 0
abbrev N_Shape___init__ : List Str := ["self", "tokens", "width", "layers", "heads", "bounds", "field", "value", "least", "most"]
abbrev P_Shape___init__ : List Str := ["self", "tokens", "width", "layers", "heads"]
theorem sc_Shape___init__ : FnScope N_Shape___init__ P_Shape___init__ (defScope s_Shape___init__) :=
  ⟨rfl, rfl, rfl, by decide +kernel, rfl, by decide +kernel, by decide +kernel⟩
abbrev s_Shape_things : Stmt := inClass (topS 16) 1
abbrev N_Shape_things : List Str := ["self", "found", "layer", "number"]
abbrev P_Shape_things : List Str := ["self"]
theorem sc_Shape_things : FnScope N_Shape_things P_Shape_things (defScope s_Shape_things) :=
  ⟨rfl, rfl, rfl, by decide +kernel, rfl, by decide +kernel, by decide +kernel⟩
abbrev s_Shape___eq__ : Stmt := inClass (topS 16) 2
abbrev N_Shape___eq__ : List Str := ["self", "other"]
abbrev P_Shape___eq__ : List Str := ["self", "other"]
theorem sc_Shape___eq__ : FnScope N_Shape___eq__ P_Shape___eq__ (defScope s_Shape___eq__) :=
  ⟨rfl, rfl, rfl, by decide +kernel, rfl, by decide +kernel, by decide +kernel⟩
abbrev s_Shape___repr__ : Stmt := inClass (topS 16) 3
abbrev N_Shape___repr__ : List Str := ["self"]
abbrev P_Shape___repr__ : List Str := ["self"]
theorem sc_Shape___repr__ : FnScope N_Shape___repr__ P_Shape___repr__ (defScope s_Shape___repr__) :=
  ⟨rfl, rfl, rfl, by decide +kernel, rfl, by decide +kernel, by decide +kernel⟩
abbrev s_Split___init__ : Stmt := inClass (topS 20) 0
abbrev N_Split___init__ : List Str := ["self", "shape", "machines", "at", "machine", "wrong", "twice_or_never", "kind", "layer", "number"]
abbrev P_Split___init__ : List Str := ["self", "shape", "machines"]
theorem sc_Split___init__ : FnScope N_Split___init__ P_Split___init__ (defScope s_Split___init__) :=
  ⟨rfl, rfl, rfl, by decide +kernel, rfl, by decide +kernel, by decide +kernel⟩
abbrev s_Split_machine_of : Stmt := inClass (topS 20) 1
abbrev N_Split_machine_of : List Str := ["self", "thing"]
abbrev P_Split_machine_of : List Str := ["self", "thing"]
theorem sc_Split_machine_of : FnScope N_Split_machine_of P_Split_machine_of (defScope s_Split_machine_of) :=
  ⟨rfl, rfl, rfl, by decide +kernel, rfl, by decide +kernel, by decide +kernel⟩
abbrev s_Split___eq__ : Stmt := inClass (topS 20) 2
abbrev N_Split___eq__ : List Str := ["self", "other"]
abbrev P_Split___eq__ : List Str := ["self", "other"]
theorem sc_Split___eq__ : FnScope N_Split___eq__ P_Split___eq__ (defScope s_Split___eq__) :=
  ⟨rfl, rfl, rfl, by decide +kernel, rfl, by decide +kernel, by decide +kernel⟩
abbrev s_Split___len__ : Stmt := inClass (topS 20) 3
abbrev N_Split___len__ : List Str := ["self"]
abbrev P_Split___len__ : List Str := ["self"]
theorem sc_Split___len__ : FnScope N_Split___len__ P_Split___len__ (defScope s_Split___len__) :=
  ⟨rfl, rfl, rfl, by decide +kernel, rfl, by decide +kernel, by decide +kernel⟩
abbrev s_Split___repr__ : Stmt := inClass (topS 20) 4
abbrev N_Split___repr__ : List Str := ["self"]
abbrev P_Split___repr__ : List Str := ["self"]
theorem sc_Split___repr__ : FnScope N_Split___repr__ P_Split___repr__ (defScope s_Split___repr__) :=
  ⟨rfl, rfl, rfl, by decide +kernel, rfl, by decide +kernel, by decide +kernel⟩
structure Top (K : PySem.W.Frag) (mg : Str → Option Value) : Prop where
  f_is_number : ∃ (f : Addr) (fd : FuncData), FunD K "is_number" "is_number" (defArgs s_is_number) (defBody s_is_number) (defScope s_is_number) [] [] f fd ∧ mg "is_number" = some (.ref f)
  f_is_thing : ∃ (f : Addr) (fd : FuncData), FunD K "is_thing" "is_thing" (defArgs s_is_thing) (defBody s_is_thing) (defScope s_is_thing) [] [] f fd ∧ mg "is_thing" = some (.ref f)
  f_wrong_thing : ∃ (f : Addr) (fd : FuncData), FunD K "wrong_thing" "wrong_thing" (defArgs s_wrong_thing) (defBody s_wrong_thing) (defScope s_wrong_thing) [] [] f fd ∧ mg "wrong_thing" = some (.ref f)
  f__wrong_item : ∃ (f : Addr) (fd : FuncData), FunD K "_wrong_item" "_wrong_item" (defArgs s__wrong_item) (defBody s__wrong_item) (defScope s__wrong_item) [] [] f fd ∧ mg "_wrong_item" = some (.ref f)
  f__things_of : ∃ (f : Addr) (fd : FuncData), FunD K "_things_of" "_things_of" (defArgs s__things_of) (defBody s__things_of) (defScope s__things_of) [] [] f fd ∧ mg "_things_of" = some (.ref f)
  f__law_start : ∃ (f : Addr) (fd : FuncData), FunD K "_law_start" "_law_start" (defArgs s__law_start) (defBody s__law_start) (defScope s__law_start) [] [] f fd ∧ mg "_law_start" = some (.ref f)
  f__law_draw : ∃ (f : Addr) (fd : FuncData), FunD K "_law_draw" "_law_draw" (defArgs s__law_draw) (defBody s__law_draw) (defScope s__law_draw) [] [] f fd ∧ mg "_law_draw" = some (.ref f)
  f__law_pick : ∃ (f : Addr) (fd : FuncData), FunD K "_law_pick" "_law_pick" (defArgs s__law_pick) (defBody s__law_pick) (defScope s__law_pick) [] [] f fd ∧ mg "_law_pick" = some (.ref f)
  f__law_like : ∃ (f : Addr) (fd : FuncData), FunD K "_law_like" "_law_like" (defArgs s__law_like) (defBody s__law_like) (defScope s__law_like) [] [] f fd ∧ mg "_law_like" = some (.ref f)
  f__law_things : ∃ (f : Addr) (fd : FuncData), FunD K "_law_things" "_law_things" (defArgs s__law_things) (defBody s__law_things) (defScope s__law_things) [] [] f fd ∧ mg "_law_things" = some (.ref f)
  f__law_dealt : ∃ (f : Addr) (fd : FuncData), FunD K "_law_dealt" "_law_dealt" (defArgs s__law_dealt) (defBody s__law_dealt) (defScope s__law_dealt) [] [] f fd ∧ mg "_law_dealt" = some (.ref f)
  f__law_split : ∃ (f : Addr) (fd : FuncData), FunD K "_law_split" "_law_split" (defArgs s__law_split) (defBody s__law_split) (defScope s__law_split) [] [] f fd ∧ mg "_law_split" = some (.ref f)
  f__law_copies : ∃ (f : Addr) (fd : FuncData), FunD K "_law_copies" "_law_copies" (defArgs s__law_copies) (defBody s__law_copies) (defScope s__law_copies) [] [] f fd ∧ mg "_law_copies" = some (.ref f)
  f__law_figure : ∃ (f : Addr) (fd : FuncData), FunD K "_law_figure" "_law_figure" (defArgs s__law_figure) (defBody s__law_figure) (defScope s__law_figure) [] [] f fd ∧ mg "_law_figure" = some (.ref f)
  f__law_stranger : ∃ (f : Addr) (fd : FuncData), FunD K "_law_stranger" "_law_stranger" (defArgs s__law_stranger) (defBody s__law_stranger) (defScope s__law_stranger) [] [] f fd ∧ mg "_law_stranger" = some (.ref f)
  f__law_spoilt : ∃ (f : Addr) (fd : FuncData), FunD K "_law_spoilt" "_law_spoilt" (defArgs s__law_spoilt) (defBody s__law_spoilt) (defScope s__law_spoilt) [] [] f fd ∧ mg "_law_spoilt" = some (.ref f)
  f__law_fault : ∃ (f : Addr) (fd : FuncData), FunD K "_law_fault" "_law_fault" (defArgs s__law_fault) (defBody s__law_fault) (defScope s__law_fault) [] [] f fd ∧ mg "_law_fault" = some (.ref f)
  f__law_plain_error : ∃ (f : Addr) (fd : FuncData), FunD K "_law_plain_error" "_law_plain_error" (defArgs s__law_plain_error) (defBody s__law_plain_error) (defScope s__law_plain_error) [] [] f fd ∧ mg "_law_plain_error" = some (.ref f)
  f__law_told : ∃ (f : Addr) (fd : FuncData), FunD K "_law_told" "_law_told" (defArgs s__law_told) (defBody s__law_told) (defScope s__law_told) [] [] f fd ∧ mg "_law_told" = some (.ref f)
  f__law_caught : ∃ (f : Addr) (fd : FuncData), FunD K "_law_caught" "_law_caught" (defArgs s__law_caught) (defBody s__law_caught) (defScope s__law_caught) [] [] f fd ∧ mg "_law_caught" = some (.ref f)
  g_Shape : mg "Shape" = some (.ref (He.ga K "Shape"))
  cl_Shape : Cls K (He.ga K "Shape")
  na_Shape_tokens : NoAttr K (He.ga K "Shape") "tokens"
  na_Shape_width : NoAttr K (He.ga K "Shape") "width"
  na_Shape_layers : NoAttr K (He.ga K "Shape") "layers"
  na_Shape_heads : NoAttr K (He.ga K "Shape") "heads"
  mk_Shape : Mk K (He.ga K "Shape") (He.ma K (He.ga K "Shape") "__init__")
  f_Shape___init__ : ∃ (fd : FuncData), FunD K "__init__" "Shape.__init__" (defArgs s_Shape___init__) (defBody s_Shape___init__) (defScope s_Shape___init__) [] [] (He.ma K (He.ga K "Shape") "__init__") fd
  me_Shape_things : Meth K (He.ga K "Shape") "things" (He.ma K (He.ga K "Shape") "things")
  f_Shape_things : ∃ (fd : FuncData), FunD K "things" "Shape.things" (defArgs s_Shape_things) (defBody s_Shape_things) (defScope s_Shape_things) [] [] (He.ma K (He.ga K "Shape") "things") fd
  me_Shape___eq__ : Meth K (He.ga K "Shape") "__eq__" (He.ma K (He.ga K "Shape") "__eq__")
  f_Shape___eq__ : ∃ (fd : FuncData), FunD K "__eq__" "Shape.__eq__" (defArgs s_Shape___eq__) (defBody s_Shape___eq__) (defScope s_Shape___eq__) [] [] (He.ma K (He.ga K "Shape") "__eq__") fd
  g_Split : mg "Split" = some (.ref (He.ga K "Split"))
  cl_Split : Cls K (He.ga K "Split")
  na_Split___bool__ : NoAttr K (He.ga K "Split") "__bool__"
  na_Split_shape : NoAttr K (He.ga K "Split") "shape"
  na_Split_machines : NoAttr K (He.ga K "Split") "machines"
  mk_Split : Mk K (He.ga K "Split") (He.ma K (He.ga K "Split") "__init__")
  f_Split___init__ : ∃ (fd : FuncData), FunD K "__init__" "Split.__init__" (defArgs s_Split___init__) (defBody s_Split___init__) (defScope s_Split___init__) [] [] (He.ma K (He.ga K "Split") "__init__") fd
  me_Split___len__ : Meth K (He.ga K "Split") "__len__" (He.ma K (He.ga K "Split") "__len__")
  f_Split___len__ : ∃ (fd : FuncData), FunD K "__len__" "Split.__len__" (defArgs s_Split___len__) (defBody s_Split___len__) (defScope s_Split___len__) [] [] (He.ma K (He.ga K "Split") "__len__") fd
  g_InvalidSetting : mg "InvalidSetting" = some (.ref (He.ga K "InvalidSetting"))
  ox_InvalidSetting : OxK K (He.ga K "InvalidSetting") (He.ma K (He.ga K "InvalidSetting") "__init__") "field"
  f_InvalidSetting___init__ : ∃ (fd : FuncData), FunD K "__init__" "InvalidSetting.__init__" (defArgs s_InvalidSetting___init__) (defBody s_InvalidSetting___init__) (defScope s_InvalidSetting___init__) [] [] (He.ma K (He.ga K "InvalidSetting") "__init__") fd
  g_InvalidThing : mg "InvalidThing" = some (.ref (He.ga K "InvalidThing"))
  ox_InvalidThing : OxK K (He.ga K "InvalidThing") (He.ma K (He.ga K "InvalidThing") "__init__") "machine"
  f_InvalidThing___init__ : ∃ (fd : FuncData), FunD K "__init__" "InvalidThing.__init__" (defArgs s_InvalidThing___init__) (defBody s_InvalidThing___init__) (defScope s_InvalidThing___init__) [] [] (He.ma K (He.ga K "InvalidThing") "__init__") fd
  g_InvalidSplit : mg "InvalidSplit" = some (.ref (He.ga K "InvalidSplit"))
  ox_InvalidSplit : OxK K (He.ga K "InvalidSplit") (He.ma K (He.ga K "InvalidSplit") "__init__") "kind"
  f_InvalidSplit___init__ : ∃ (fd : FuncData), FunD K "__init__" "InvalidSplit.__init__" (defArgs s_InvalidSplit___init__) (defBody s_InvalidSplit___init__) (defScope s_InvalidSplit___init__) [] [] (He.ma K (He.ga K "InvalidSplit") "__init__") fd
  k_LEAST_TOKENS : ∃ u, mg "LEAST_TOKENS" = some u ∧ RelV (.int 2) u
  k_MOST_TOKENS : ∃ u, mg "MOST_TOKENS" = some u ∧ RelV (.int 6) u
  k_MOST_WIDTH : ∃ u, mg "MOST_WIDTH" = some u ∧ RelV (.int 4) u
  k_MOST_LAYERS : ∃ u, mg "MOST_LAYERS" = some u ∧ RelV (.int 3) u
  k_MOST_HEADS : ∃ u, mg "MOST_HEADS" = some u ∧ RelV (.int 2) u
  k_MOST_MACHINES : ∃ u, mg "MOST_MACHINES" = some u ∧ RelV (.int 5) u
  k_THING_ITEMS : ∃ u, mg "THING_ITEMS" = some u ∧ RelV (.int 3) u
  z_ValueError : mg "ValueError" = none
  z_isinstance : mg "isinstance" = none
  z_int : mg "int" = none
  z_bool : mg "bool" = none
  z_range : mg "range" = none
  z_enumerate : mg "enumerate" = none
  z_tuple : mg "tuple" = none
  z_len : mg "len" = none
  z_list : mg "list" = none
  z_repr : mg "repr" = none
  in_Shape : InsK K (He.ga K "Shape")
  ki_o_Shape_o_Shape : PySem.W.kitOne K (.ref (He.ga K "Shape")) (.ref (He.ga K "Shape")) = some true
  nf_Shape_o_Shape : PySem.W.notFirst K (He.ga K "Shape") (.ref (He.ga K "Shape")) = true
  ki_tuple_o_Shape : PySem.W.kitOne K (.type "tuple") (.ref (He.ga K "Shape")) = some false
  ki_list_o_Shape : PySem.W.kitOne K (.type "list") (.ref (He.ga K "Shape")) = some false
  in_Split : InsK K (He.ga K "Split")
  ki_o_Split_o_Split : PySem.W.kitOne K (.ref (He.ga K "Split")) (.ref (He.ga K "Split")) = some true
  nf_Split_o_Split : PySem.W.notFirst K (He.ga K "Split") (.ref (He.ga K "Split")) = true
  ne_Split : NeK K (He.ga K "Split")
  nf_Split_list : PySem.W.notFirst K (He.ga K "Split") (.type "list") = true
  nf_Split_NoneType : PySem.W.notFirst K (He.ga K "Split") (.type "NoneType") = true
  ki_list_o_Split : PySem.W.kitOne K (.type "list") (.ref (He.ga K "Split")) = some false
  ki_NoneType_o_Split : PySem.W.kitOne K (.type "NoneType") (.ref (He.ga K "Split")) = some false
  ki_o_Shape_list : PySem.W.kitOne K (.ref (He.ga K "Shape")) (.type "list") = some false
  ki_o_Shape_tuple : PySem.W.kitOne K (.ref (He.ga K "Shape")) (.type "tuple") = some false
  oxa_InvalidThing_at : OxK K (He.ga K "InvalidThing") (He.ma K (He.ga K "InvalidThing") "__init__") "at"
  oxa_InvalidSplit_layer : OxK K (He.ga K "InvalidSplit") (He.ma K (He.ga K "InvalidSplit") "__init__") "layer"
  oxa_InvalidSplit_number : OxK K (He.ga K "InvalidSplit") (He.ma K (He.ga K "InvalidSplit") "__init__") "number"
  xm_InvalidSetting_InvalidError : PySem.W.exmOne K (.ref (He.ga K "InvalidSetting")) (.ref (He.ga K "InvalidError")) = some true
  ki_o_InvalidSetting_o_InvalidError : PySem.W.kitOne K (.ref (He.ga K "InvalidSetting")) (.ref (He.ga K "InvalidError")) = some true
  ki_o_InvalidSetting_ValueError : PySem.W.kitOne K (.ref (He.ga K "InvalidSetting")) (.type "ValueError") = some true
  ki_o_InvalidSetting_o_UnknownError : PySem.W.kitOne K (.ref (He.ga K "InvalidSetting")) (.ref (He.ga K "UnknownError")) = some false
  ki_o_InvalidSetting_o_StateError : PySem.W.kitOne K (.ref (He.ga K "InvalidSetting")) (.ref (He.ga K "StateError")) = some false
  xm_InvalidSetting_InvalidSetting : PySem.W.exmOne K (.ref (He.ga K "InvalidSetting")) (.ref (He.ga K "InvalidSetting")) = some true
  ki_o_InvalidSetting_o_InvalidSetting : PySem.W.kitOne K (.ref (He.ga K "InvalidSetting")) (.ref (He.ga K "InvalidSetting")) = some true
  ki_o_InvalidSetting_o_InvalidThing : PySem.W.kitOne K (.ref (He.ga K "InvalidSetting")) (.ref (He.ga K "InvalidThing")) = some false
  ki_o_InvalidSetting_o_InvalidSplit : PySem.W.kitOne K (.ref (He.ga K "InvalidSetting")) (.ref (He.ga K "InvalidSplit")) = some false
  xm_InvalidThing_InvalidError : PySem.W.exmOne K (.ref (He.ga K "InvalidThing")) (.ref (He.ga K "InvalidError")) = some true
  ki_o_InvalidThing_o_InvalidError : PySem.W.kitOne K (.ref (He.ga K "InvalidThing")) (.ref (He.ga K "InvalidError")) = some true
  ki_o_InvalidThing_ValueError : PySem.W.kitOne K (.ref (He.ga K "InvalidThing")) (.type "ValueError") = some true
  ki_o_InvalidThing_o_UnknownError : PySem.W.kitOne K (.ref (He.ga K "InvalidThing")) (.ref (He.ga K "UnknownError")) = some false
  ki_o_InvalidThing_o_StateError : PySem.W.kitOne K (.ref (He.ga K "InvalidThing")) (.ref (He.ga K "StateError")) = some false
  xm_InvalidThing_InvalidSetting : PySem.W.exmOne K (.ref (He.ga K "InvalidThing")) (.ref (He.ga K "InvalidSetting")) = some false
  ki_o_InvalidThing_o_InvalidSetting : PySem.W.kitOne K (.ref (He.ga K "InvalidThing")) (.ref (He.ga K "InvalidSetting")) = some false
  xm_InvalidThing_InvalidThing : PySem.W.exmOne K (.ref (He.ga K "InvalidThing")) (.ref (He.ga K "InvalidThing")) = some true
  ki_o_InvalidThing_o_InvalidThing : PySem.W.kitOne K (.ref (He.ga K "InvalidThing")) (.ref (He.ga K "InvalidThing")) = some true
  ki_o_InvalidThing_o_InvalidSplit : PySem.W.kitOne K (.ref (He.ga K "InvalidThing")) (.ref (He.ga K "InvalidSplit")) = some false
  xm_InvalidSplit_InvalidError : PySem.W.exmOne K (.ref (He.ga K "InvalidSplit")) (.ref (He.ga K "InvalidError")) = some true
  ki_o_InvalidSplit_o_InvalidError : PySem.W.kitOne K (.ref (He.ga K "InvalidSplit")) (.ref (He.ga K "InvalidError")) = some true
  ki_o_InvalidSplit_ValueError : PySem.W.kitOne K (.ref (He.ga K "InvalidSplit")) (.type "ValueError") = some true
  ki_o_InvalidSplit_o_UnknownError : PySem.W.kitOne K (.ref (He.ga K "InvalidSplit")) (.ref (He.ga K "UnknownError")) = some false
  ki_o_InvalidSplit_o_StateError : PySem.W.kitOne K (.ref (He.ga K "InvalidSplit")) (.ref (He.ga K "StateError")) = some false
  xm_InvalidSplit_InvalidSetting : PySem.W.exmOne K (.ref (He.ga K "InvalidSplit")) (.ref (He.ga K "InvalidSetting")) = some false
  ki_o_InvalidSplit_o_InvalidSetting : PySem.W.kitOne K (.ref (He.ga K "InvalidSplit")) (.ref (He.ga K "InvalidSetting")) = some false
  xm_InvalidSplit_InvalidThing : PySem.W.exmOne K (.ref (He.ga K "InvalidSplit")) (.ref (He.ga K "InvalidThing")) = some false
  ki_o_InvalidSplit_o_InvalidThing : PySem.W.kitOne K (.ref (He.ga K "InvalidSplit")) (.ref (He.ga K "InvalidThing")) = some false
  xm_InvalidSplit_InvalidSplit : PySem.W.exmOne K (.ref (He.ga K "InvalidSplit")) (.ref (He.ga K "InvalidSplit")) = some true
  ki_o_InvalidSplit_o_InvalidSplit : PySem.W.kitOne K (.ref (He.ga K "InvalidSplit")) (.ref (He.ga K "InvalidSplit")) = some true
  g_InvalidError : mg "InvalidError" = some (.ref (He.ga K "InvalidError"))
  g_UnknownError : mg "UnknownError" = some (.ref (He.ga K "UnknownError"))
  g_StateError : mg "StateError" = some (.ref (He.ga K "StateError"))
end Q

set_option Elab.async false
set_option linter.all false
set_option maxRecDepth 100000
set_option maxHeartbeats 4000000
namespace Q
open PySem PySem.Spec L2
def d__wall : He.DefD := ⟨("_wall", none), "_wall", "_wall", defArgs s__wall, defBody s__wall, defScope s__wall, [], []⟩
def d_is_number : He.DefD := ⟨("is_number", none), "is_number", "is_number", defArgs s_is_number, defBody s_is_number, defScope s_is_number, [], []⟩
def d_is_thing : He.DefD := ⟨("is_thing", none), "is_thing", "is_thing", defArgs s_is_thing, defBody s_is_thing, defScope s_is_thing, [], []⟩
def d_wrong_thing : He.DefD := ⟨("wrong_thing", none), "wrong_thing", "wrong_thing", defArgs s_wrong_thing, defBody s_wrong_thing, defScope s_wrong_thing, [], []⟩
def d__wrong_item : He.DefD := ⟨("_wrong_item", none), "_wrong_item", "_wrong_item", defArgs s__wrong_item, defBody s__wrong_item, defScope s__wrong_item, [], []⟩
def d__things_of : He.DefD := ⟨("_things_of", none), "_things_of", "_things_of", defArgs s__things_of, defBody s__things_of, defScope s__things_of, [], []⟩
def d__law_start : He.DefD := ⟨("_law_start", none), "_law_start", "_law_start", defArgs s__law_start, defBody s__law_start, defScope s__law_start, [], []⟩
def d__law_draw : He.DefD := ⟨("_law_draw", none), "_law_draw", "_law_draw", defArgs s__law_draw, defBody s__law_draw, defScope s__law_draw, [], []⟩
def d__law_pick : He.DefD := ⟨("_law_pick", none), "_law_pick", "_law_pick", defArgs s__law_pick, defBody s__law_pick, defScope s__law_pick, [], []⟩
def d__law_like : He.DefD := ⟨("_law_like", none), "_law_like", "_law_like", defArgs s__law_like, defBody s__law_like, defScope s__law_like, [], []⟩
def d__law_things : He.DefD := ⟨("_law_things", none), "_law_things", "_law_things", defArgs s__law_things, defBody s__law_things, defScope s__law_things, [], []⟩
def d__law_dealt : He.DefD := ⟨("_law_dealt", none), "_law_dealt", "_law_dealt", defArgs s__law_dealt, defBody s__law_dealt, defScope s__law_dealt, [], []⟩
def d__law_split : He.DefD := ⟨("_law_split", none), "_law_split", "_law_split", defArgs s__law_split, defBody s__law_split, defScope s__law_split, [], []⟩
def d__law_copies : He.DefD := ⟨("_law_copies", none), "_law_copies", "_law_copies", defArgs s__law_copies, defBody s__law_copies, defScope s__law_copies, [], []⟩
def d__law_figure : He.DefD := ⟨("_law_figure", none), "_law_figure", "_law_figure", defArgs s__law_figure, defBody s__law_figure, defScope s__law_figure, [], []⟩
def d__law_stranger : He.DefD := ⟨("_law_stranger", none), "_law_stranger", "_law_stranger", defArgs s__law_stranger, defBody s__law_stranger, defScope s__law_stranger, [], []⟩
def d__law_spoilt : He.DefD := ⟨("_law_spoilt", none), "_law_spoilt", "_law_spoilt", defArgs s__law_spoilt, defBody s__law_spoilt, defScope s__law_spoilt, [], []⟩
def d__law_fault : He.DefD := ⟨("_law_fault", none), "_law_fault", "_law_fault", defArgs s__law_fault, defBody s__law_fault, defScope s__law_fault, [], []⟩
def d__law_plain_error : He.DefD := ⟨("_law_plain_error", none), "_law_plain_error", "_law_plain_error", defArgs s__law_plain_error, defBody s__law_plain_error, defScope s__law_plain_error, [], []⟩
def d__law_told : He.DefD := ⟨("_law_told", none), "_law_told", "_law_told", defArgs s__law_told, defBody s__law_told, defScope s__law_told, [], []⟩
def d__law_caught : He.DefD := ⟨("_law_caught", none), "_law_caught", "_law_caught", defArgs s__law_caught, defBody s__law_caught, defScope s__law_caught, [], []⟩
def d_law : He.DefD := ⟨("law", none), "law", "law", defArgs s_law, defBody s_law, defScope s_law, [], []⟩
def d_Shape___init__ : He.DefD := ⟨("Shape", some "__init__"), "__init__", "Shape.__init__", defArgs s_Shape___init__, defBody s_Shape___init__, defScope s_Shape___init__, [], []⟩
def d_Shape_things : He.DefD := ⟨("Shape", some "things"), "things", "Shape.things", defArgs s_Shape_things, defBody s_Shape_things, defScope s_Shape_things, [], []⟩
def d_Shape___eq__ : He.DefD := ⟨("Shape", some "__eq__"), "__eq__", "Shape.__eq__", defArgs s_Shape___eq__, defBody s_Shape___eq__, defScope s_Shape___eq__, [], []⟩
def d_Shape___repr__ : He.DefD := ⟨("Shape", some "__repr__"), "__repr__", "Shape.__repr__", defArgs s_Shape___repr__, defBody s_Shape___repr__, defScope s_Shape___repr__, [], []⟩
def d_Split___init__ : He.DefD := ⟨("Split", some "__init__"), "__init__", "Split.__init__", defArgs s_Split___init__, defBody s_Split___init__, defScope s_Split___init__, [], []⟩
def d_Split_machine_of : He.DefD := ⟨("Split", some "machine_of"), "machine_of", "Split.machine_of", defArgs s_Split_machine_of, defBody s_Split_machine_of, defScope s_Split_machine_of, [], []⟩
def d_Split___eq__ : He.DefD := ⟨("Split", some "__eq__"), "__eq__", "Split.__eq__", defArgs s_Split___eq__, defBody s_Split___eq__, defScope s_Split___eq__, [], []⟩
def d_Split___len__ : He.DefD := ⟨("Split", some "__len__"), "__len__", "Split.__len__", defArgs s_Split___len__, defBody s_Split___len__, defScope s_Split___len__, [], []⟩
def d_Split___repr__ : He.DefD := ⟨("Split", some "__repr__"), "__repr__", "Split.__repr__", defArgs s_Split___repr__, defBody s_Split___repr__, defScope s_Split___repr__, [], []⟩
def d_InvalidSetting___init__ : He.DefD := ⟨("InvalidSetting", some "__init__"), "__init__", "InvalidSetting.__init__", defArgs s_InvalidSetting___init__, defBody s_InvalidSetting___init__, defScope s_InvalidSetting___init__, [], []⟩
def d_InvalidThing___init__ : He.DefD := ⟨("InvalidThing", some "__init__"), "__init__", "InvalidThing.__init__", defArgs s_InvalidThing___init__, defBody s_InvalidThing___init__, defScope s_InvalidThing___init__, [], []⟩
def d_InvalidSplit___init__ : He.DefD := ⟨("InvalidSplit", some "__init__"), "__init__", "InvalidSplit.__init__", defArgs s_InvalidSplit___init__, defBody s_InvalidSplit___init__, defScope s_InvalidSplit___init__, [], []⟩
def fnL : List He.DefD := [d_is_number, d_is_thing, d_wrong_thing, d__wrong_item, d__things_of, d__law_start, d__law_draw, d__law_pick, d__law_like, d__law_things, d__law_dealt, d__law_split, d__law_copies, d__law_figure, d__law_stranger, d__law_spoilt, d__law_fault, d__law_plain_error, d__law_told, d__law_caught, d_law, d_Shape___init__, d_Shape_things, d_Shape___eq__, d_Split___init__, d_Split___len__, d_InvalidSetting___init__, d_InvalidThing___init__, d_InvalidSplit___init__]
def tsL : List (PySem.W.Frag → Bool) := [fun K => insB K "Shape", fun K => decide (PySem.W.kitOne K (.ref (He.ga K "Shape")) (.ref (He.ga K "Shape")) = some true), fun K => PySem.W.notFirst K (He.ga K "Shape") (.ref (He.ga K "Shape")), fun K => decide (PySem.W.kitOne K (.type "tuple") (.ref (He.ga K "Shape")) = some false), fun K => decide (PySem.W.kitOne K (.type "list") (.ref (He.ga K "Shape")) = some false), fun K => insB K "Split", fun K => decide (PySem.W.kitOne K (.ref (He.ga K "Split")) (.ref (He.ga K "Split")) = some true), fun K => PySem.W.notFirst K (He.ga K "Split") (.ref (He.ga K "Split")), fun K => neB K "Split", fun K => PySem.W.notFirst K (He.ga K "Split") (.type "list"), fun K => PySem.W.notFirst K (He.ga K "Split") (.type "NoneType"), fun K => decide (PySem.W.kitOne K (.type "list") (.ref (He.ga K "Split")) = some false), fun K => decide (PySem.W.kitOne K (.type "NoneType") (.ref (He.ga K "Split")) = some false), fun K => decide (PySem.W.kitOne K (.ref (He.ga K "Shape")) (.type "list") = some false), fun K => decide (PySem.W.kitOne K (.ref (He.ga K "Shape")) (.type "tuple") = some false), fun K => oxB K (He.ga K "InvalidThing") (He.ma K (He.ga K "InvalidThing") "__init__") "at", fun K => oxB K (He.ga K "InvalidSplit") (He.ma K (He.ga K "InvalidSplit") "__init__") "layer", fun K => oxB K (He.ga K "InvalidSplit") (He.ma K (He.ga K "InvalidSplit") "__init__") "number", fun K => decide (PySem.W.exmOne K (.ref (He.ga K "InvalidSetting")) (.ref (He.ga K "InvalidError")) = some true), fun K => decide (PySem.W.kitOne K (.ref (He.ga K "InvalidSetting")) (.ref (He.ga K "InvalidError")) = some true), fun K => decide (PySem.W.kitOne K (.ref (He.ga K "InvalidSetting")) (.type "ValueError") = some true), fun K => decide (PySem.W.kitOne K (.ref (He.ga K "InvalidSetting")) (.ref (He.ga K "UnknownError")) = some false), fun K => decide (PySem.W.kitOne K (.ref (He.ga K "InvalidSetting")) (.ref (He.ga K "StateError")) = some false), fun K => decide (PySem.W.exmOne K (.ref (He.ga K "InvalidSetting")) (.ref (He.ga K "InvalidSetting")) = some true), fun K => decide (PySem.W.kitOne K (.ref (He.ga K "InvalidSetting")) (.ref (He.ga K "InvalidSetting")) = some true), fun K => decide (PySem.W.exmOne K (.ref (He.ga K "InvalidSetting")) (.ref (He.ga K "InvalidThing")) = some false), fun K => decide (PySem.W.kitOne K (.ref (He.ga K "InvalidSetting")) (.ref (He.ga K "InvalidThing")) = some false), fun K => decide (PySem.W.exmOne K (.ref (He.ga K "InvalidSetting")) (.ref (He.ga K "InvalidSplit")) = some false), fun K => decide (PySem.W.kitOne K (.ref (He.ga K "InvalidSetting")) (.ref (He.ga K "InvalidSplit")) = some false), fun K => decide (PySem.W.exmOne K (.ref (He.ga K "InvalidThing")) (.ref (He.ga K "InvalidError")) = some true), fun K => decide (PySem.W.kitOne K (.ref (He.ga K "InvalidThing")) (.ref (He.ga K "InvalidError")) = some true), fun K => decide (PySem.W.kitOne K (.ref (He.ga K "InvalidThing")) (.type "ValueError") = some true), fun K => decide (PySem.W.kitOne K (.ref (He.ga K "InvalidThing")) (.ref (He.ga K "UnknownError")) = some false), fun K => decide (PySem.W.kitOne K (.ref (He.ga K "InvalidThing")) (.ref (He.ga K "StateError")) = some false), fun K => decide (PySem.W.exmOne K (.ref (He.ga K "InvalidThing")) (.ref (He.ga K "InvalidSetting")) = some false), fun K => decide (PySem.W.kitOne K (.ref (He.ga K "InvalidThing")) (.ref (He.ga K "InvalidSetting")) = some false), fun K => decide (PySem.W.exmOne K (.ref (He.ga K "InvalidThing")) (.ref (He.ga K "InvalidThing")) = some true), fun K => decide (PySem.W.kitOne K (.ref (He.ga K "InvalidThing")) (.ref (He.ga K "InvalidThing")) = some true), fun K => decide (PySem.W.exmOne K (.ref (He.ga K "InvalidThing")) (.ref (He.ga K "InvalidSplit")) = some false), fun K => decide (PySem.W.kitOne K (.ref (He.ga K "InvalidThing")) (.ref (He.ga K "InvalidSplit")) = some false), fun K => decide (PySem.W.exmOne K (.ref (He.ga K "InvalidSplit")) (.ref (He.ga K "InvalidError")) = some true), fun K => decide (PySem.W.kitOne K (.ref (He.ga K "InvalidSplit")) (.ref (He.ga K "InvalidError")) = some true), fun K => decide (PySem.W.kitOne K (.ref (He.ga K "InvalidSplit")) (.type "ValueError") = some true), fun K => decide (PySem.W.kitOne K (.ref (He.ga K "InvalidSplit")) (.ref (He.ga K "UnknownError")) = some false), fun K => decide (PySem.W.kitOne K (.ref (He.ga K "InvalidSplit")) (.ref (He.ga K "StateError")) = some false), fun K => decide (PySem.W.exmOne K (.ref (He.ga K "InvalidSplit")) (.ref (He.ga K "InvalidSetting")) = some false), fun K => decide (PySem.W.kitOne K (.ref (He.ga K "InvalidSplit")) (.ref (He.ga K "InvalidSetting")) = some false), fun K => decide (PySem.W.exmOne K (.ref (He.ga K "InvalidSplit")) (.ref (He.ga K "InvalidThing")) = some false), fun K => decide (PySem.W.kitOne K (.ref (He.ga K "InvalidSplit")) (.ref (He.ga K "InvalidThing")) = some false), fun K => decide (PySem.W.exmOne K (.ref (He.ga K "InvalidSplit")) (.ref (He.ga K "InvalidSplit")) = some true), fun K => decide (PySem.W.kitOne K (.ref (He.ga K "InvalidSplit")) (.ref (He.ga K "InvalidSplit")) = some true), fun K => He.Fa.ok K (.glo "InvalidError"), fun K => He.Fa.ok K (.glo "UnknownError"), fun K => He.Fa.ok K (.glo "StateError"), fun K => oxB K (He.ga K "InvalidSetting") (He.ma K (He.ga K "InvalidSetting") "__init__") "field", fun K => oxB K (He.ga K "InvalidThing") (He.ma K (He.ga K "InvalidThing") "__init__") "machine", fun K => oxB K (He.ga K "InvalidSplit") (He.ma K (He.ga K "InvalidSplit") "__init__") "kind"]
def prL : List PrpD := []
def faL : List He.Fa := [.glo "is_number", .glo "is_thing", .glo "wrong_thing", .glo "_wrong_item", .glo "_things_of", .glo "_law_start", .glo "_law_draw", .glo "_law_pick", .glo "_law_like", .glo "_law_things", .glo "_law_dealt", .glo "_law_split", .glo "_law_copies", .glo "_law_figure", .glo "_law_stranger", .glo "_law_spoilt", .glo "_law_fault", .glo "_law_plain_error", .glo "_law_told", .glo "_law_caught", .glo "law", .free "ValueError", .free "isinstance", .free "int", .free "bool", .free "range", .free "enumerate", .free "tuple", .free "len", .free "list", .free "repr", .glo "Shape", .cls "Shape", .noat "Shape" "tokens", .noat "Shape" "width", .noat "Shape" "layers", .noat "Shape" "heads", .mkr "Shape", .meth "Shape" "things", .meth "Shape" "__eq__", .glo "Split", .cls "Split", .noat "Split" "__bool__", .noat "Split" "shape", .noat "Split" "machines", .mkr "Split", .meth "Split" "__len__", .glo "InvalidSetting", .glo "InvalidThing", .glo "InvalidSplit", .int "LEAST_TOKENS" 2, .int "MOST_TOKENS" 6, .int "MOST_WIDTH" 4, .int "MOST_LAYERS" 3, .int "MOST_HEADS" 2, .int "MOST_MACHINES" 5, .int "THING_ITEMS" 3]
abbrev rowR : PySem.W.OpenRow := PySem.W.OpenLaw.row PySem.Challenge.rw_answersalone_k55_splits_refused
abbrev hkR : PySem.W.Hook := hookX 4 faL fnL prL tsL
def obR (s : PySem.W.SharedT) : AlX := obsXG 4 faL fnL prL tsL (HandSHeadRun.getT s)
theorem obR_eq (s : PySem.W.SharedT) : obR s = hkR.obs s.abs := obsXG_eq (HandSHeadRun.getT_eq s)
abbrev looseR : List PySem.Str := [(PySem.Str.ofString "LEAST_TOKENS"), (PySem.Str.ofString "MOST_TOKENS"), (PySem.Str.ofString "MOST_WIDTH"), (PySem.Str.ofString "MOST_LAYERS"), (PySem.Str.ofString "MOST_HEADS"), (PySem.Str.ofString "MOST_MACHINES"), (PySem.Str.ofString "THING_ITEMS"), (PySem.Str.ofString "_wall"), (PySem.Str.ofString "InvalidError"), (PySem.Str.ofString "UnknownError"), (PySem.Str.ofString "StateError"), (PySem.Str.ofString "InvalidSetting"), (PySem.Str.ofString "InvalidThing"), (PySem.Str.ofString "InvalidSplit"), (PySem.Str.ofString "is_number"), (PySem.Str.ofString "Shape"), (PySem.Str.ofString "Split"), (PySem.Str.ofString "is_thing"), (PySem.Str.ofString "wrong_thing"), (PySem.Str.ofString "_wrong_item"), (PySem.Str.ofString "_things_of"), (PySem.Str.ofString "_law_start"), (PySem.Str.ofString "_law_draw"), (PySem.Str.ofString "_law_pick"), (PySem.Str.ofString "_law_like"), (PySem.Str.ofString "_law_things"), (PySem.Str.ofString "_law_dealt"), (PySem.Str.ofString "_law_split"), (PySem.Str.ofString "_law_copies"), (PySem.Str.ofString "_law_figure"), (PySem.Str.ofString "_law_stranger"), (PySem.Str.ofString "_law_spoilt"), (PySem.Str.ofString "_law_fault"), (PySem.Str.ofString "_law_plain_error"), (PySem.Str.ofString "_law_told"), (PySem.Str.ofString "_law_caught")]
theorem runR (w : World) : HandSHeadRun.RunEq rowR (PySem.W.view rowR.prog [41]) hkR obR 6000 looseR w := by
  intro os
  kernel_rfl
end Q

set_option Elab.async false
set_option linter.all false
set_option maxRecDepth 100000
set_option maxHeartbeats 4000000
namespace Q
open PySem PySem.Spec L2
local macro_rules | `(tactic| walk_at "n") => `(tactic| first
  | with_reducible assumption
  | exact Ne.symm (by with_reducible assumption)
  | ((refine' ne_of_none ?k1 (by with_reducible assumption)); (case k1 => walk_at "h"))
  | ((refine' Ne.symm (ne_of_none ?k1 (by with_reducible assumption))); (case k1 => walk_at "h")))
local macro_rules | `(tactic| walk_at "h") => `(tactic| first
  | with_reducible assumption
  | with_reducible exact upd_same
  | ((with_reducible refine' h_ne ?k1 ?k2); (case k1 => walk_at "n"); (case k2 => walk_at "h"))
  | ((with_reducible refine' h_sm (by with_reducible assumption) ?k1); (case k1 => walk_at "h"))
  | ((with_reducible refine' h_chg (by with_reducible assumption) ?k1 ?k2); (case k1 => walk_at "n"); (case k2 => walk_at "h")))
local macro_rules | `(tactic| walk_at "l") => `(tactic| first
  | with_reducible assumption
  | ((with_reducible refine' SqL.of ?k1); (case k1 => walk_at "h"))
  | ((with_reducible refine' sqL_new (by with_reducible assumption) ?k1); (case k1 => walk_at "l"))
  | ((with_reducible refine' sqL_sm (by with_reducible assumption) ?k1); (case k1 => walk_at "l")))
local macro_rules | `(tactic| walk_at "t") => `(tactic| first
  | with_reducible assumption
  | ((with_reducible refine' SqT.of ?k1); (case k1 => walk_at "h"))
  | ((with_reducible refine' sqT_new (by with_reducible assumption) ?k1); (case k1 => walk_at "t"))
  | ((with_reducible refine' seqT_same (by with_reducible assumption) ?k1); (case k1 => walk_at "t")))
local macro_rules | `(tactic| walk_at "lt") => `(tactic| first
  | with_reducible assumption
  | ((refine' Or.inl ?k1); (case k1 => walk_at "l"))
  | ((refine' Or.inr ?k1); (case k1 => walk_at "t")))
local macro_rules | `(tactic| walk_at "c") => `(tactic| first
  | exact trivial
  | with_reducible assumption
  | exact wide_div (b := 100) (by decide) (by decide) (by decide) (by decide)
  | decide
  | omega
  | (refine' Or.inr ⟨?_, ?_⟩ <;> first | decide | omega)
  | (refine' Or.inl ⟨?_, ?_⟩ <;> first | decide | omega)
  | (refine' And.intro ?_ (And.intro ?_ ?_) <;> first | decide | omega)
  | (refine' And.intro ?_ ?_ <;> first | decide | omega))
local macro_rules | `(tactic| walk_at "ty") => `(tactic| first
  | exact .base (.int _)
  | exact .base (.str _)
  | exact .base (.bl _)
  | exact .base .non
  | ((with_reducible refine' tyL ?k1); (case k1 => walk_at "l"))
  | ((with_reducible refine' tyT ?k1); (case k1 => walk_at "t")))
local macro_rules | `(tactic| walk_at "kb") => `(tactic| exact KbC.h)
local macro_rules | `(tactic| walk_at "s") => `(tactic| first
  | ((with_reducible refine' g_rI ?_ ?_); (· walk_at "c"))
  | ((with_reducible refine' g_ixL0 ?k1 ?_); (case k1 => walk_at "l"))
  | ((with_reducible refine' g_setL0 ?k1 ?_); (case k1 => walk_at "h"))
  | ((with_reducible refine' g_ixL1 ?k1 ?_); (case k1 => walk_at "l"))
  | ((with_reducible refine' g_setL1 ?k1 ?_); (case k1 => walk_at "h"))
  | ((with_reducible refine' g_ixL2 ?k1 ?_); (case k1 => walk_at "l"))
  | ((with_reducible refine' g_setL2 ?k1 ?_); (case k1 => walk_at "h"))
  | ((with_reducible refine' g_ixL3 ?k1 ?_); (case k1 => walk_at "l"))
  | ((with_reducible refine' g_setL3 ?k1 ?_); (case k1 => walk_at "h"))
  | ((with_reducible refine' g_ixL4 ?k1 ?_); (case k1 => walk_at "l"))
  | ((with_reducible refine' g_setL4 ?k1 ?_); (case k1 => walk_at "h"))
  | ((with_reducible refine' g_ixL5 ?k1 ?_); (case k1 => walk_at "l"))
  | ((with_reducible refine' g_setL5 ?k1 ?_); (case k1 => walk_at "h"))
  | ((with_reducible refine' g_ixL6 ?k1 ?_); (case k1 => walk_at "l"))
  | ((with_reducible refine' g_setL6 ?k1 ?_); (case k1 => walk_at "h"))
  | ((with_reducible refine' g_ixL7 ?k1 ?_); (case k1 => walk_at "l"))
  | ((with_reducible refine' g_setL7 ?k1 ?_); (case k1 => walk_at "h"))
  | ((with_reducible refine' g_ixL8 ?k1 ?_); (case k1 => walk_at "l"))
  | ((with_reducible refine' g_setL8 ?k1 ?_); (case k1 => walk_at "h"))
  | ((with_reducible refine' g_ixL9 ?k1 ?_); (case k1 => walk_at "l"))
  | ((with_reducible refine' g_setL9 ?k1 ?_); (case k1 => walk_at "h"))
  | ((with_reducible refine' g_ixL ?k1 ?k2 ?_); (case k1 => walk_at "l"); (case k2 => walk_at "a"))
  | ((with_reducible refine' g_setL ?k1 ?k2 ?_); (case k1 => walk_at "h"); (case k2 => rfl))
  | ((with_reducible refine' g_len ?k1 ?_); (case k1 => walk_at "lt"))
  | ((with_reducible refine' g_newL ?k1 ?_); (case k1 => (simp only [List.length_cons, List.length_nil, Nat.reduceAdd, Nat.reduceLeDiff])); intro p hp)
  | ((with_reducible refine' g_newT ?k1 ?_); (case k1 => (simp only [List.length_cons, List.length_nil, Nat.reduceAdd, Nat.reduceLeDiff])); intro p hp)
  | ((with_reducible refine' g_slL ?k1 ?_); (case k1 => walk_at "l"); intro p hp)
  | ((with_reducible refine' g_inI ?k1 ?_); (case k1 => walk_at "lt"))
  | ((with_reducible refine' g_notinI ?k1 ?_); (case k1 => walk_at "lt"))
  | ((with_reducible refine' g_cat ?k1 ?k2 ?k3 ?_); (case k1 => walk_at "h"); (case k2 => walk_at "h"); (case k3 => walk_at "len"); intro p hp)
  | ((with_reducible refine' g_list ?k1 ?_); (case k1 => walk_at "lt"); intro p hp)
  | ((with_reducible refine' g_tuple ?k1 ?_); (case k1 => walk_at "l"); intro p hp)
  | ((with_reducible refine' g_sum ?k1 ?_); (case k1 => walk_at "l"))
  | ((with_reducible refine' g_any ?k1 ?_); (case k1 => walk_at "l"))
  | ((with_reducible refine' g_all ?k1 ?_); (case k1 => walk_at "l"))
  | ((with_reducible refine' g_en1 ?k1 ?_); (case k1 => walk_at "l"))
  | ((with_reducible refine' g_gTup ?k1 ?k2 ?_); (case k1 => walk_at "t"); (case k2 => rfl))
  | ((with_reducible refine' g_qix0 ?k1 ?_); (case k1 => walk_at "lt"))
  | ((with_reducible refine' g_qix1 ?k1 ?_); (case k1 => walk_at "lt"))
  | ((with_reducible refine' g_qix2 ?k1 ?_); (case k1 => walk_at "lt"))
  | ((with_reducible refine' g_qix3 ?k1 ?_); (case k1 => walk_at "lt"))
  | ((with_reducible refine' g_qix4 ?k1 ?_); (case k1 => walk_at "lt"))
  | ((with_reducible refine' g_qix5 ?k1 ?_); (case k1 => walk_at "lt"))
  | ((with_reducible refine' g_qix6 ?k1 ?_); (case k1 => walk_at "lt"))
  | ((with_reducible refine' g_qix7 ?k1 ?_); (case k1 => walk_at "lt"))
  | ((with_reducible refine' g_qix8 ?k1 ?_); (case k1 => walk_at "lt"))
  | ((with_reducible refine' g_qix9 ?k1 ?_); (case k1 => walk_at "lt"))
  | ((with_reducible refine' g_qix ?k1 ?k2 ?_); (case k1 => walk_at "lt"); (case k2 => walk_at "a"))
  | ((with_reducible refine' g_turnB ?k1 ?_); (case k1 => rfl))
  | ((with_reducible refine' g_kArg ?k1 ?k2 ?k3 ?_); (case k1 => rfl); (case k2 => rfl); (case k3 => rfl))
  | ((with_reducible refine' g_bmL ?k1 ?_); (case k1 => walk_at "l"))
  | ((with_reducible refine' g_neDI ?k1 ?k2 ?_); (case k1 => walk_at "l"); (case k2 => walk_at "l"))
  | ((with_reducible refine' g_eqDI ?k1 ?k2 ?_); (case k1 => walk_at "l"); (case k2 => walk_at "l"))
  | ((with_reducible refine' g_rgNew ?_ ?_); (· (first | omega | (refine' And.intro ?_ (And.intro ?_ (And.intro ?_ ?_)) <;> omega))); intro p hp)
  | ((with_reducible refine' g_rng1 ?_ ?_); (· walk_at "c"))
  | ((with_reducible refine' g_rng2 ?_ ?_); (· walk_at "c"))
  | ((with_reducible refine' g_lstR ?k1 ?_); (case k1 => walk_at "l"))
  | ((with_reducible refine' g_tupR ?k1 ?_); (case k1 => walk_at "t"))
  | ((with_reducible refine' g_isi ?k1 ?k2 ?_); (case k1 => walk_at "ty"); (case k2 => walk_at "kb"))
  | ((with_reducible refine' g_isiT2 ?k1 ?k2 ?k3 ?k4 ?_); (case k1 => walk_at "h"); (case k2 => walk_at "ty"); (case k3 => walk_at "kb"); (case k4 => walk_at "kb"))
  | with_reducible refine' iteT ?_
  | with_reducible refine' iteF ?_
  | ((with_reducible refine' g_iteCT ?k1 ?_); (case k1 => decide))
  | ((with_reducible refine' g_iteCF ?k1 ?_); (case k1 => decide)))
local macro_rules | `(tactic| walk_at "s") => `(tactic| first
  | ((with_reducible refine' g_fldR ?k1 ?k2 ?k3 ?k4 ?_); (case k1 => walk_at "h"); (case k2 => (with_reducible assumption)); (case k3 => (with_reducible assumption)); (case k4 => rfl))
  | ((with_reducible refine' g_methR ?k1 ?k2 ?_); (case k1 => walk_at "h"); (case k2 => rfl))
  | ((with_reducible refine' g_sfldR ?k1 ?k2 ?k3 ?k4 ?_); (case k1 => walk_at "h"); (case k2 => (with_reducible assumption)); (case k3 => (with_reducible assumption)); (case k4 => first | decide | exact (by decide : 1 < 1000) | exact (by decide : 2 < 1000) | exact (by decide : 3 < 1000) | exact (by decide : 4 < 1000) | exact (by decide : 5 < 1000) | exact (by decide : 6 < 1000) | exact (by decide : 7 < 1000) | exact (by decide : 8 < 1000) | exact (by decide : 9 < 1000) | exact (by decide : 10 < 1000) | exact (by decide : 11 < 1000) | exact (by decide : 12 < 1000) | exact (by decide : 13 < 1000) | exact (by decide : 14 < 1000) | exact (by decide : 15 < 1000) | exact (by decide : 16 < 1000) | exact (by decide : 17 < 1000) | exact (by decide : 18 < 1000) | exact (by decide : 19 < 1000) | exact (by decide : 20 < 1000))))
local macro_rules | `(tactic| walk_at "a") => `(tactic| first
  | rfl
  | (with_reducible assumption))
local macro_rules | `(tactic| walk_at "go") => `(tactic| repeat (first | with_reducible refine' Step.imp ?_ | walk_at "s"))
local macro_rules | `(tactic| walk_at "chg") => `(tactic| first
  | with_reducible assumption
  | with_reducible exact Chg.refl
  | ((with_reducible refine' Chg.put ?_); walk_at "chg")
  | ((with_reducible refine' Chg.lay ?_ (by with_reducible assumption)); walk_at "chg")
  | ((with_reducible refine' Chg.putn ?_ (by with_reducible assumption)); walk_at "chg")
  | ((with_reducible refine' Chg.trans ?_ (sm_chg (by with_reducible assumption))); walk_at "chg")
  | ((with_reducible refine' Chg.trans ?_ (by with_reducible assumption)); walk_at "chg"))
local macro_rules | `(tactic| walk_at "len") => `(tactic| (first
  | omega
  | ((try simp only [List.length_map, List.length_cons, List.length_nil, List.length_append, List.length_range]); omega)))

section
variable {P : Program} {w : World} {K : PySem.W.Frag} {mg : Str → Option Value} {base : Heap}
abbrev FnP (K : PySem.W.Frag) (x : Str) (st : Stmt) (f : Addr) (fd : FuncData) : Prop := FunD K x x (defArgs st) (defBody st) (defScope st) [] [] f fd
def spIsN (K : PySem.W.Frag) : Sp := fun vs H Q _ => ∃ (x : V) (d : PyData) (l m : Int), vs = [x, .int l, .int m] ∧ Dp K H x d ∧ Q (.bl (isNum x l m)) H
theorem num_dp {x : V} {H : Hp} (h : NumN x) : ∃ d, Dp K H x d := by
  rcases h with ⟨i, rfl⟩ | rfl
  · exact ⟨_, .int i⟩
  · exact ⟨_, .non⟩
theorem g_isNum {x : V} {l m : Int} {H : Hp} {Q : VK} {E : XK} (h : NumN x) (q : Q (.bl (isNum x l m)) H) : spIsN K [x, .int l, .int m] H Q E := by
  obtain ⟨d, hd⟩ := num_dp (K := K) (H := H) h
  exact ⟨x, d, l, m, rfl, hd, q⟩
theorem g_isNumD {x : V} {d : PyData} {l m : Int} {H : Hp} {Q : VK} {E : XK} (h : Dp K H x d) (q : Q (.bl (isNum x l m)) H) : spIsN K [x, .int l, .int m] H Q E := ⟨x, d, l, m, rfl, h, q⟩
theorem ok_is_number (T : Top K mg) {f : Addr} {fd : FuncData} (F : FnP K "is_number" s_is_number f fd) : FnOk P w K mg base CX0 1 f fd P_is_number (spIsN K) := by
  refine F.ok sc_is_number (fun vs H Q E h => ?_) (fun cdv A outer s H vs Q E hr h => ?_)
  · obtain ⟨x, d, l, m, rfl, _⟩ := h
    rfl
  · obtain ⟨x, d, l, m, rfl, hx, q⟩ := h
    refine ⟨_, PSs.nox (pss_one (ps_ret (pe_and (pe_callB (k_isi (K := K) (by rfl)) (by rfl) T.z_isinstance (by decide +kernel) (pa_cons (pv 0) (pa_cons (pe_bltn (v := .ty "int") (u := .type "int") (by rfl) T.z_int (by decide +kernel) rfl) pa_nil))) (pe_and (pe_not (pe_callB (k_isi (K := K) (by rfl)) (by rfl) T.z_isinstance (by decide +kernel) (pa_cons (pv 0) (pa_cons (pe_bltn (v := .ty "bool") (u := .type "bool") (by rfl) T.z_bool (by decide +kernel) rfl) pa_nil)))) (pe_one (pe_chain op_le op_le (pv 1) (pv 0) (pv 2))))))), ?_⟩
    rw [show L2.start N_is_number [x, .int l, .int m] = [some x, some (.int l), some (.int m)] from rfl]
    cases hx with
    | int i =>
      walk_at "go"
      have e : isNum (.int i) l m = (decide (l ≤ i) && decide (i ≤ m)) := rfl
      rw [e] at q
      refine g_iteD (fun h1 => ?_) (fun h1 => ?_)
      · walk_at "go"
        rw [decide_eq_true h1, Bool.true_and] at q
        exact q
      · rw [decide_eq_false h1, Bool.false_and] at q
        exact q
    | non =>
      walk_at "go"
      exact q
    | bl b =>
      walk_at "go"
      exact q
    | str b =>
      walk_at "go"
      exact q
    | lst hs hd =>
      walk_at "go"
      exact q
    | tup hs hd =>
      walk_at "go"
      exact q
theorem c_is_number (T : Top K mg) : Cal P w K mg base "is_number" 1 P_is_number (spIsN K) := cal_mk T.f_is_number (ok_is_number T) (fun F => F.bindsN fun _ _ _ _ _ _ us hl => match us, hl with | [_, _, _], _ => rfl)
end

set_option Elab.async false
set_option linter.all false
set_option maxRecDepth 100000
set_option maxHeartbeats 4000000
/-! len(set(text)); list(text) -/
open PySem PySem.Spec PyProof.Rows
/-- each item once, in the order of its first place -/
def metS {α : Type} [DecidableEq α] : List α → List α
  | [] => []
  | x :: xs => x :: (metS xs).filter fun y => decide (y ≠ x)
def met {α : Type} [DecidableEq α] (xs : List α) : List α := xs.foldl (fun acc v => if v ∈ acc then acc else acc ++ [v]) []
theorem met_snoc {α : Type} [DecidableEq α] (xs : List α) (v : α) : met (xs ++ [v]) = if v ∈ met xs then met xs else met xs ++ [v] := by
  unfold met
  rw [List.foldl_append]
  rfl
theorem snoc_ind {α : Type} {p : List α → Prop} (h0 : p []) (h1 : ∀ xs v, p xs → p (xs ++ [v])) (xs : List α) : p xs := by
  rw [← List.reverse_reverse xs]
  induction xs.reverse with
  | nil => exact h0
  | cons y ys ih => rw [List.reverse_cons]; exact h1 _ _ ih
theorem met_mem {α : Type} [DecidableEq α] (xs : List α) : ∀ v, v ∈ met xs ↔ v ∈ xs := by
  refine snoc_ind (p := fun xs => ∀ v, v ∈ met xs ↔ v ∈ xs) (fun v => Iff.rfl) (fun xs u ih v => ?_) xs
  rw [met_snoc, List.mem_append, List.mem_singleton, ← ih v]
  split
  · rename_i hu
    exact ⟨.inl, fun h => h.elim id fun e => by rw [e]; exact hu⟩
  · rw [List.mem_append, List.mem_singleton]
theorem met_len {α : Type} [DecidableEq α] (xs : List α) : (met xs).length ≤ xs.length ∧ ((met xs).length = xs.length ↔ xs.Nodup) := by
  refine snoc_ind (p := fun xs => (met xs).length ≤ xs.length ∧ ((met xs).length = xs.length ↔ xs.Nodup)) ⟨Nat.le_refl _, by simp [met]⟩ (fun xs u ih => ?_) xs
  rw [met_snoc, List.length_append, List.length_singleton, List.nodup_append]
  by_cases hu : u ∈ met xs
  · rw [if_pos hu]
    refine ⟨by omega, ⟨fun h => by omega, fun h => ?_⟩⟩
    exact absurd rfl (h.2.2 u ((met_mem xs u).mp hu) u (List.mem_singleton.mpr rfl))
  · rw [if_neg hu, List.length_append, List.length_singleton]
    refine ⟨by omega, ⟨fun h => ⟨ih.2.mp (by omega), by simp, fun a ha b hb e => ?_⟩, fun h => by have := ih.2.mpr h.1; omega⟩⟩
    rw [List.mem_singleton.mp hb] at e
    exact hu ((met_mem xs u).mpr (e ▸ ha))
section
variable {prog : Program} {w : World} {A : Around} {R : Result → Shared → Prop} {I : Addr} {n : Nat} {Pi : Nat → Value → Prop} {St : Nat → Shared → Prop} {fp wr : List Addr} {G : Array GenState → Array GenState → Prop}
theorem loopS (Wk : WalksS prog w A.in1 I fp wr G n Pi St) (C : Addr) (hC : C ∉ fp) (xs : List Str) (hx : xs.length = n) (hv : ∀ i v, Pi i v → ∃ t, v = .str (xs.getD i Str.empty) t) (big : n + 1 < scanBound) :
    ∀ (m i : Nat) (sh : Shared), n - i = m → i ≤ n → St i sh → sh.heap.SetOf (PySem.strKind prog w) C (fun z => decide (z ∈ met (xs.take i))) (met (xs.take i)).length →
      (∀ s2, Moved (C :: wr) G sh s2 → s2.heap.SetOf (PySem.strKind prog w) C (fun z => decide (z ∈ met xs)) (met xs).length → R (.ok (.ret .none)) s2) → codeAny (model prog w) A (.builtin "set.update.loop" ⟨[.ref C, .ref I], []⟩) R sh := by
  have w1 : C ∉ wr := fun z => hC (Wk.sub _ z)
  have w2 : ∀ b ∈ wr, b ∈ C :: wr := fun b hb => List.mem_cons_of_mem _ hb
  intro m
  induction m with
  | zero =>
    intro i sh hm hi hst hS k
    obtain rfl : i = n := by omega
    rw [List.take_of_length_le (by omega)] at hS
    refine codeAny_builtin PyProof.Rows.F.entry_set_update_loop ?_
    rw [Around.under_plainId PyProof.Rows.F.plain_set_update_loop _]
    refine wpAny_bind (m := pyNext (.ref I)) (Wk.done sh _ _ hst fun s2 mv => ?_)
    obtain ⟨o, es, ep, t, ho, more⟩ := hS
    exact wpAny_pure (k s2 (mv.mono w2) ⟨o, es, ep, t, mv.heap C _ w1 ho, more⟩)
  | succ m ih =>
    intro i sh hm hi hst hS k
    have lt : i < n := by omega
    refine codeAny_builtin PyProof.Rows.F.entry_set_update_loop ?_
    rw [Around.under_plainId PyProof.Rows.F.plain_set_update_loop _]
    refine wpAny_bind (m := pyNext (.ref I)) (Wk.item i sh _ _ lt hst fun v s2 hp hst2 mv => ?_)
    obtain ⟨t, rfl⟩ := hv i v hp
    obtain ⟨o, es, ep, tb, ho, more⟩ := hS
    have hS2 : s2.heap.SetOf (PySem.strKind prog w) C (fun z => decide (z ∈ met (xs.take i))) (met (xs.take i)).length := ⟨o, es, ep, tb, mv.heap C _ w1 ho, more⟩
    refine wpAny_bind (m := holding [Value.str (xs.getD i Str.empty) t] (setAdd C (.str (xs.getD i Str.empty) t))) (wpAny_holding ?_)
    unfold setAdd
    refine wpAny_holding (wpAny_bind ((PySem.strKind prog w).pyHash (k := xs.getD i Str.empty) (strKind_is _ _ _ _) ?_))
    have few : (met (xs.take i)).length + 1 < scanBound := by
      have := (met_len (xs.take i)).1
      rw [List.length_take] at this
      omega
    refine wpAny_setAddHashed_of (knd := PySem.strKind prog w) (s := { s2 with toks := s2.toks + 1 }) (strKind_is _ _ _ _) rfl hS2 few fun h3 hb hS3 => ?_
    have ei : xs[i]? = some (xs.getD i Str.empty) := by rw [List.getD_eq_getElem?_getD, List.getElem?_eq_getElem (by omega)]; rfl
    have es3 : met (xs.take (i + 1)) = if xs.getD i Str.empty ∈ met (xs.take i) then met (xs.take i) else met (xs.take i) ++ [xs.getD i Str.empty] := by rw [List.take_add_one, ei]; exact met_snoc _ _
    have hS4 : h3.SetOf (PySem.strKind prog w) C (fun z => decide (z ∈ met (xs.take (i + 1)))) (met (xs.take (i + 1))).length := by
      refine SetOf_congr hS3 (fun z => ?_) ?_
      · rw [es3]
        by_cases hm3 : xs.getD i Str.empty ∈ met (xs.take i)
        · rw [if_pos hm3]
          by_cases ez : z = xs.getD i Str.empty
          · rw [ez, decide_eq_true hm3]; rfl
          · rw [decide_eq_false ez, Bool.or_false]
        · rw [if_neg hm3]
          by_cases ez : z = xs.getD i Str.empty
          · rw [decide_eq_true ez, Bool.or_true, decide_eq_true (List.mem_append.mpr (.inr (List.mem_singleton.mpr ez)))]
          · rw [decide_eq_false ez, Bool.or_false]
            congr 1
            rw [List.mem_append, List.mem_singleton]
            exact propext ⟨.inl, fun q => q.elim id fun q => absurd q ez⟩
      · rw [es3]
        by_cases hm3 : xs.getD i Str.empty ∈ met (xs.take i)
        · rw [if_pos hm3, if_pos (decide_eq_true hm3)]
        · rw [if_neg hm3, if_neg (fun q => hm3 (of_decide_eq_true q)), List.length_append]; rfl
    refine wpAny_pure ⟨plainId_quiet PyProof.Rows.F.plain_set_update_loop _, ih (i + 1) _ (by omega) lt (Wk.frame _ s2 _ _ hst2 (Nat.le_succ _) fun b hb2 o e => ?_) hS4 fun s5 mv5 hS5 => k s5 (Moved.trans Wk.gtrans ((mv.mono w2).then_heap (Nat.le_succ _) fun b o hb2 e => ?_) mv5) hS5⟩
    · rw [hb.2 b (fun z : b = C => hC (by rw [← z]; exact hb2))]; exact e
    · rw [hb.2 b (fun z : b = C => hb2 (by rw [z]; exact List.mem_cons_self))]; exact e
end
def chrs (z : Str) : List Str := z.cps.toList.map fun c => ⟨#[c]⟩
theorem chrs_len (z : Str) : (chrs z).length = z.cps.size := by unfold chrs; rw [List.length_map, Array.length_toList]
theorem chrs_at {z : Str} {i : Nat} {c : Nat} (h : z.cps[i]? = some c) : (chrs z).getD i Str.empty = ⟨#[c]⟩ := by
  unfold chrs
  rw [List.getD_eq_getElem?_getD, List.getElem?_map, Array.getElem?_toList, h]
  rfl
section
variable {prog : Program} {w : World} {A : Around} {E : Value → Shared → Prop} {s : Shared}
set_option maxHeartbeats 6400000 in
theorem call_setS {z : Str} {tz : Tok} {Q : Value → Shared → Prop} (hh : A.handled = none) (big : z.cps.size + 1 < scanBound)
    (k : ∀ (h2 : Heap) (tk : Nat), h2.SetOf (PySem.strKind prog w) s.heap.objs.size (fun y => decide (y ∈ met (chrs z))) (met (chrs z)).length → (∀ b o, b < s.heap.objs.size → s.heap.get? b = some o → h2.get? b = some o) → Q (.ref s.heap.objs.size) { s with heap := h2, toks := tk }) :
    wpAny (model prog w) A (call (.type "set") [.str z tz]) Q E s := by
  obtain ⟨c, tl, hmro⟩ := PySem.F.called_set.mro
  have q1 := PySem.F.called_set.made
  have q2 := PySem.F.called_set.sub
  refine wpAny_call (codeAny_of_tree ?_)
  refine wpAny_pure (M := model prog w) ⟨Code.quiet_builtin _ (by decide +kernel), codeAny_builtin PySem.F.entry_type_call ?_⟩
  rw [Around.under_plain (weight_type_call_type "set" [.str z tz] []) rfl]
  have q3 := PySem.F.called_set.notType
  have q4 := PySem.F.called_set.canCreate
  have q5 := PySem.F.typeCall_set_1 (.str z tz)
  repeat (any_goals (first | assumption | wp_step))
  refine codeAny_mono (code_set_new_1 (.str z tz) (E := E) (Q₁ := fun ob s2 => ∃ led : Bool, ob = .ref s.heap.objs.size ∧ s2 = { s with heap := s.heap.push { cls := .type "set", dict := none, data := .set #[] 0 (.fresh 0 0 led) } }) fun led => ⟨led, rfl, rfl⟩) fun r s2 hr => ?_
  rcases r with e | fl
  · exact hr
  · cases fl
    case ret ob =>
      obtain ⟨led, rfl, rfl⟩ := hr
      have o1 : (s.heap.push { cls := .type "set", dict := none, data := .set #[] 0 (.fresh 0 0 led) }).get? s.heap.objs.size = some { cls := .type "set", dict := none, data := .set #[] 0 (.fresh 0 0 led) } := Heap.get?_push_size _ rfl
      have o2 : Shared.TypeIs { s with heap := s.heap.push { cls := .type "set", dict := none, data := .set #[] 0 (.fresh 0 0 led) } } (.ref s.heap.objs.size) "set" := ⟨_, o1, rfl⟩
      have o3 := PySem.F.called_set.init.lookup
      have o4 := PySem.F.called_set.init.bind (.ref s.heap.objs.size)
      repeat (any_goals (first | assumption | wp_step))
      refine codeAny_mono (codeAny_call_builtin (R := wants (fun r s3 => r = .none ∧ ∃ h2 tk, s3 = { s with heap := h2, toks := tk } ∧ h2.SetOf (PySem.strKind prog w) s.heap.objs.size (fun y => decide (y ∈ met (chrs z))) (met (chrs z)).length ∧
          (∀ b o, b < s.heap.objs.size → s.heap.get? b = some o → h2.get? b = some o)) E) PySem.F.called_set.init.plain PySem.F.entry_set_init (check_set_init_1 o2 ?_)) fun r2 s3 hr2 => ?_
      · have st1 := PySem.F.sub_str_set
        have st2 := PySem.F.sub_str_frozenset
        have ne1 : (Value.type "str" == Value.type "dict") = false := by decide
        have ty : Shared.TypeIs { s with heap := s.heap.push { cls := .type "set", dict := none, data := .set #[] 0 (.fresh 0 0 led) } } (.str z tz) "str" := rfl
        unfold Builtin.«set.__init__» noKeywords Builtin.Frozenset.updateFrom
        generalize hPI : pyIter = PI
        wp_walk
        subst hPI
        refine wpAny_pyIter_str fun ob St hW hSt => ?_
        refine wpAny_bind (wpAny_runValue ?_)
        have hA : A.in1.in1.in1.handled = none := by simp [hh]
        have nI : s.heap.objs.size ≠ (s.heap.push { cls := .type "set", dict := none, data := .set #[] 0 (.fresh 0 0 led) }).objs.size := by
          rw [Heap.size_push]
          exact Nat.ne_of_lt (Nat.lt_succ_self _)
        have vals : ∀ (i : Nat) (v : Value), SignAt z i v → ∃ t, v = .str ((chrs z).getD i Str.empty) t := fun i v ⟨c, u, hc, e⟩ => ⟨u, by rw [chrs_at hc]; exact e⟩
        refine loopS ((hW _ hA).toS) s.heap.objs.size (fun q => nI (List.mem_singleton.mp q)) (chrs z) (chrs_len z) vals big (z.cps.size - 0) 0 _ (by omega) (Nat.zero_le _) hSt ?h0 ?h1
        case h0 =>
          exact SetOf_congr ((setObjOf_fresh (knd := PySem.strKind prog w) led).setOf (Heap.get?_push_of_some _ o1) (by unfold scanBound; omega)) (fun _ => rfl) rfl
        case h1 =>
          intro s4 mv hS4
          obtain ⟨h4, g4, d4, t4, os4⟩ := s4
          obtain rfl : g4 = s.gens := mv.gens
          obtain rfl : d4 = s.drawn := mv.drawn
          obtain rfl : os4 = s.os := mv.os
          refine wpAny_pure (M := model prog w) ?_
          refine wpAny_pure (M := model prog w) ⟨rfl, h4, t4, rfl, hS4, fun b o hb e => ?_⟩
          refine mv.heap b o (fun q => ?_) (Heap.get?_push_of_some _ (Heap.get?_push_of_some _ e))
          rcases List.mem_cons.mp q with q | q
          · exact Nat.ne_of_lt hb q
          · rw [List.mem_singleton.mp q, Heap.size_push] at hb
            omega
      · rcases r2 with e | fl2
        · exact hr2
        · cases fl2
          case ret r =>
           obtain ⟨rfl, h2, tk, rfl, hS, hk⟩ := hr2
           repeat (any_goals (first | assumption | wp_step))
           exact k _ _ hS hk
          all_goals exact False.elim hr2
    all_goals exact False.elim hr
end
open PySem PySem.Spec PyProof.Rows L2
theorem vals_pt : ∀ (xs : List V) (us : List Value), xs.length = us.length → (∀ (j : Nat) x u, xs[j]? = some x → us[j]? = some u → RelV x u) → Vals xs us
  | [], [], _, _ => .nil
  | x :: xs, u :: us, e, h => .cons (h 0 x u rfl rfl) (vals_pt xs us (by simpa using e) fun j x u hx hu => h (j + 1) x u hx hu)
theorem vals_chrs {z : Str} {acc : Array Value} (h : ItemsOf (SignAt z) acc z.cps.size) : Vals ((chrs z).map V.str) acc.toList := by
  refine vals_pt _ _ (by rw [List.length_map, chrs_len, Array.length_toList, h.1]) fun j x u hx hu => ?_
  rw [Array.getElem?_toList] at hu
  obtain ⟨c, t, hc, e⟩ := h.2 j u hu
  unfold chrs at hx
  rw [List.map_map, List.getElem?_map, Array.getElem?_toList, hc] at hx
  rw [← Option.some.inj hx, e]
  exact ⟨t, rfl⟩
/-- list(text) -/
def qListS : List V → Hp → VK → Prop := fun xs H Q => ∃ z : Str, xs = [.str z] ∧ z.cps.size ≤ 1000 ∧ ∀ l, H l = none → Q (.ref l) (upd H l (.lst ((chrs z).map V.str)))
theorem c_listS {X : Cx} (hc : X.calm = true) : CallR X (.type "list") qListS := by
  intro pins s σ H xs us Q I r h
  obtain ⟨z, rfl, hz, q⟩ := h
  obtain ⟨u, rfl, t, rfl⟩ := vals1 r
  refine call_list_str (I.ok.hd hc) z t (fun h2 tk acc c2 kp e hi => ?_) (by have : (1000 : Nat) ≤ sizeLine := (Nat.le_of_lt (small1000 (Nat.le_refl _))); omega)
  have ln : ((chrs z).map V.str).length ≤ sizeLine := by
    have : (1000 : Nat) ≤ sizeLine := (Nat.le_of_lt (small1000 (Nat.le_refl _)))
    rw [List.length_map, chrs_len]
    omega
  exact ⟨.ref s.heap.objs.size, _, I.laid (t' := tk) kp (Nat.le_refl _) (show ObjOk X.prog X.w _ h2 _ (.lst ((chrs z).map V.str)) from ⟨ln, acc.toList, c2, vals_chrs hi, e⟩), rfl, q _ (I.hok.fresh (Nat.le_refl _))⟩
theorem g_listS {H : Hp} {Q : VK} {z : Str} (hz : z.cps.size ≤ 1000) (q : ∀ l, H l = none → Q (.ref l) (upd H l (.lst ((chrs z).map V.str)))) : qListS [.str z] H Q := ⟨z, rfl, hz, q⟩
/-- len(set(text)) -/
def tLenSetS (ta : TE) : TE := fun σ H Q => ta σ H fun x H1 => ∃ z : Str, x = .str z ∧ z.cps.size < 64 ∧ Q (.int (met (chrs z)).length) H1
theorem pe_lenSetS {X : Cx} {a : Expr} {ta : TE} {p p2 q pos : Pos} (hc : X.calm = true) (hg : Gl X "len") (hm : X.mg "len" = none) (hg2 : Gl X "set") (hm2 : X.mg "set" = none) (ha : PE X a ta)
    (na : starEach [a] X.env = (false, eval a X.env) :: starEach [] X.env := by rfl) : PE X (.Call (.Name "len" p) [.Call (.Name "set" p2) [a] [] q] [] pos) (tLenSetS ta) := by
  refine ⟨fun pins s σ H Q I h => ?_⟩
  refine Call_ (ld_blt I hg hm boot_len (PyProof.Rows.callWith_builtin1 (args_cons (Call_ (ld_blt I hg2 hm2 boot_set (PyProof.Rows.callWith_type1 (he := na) (args_cons (he := na) (thn (ha.run pins s σ H _ I h) fun v s1 x => args_nil ?_))))))))
  obtain ⟨x1, H1, I1, r1, z, rfl, hz, q1⟩ := x
  obtain ⟨t, rfl⟩ := r1
  refine call_setS (I1.ok.hd hc) (by have : scanBound = 4096 := rfl; omega) fun h2 tk hS hk => ?_
  obtain ⟨o, es, ep, tb, ho, ex, hd, _, _, hb, fit, en⟩ := hS
  have I2 := Inv.kept (t' := tk) I1 fun b o e => hk b o (Heap.lt_size e) e
  refine args_nil (call_len_set ho ex hd fit (by have : scanBound = 4096 := rfl; omega) ⟨.int es.size, H1, I2.tok _, ⟨_, rfl⟩, ?_⟩)
  rw [en]
  exact q1
def LenSR (Q : VK) (x : V) (H1 : Hp) : Prop := ∃ z : Str, x = .str z ∧ z.cps.size < 64 ∧ Q (.int (met (chrs z)).length) H1
theorem g_lenSetS {ta : TE} {σ : L2.St} {H : Hp} {Q : VK} (h : ta σ H (LenSR Q)) : tLenSetS ta σ H Q := h
instance st_g_lenSetS {ta : TE} {σ : L2.St} {H : Hp} {Q : VK} : Step (tLenSetS ta σ H Q) (ta σ H (LenSR Q)) := ⟨fun z => g_lenSetS z⟩
theorem g_lenSR {Q : VK} {H : Hp} {z : Str} (hz : z.cps.size < 64) (q : Q (.int (met (chrs z)).length) H) : LenSR Q (.str z) H := ⟨z, rfl, hz, q⟩
-- step instances

set_option Elab.async false
set_option linter.all false
set_option maxRecDepth 100000
set_option maxHeartbeats 4000000
/-! d.setdefault(k, x) where the keys are tuples -/
open PySem PySem.Spec PyProof.Rows L2
section
variable {X : Cx} {pins : List (Addr × Obj)} {σ : L2.St} {H : Hp} {s : Shared} {a b : Addr} {r : Value} {d : V} {k : List L2.Key} {A : Around} {E : Value → Shared → Prop}
theorem d_setdT {kvs : List (List L2.Key × V)} {Q : Value → Shared → Prop} (hu : A.units + 1 < cLine) (I : Inv X pins σ H s) (e : H a = some (.dT kvs)) (eb : H b = some (.tup (k.map kV))) (rd : RelV d r) (hl : kvs.length < sizeLine)
    (h1 : ∀ v, valV kvs k = some v → ∀ (w' : Value) (s' : Shared), Inv X pins σ H s' → RelV v w' → Q w' s') (h2 : valV kvs k = none → ∀ (w' : Value) (s' : Shared), Inv X pins σ (upd H a (.dT (putK kvs k d))) s' → RelV d w' → Q w' s') :
    wpAny (model X.prog X.w) A (call (.builtin "dict.setdefault") [.ref a, .ref b, r]) Q E s := by
  obtain ⟨z, hd, xs, rel, dd⟩ := dt_of I.hok e
  have hz : xs.length ≤ sizeLine := by rw [← Paired.length rel]; exact z
  refine call_setdefault_heap (hsz := hz) (tupleKind_room_in1 hu) (key_of I.hok eb) hd dd (fun p hp => ?_) (fun hn h' dd' hs => ?_)
  · have q := rel.val k
    rw [hp] at q
    cases q0 : valV kvs k with
    | none =>
      rw [q0] at q
      exact (show False from q).elim
    | some v0 =>
      rw [q0] at q
      exact h1 v0 q0 _ _ (I.tok _) q
  · have q := rel.val k
    rw [hn] at q
    cases q0 : valV kvs k with
    | some v0 =>
      rw [q0] at q
      exact (show False from q).elim
    | none =>
      have hl2 : (putK kvs k d).length ≤ sizeLine := by
        have := length_putK kvs k d
        omega
      obtain ⟨o, es, ep, hq, g2, g3, g4, _, g5⟩ := dd'
      refine h2 q0 _ _ (d_write I (by rw [e]; exact True.intro) hs ⟨o, hq⟩ ⟨hl2, hd, _, (rel.put k eb rd).keeps fun c ys ec => ?_, o, es, ep, hq, g2, g3, g4, g5⟩) rd
      rw [upd_ne (ne_of ec e (fun z => nomatch z))]
      exact ec
end
/-- d.setdefault(y, z), y a tuple -/
def tDSetT (td ty tx : TE) : TE := fun σ H Q => td σ H fun x H1 => ∃ a, x = .ref a ∧ IsD H1 a ∧ ty σ H1 fun y H2 => tx σ H2 fun z H3 => ∃ (kvs : List (List L2.Key × V)) (k : List L2.Key) (b : Addr), H3 a = some (.dT kvs) ∧ y = .ref b ∧ H3 b = some (.tup (k.map kV)) ∧ kvs.length < sizeLine ∧
  (∀ v, valV kvs k = some v → Q v H3) ∧ (valV kvs k = none → Q z (upd H3 a (.dT (putK kvs k z))))
section
variable {X : Cx} {o e f : Expr} {td ty tx : TE} {apos cpos : Pos}
theorem pe_dsetT (hu : X.A.units + 64 < cLine) (ho : PE X o td) (he : PE X e ty) (hf : PE X f tx) (m : M2 X o "setdefault" apos e f cpos) : PE X (.Call (.Attribute o "setdefault" apos) [e, f] [] cpos) (tDSetT td ty tx) := by
  refine ⟨fun pins s σ H Q I h => ?_⟩
  refine wpAny_Call_method m.base m.few m.line PySem.F.plainAttrs_dict PySem.F.slot_dict_setdefault PySem.F.type_dict_setdefault (thn (ho.run pins s σ H _ I h) fun u s1 ⟨x, H1, I1, rx, a, ex, d, q1⟩ => ?_)
  subst ex
  obtain rfl : u = Value.ref a := rx
  obtain ⟨t1, t2, _⟩ := isD_at I1 d
  refine ⟨t1, t2, ?_⟩
  rw [m.trees]
  refine Calls.callWith_builtin rfl (Calls.evalArgs_plain (Calls.spliced_cons (thn (he.run pins s1 σ H1 _ I1 q1) fun iv s2 ⟨y, H2, I2, ry, q2⟩ =>
    Calls.spliced_cons (thn (hf.run pins s2 σ H2 _ I2 q2) fun fv s3 ⟨z, H3, I3, rz, kvs, k, b, ea, ey, eb, hl, q3, q4⟩ => Calls.spliced_nil ?_))))
  subst ey
  obtain rfl : iv = Value.ref b := ry
  exact d_setdT (by omega) I3 ea eb rz hl (fun v hv w' s4 I4 rw' => ⟨v, _, I4, rw', q3 v hv⟩) fun hn w' s4 I4 rw' => ⟨z, _, I4, rw', q4 hn⟩
end
section
variable {σ : L2.St} {H : Hp} {Q : VK} {td ty tx : TE}
theorem g_dsetT (h : td σ H fun x H1 => ∃ a, x = .ref a ∧ IsD H1 a ∧ ty σ H1 fun y H2 => tx σ H2 fun z H3 => ∃ (kvs : List (List L2.Key × V)) (k : List L2.Key) (b : Addr), H3 a = some (.dT kvs) ∧ y = .ref b ∧ H3 b = some (.tup (k.map kV)) ∧ kvs.length < sizeLine ∧
  (∀ v, valV kvs k = some v → Q v H3) ∧ (valV kvs k = none → Q z (upd H3 a (.dT (putK kvs k z))))) : tDSetT td ty tx σ H Q := h
instance st_g_dsetT : Step (tDSetT td ty tx σ H Q) (td σ H fun x H1 => ∃ a, x = .ref a ∧ IsD H1 a ∧ ty σ H1 fun y H2 => tx σ H2 fun z H3 => ∃ (kvs : List (List L2.Key × V)) (k : List L2.Key) (b : Addr), H3 a = some (.dT kvs) ∧ y = .ref b ∧ H3 b = some (.tup (k.map kV)) ∧ kvs.length < sizeLine ∧
  (∀ v, valV kvs k = some v → Q v H3) ∧ (valV kvs k = none → Q z (upd H3 a (.dT (putK kvs k z))))) := ⟨fun z => z⟩
end

set_option Elab.async false
set_option linter.all false
set_option maxRecDepth 100000
set_option maxHeartbeats 4000000
/-! fresh copies: data as nested lists, no list twice, with the places of all of them -/
open PySem PySem.Spec L2
mutual
inductive Dx (H : Hp) : V → PyData → List Addr → Prop where
  | non : Dx H .non .none []
  | bl (b : Bool) : Dx H (.bl b) (.bool b) []
  | int (i : Int) : Dx H (.int i) (.int i) []
  | str (x : Str) : Dx H (.str x) (.str x) []
  | lst {b : Addr} {xs : List V} {ds : List PyData} {A : List Addr} : H b = some (.lst xs) → DxAll H xs ds A → b ∉ A → Dx H (.ref b) (.list ds) (b :: A)
inductive DxAll (H : Hp) : List V → List PyData → List Addr → Prop where
  | nil : DxAll H [] [] []
  | cons {v : V} {vs : List V} {d : PyData} {ds : List PyData} {A B : List Addr} : Dx H v d A → DxAll H vs ds B → (∀ a ∈ A, a ∉ B) → DxAll H (v :: vs) (d :: ds) (A ++ B)
end
mutual
theorem Dx.keep {H H' : Hp} : ∀ {v : V} {d : PyData} {A : List Addr}, (∀ a ∈ A, ∀ o, H a = some o → H' a = some o) → Dx H v d A → Dx H' v d A
  | _, _, _, _, .non => .non
  | _, _, _, _, .bl b => .bl b
  | _, _, _, _, .int i => .int i
  | _, _, _, _, .str z => .str z
  | _, _, _, k, .lst h hs n => .lst (k _ List.mem_cons_self _ h) (DxAll.keep (fun a ha => k a (List.mem_cons_of_mem _ ha)) hs) n
theorem DxAll.keep {H H' : Hp} : ∀ {v : List V} {d : List PyData} {A : List Addr}, (∀ a ∈ A, ∀ o, H a = some o → H' a = some o) → DxAll H v d A → DxAll H' v d A
  | _, _, _, _, .nil => .nil
  | _, _, _, k, .cons h hs n => .cons (Dx.keep (fun a ha => k a (List.mem_append_left _ ha)) h) (DxAll.keep (fun a ha => k a (List.mem_append_right _ ha)) hs) n
end
mutual
theorem Dx.dq {K : PySem.W.Frag} {S : Addr → Prop} {H : Hp} : ∀ {v : V} {d : PyData} {A : List Addr}, (∀ a ∈ A, ¬ S a) → Dx H v d A → Dq K S H v d
  | _, _, _, _, .non => .non
  | _, _, _, _, .bl b => .bl b
  | _, _, _, _, .int i => .int i
  | _, _, _, _, .str z => .str z
  | _, _, _, k, .lst h hs n => .lst (fun H' c => c _ _ (k _ List.mem_cons_self) h) (DxAll.dq (fun a ha => k a (List.mem_cons_of_mem _ ha)) hs)
theorem DxAll.dq {K : PySem.W.Frag} {S : Addr → Prop} {H : Hp} : ∀ {v : List V} {d : List PyData} {A : List Addr}, (∀ a ∈ A, ¬ S a) → DxAll H v d A → DqAll K S H v d
  | _, _, _, _, .nil => .nil
  | _, _, _, k, .cons h hs n => .cons (Dx.dq (fun a ha => k a (List.mem_append_left _ ha)) h) (DxAll.dq (fun a ha => k a (List.mem_append_right _ ha)) hs)
end
mutual
theorem Dx.ne {H : Hp} : ∀ {v : V} {d : PyData} {A : List Addr}, Dx H v d A → ∀ a ∈ A, H a ≠ none
  | _, _, _, .non => fun a h => absurd h List.not_mem_nil
  | _, _, _, .bl b => fun a h => absurd h List.not_mem_nil
  | _, _, _, .int i => fun a h => absurd h List.not_mem_nil
  | _, _, _, .str z => fun a h => absurd h List.not_mem_nil
  | _, _, _, .lst h hs n => fun a ha => (List.mem_cons.mp ha).elim (fun e => by rw [e, h]; exact fun z => by cases z) (DxAll.ne hs a)
theorem DxAll.ne {H : Hp} : ∀ {v : List V} {d : List PyData} {A : List Addr}, DxAll H v d A → ∀ a ∈ A, H a ≠ none
  | _, _, _, .nil => fun a h => absurd h List.not_mem_nil
  | _, _, _, .cons h hs n => fun a ha => (List.mem_append.mp ha).elim (Dx.ne h a) (DxAll.ne hs a)
end
theorem DxAll.len {H : Hp} : ∀ {vs : List V} {ds : List PyData} {A : List Addr}, DxAll H vs ds A → vs.length = ds.length
  | _, _, _, .nil => rfl
  | _, _, _, .cons _ hs _ => congrArg Nat.succ (DxAll.len hs)
theorem DxAll.snoc {H : Hp} {v : V} {d : PyData} {B : List Addr} (h : Dx H v d B) : ∀ {vs : List V} {ds : List PyData} {A : List Addr}, DxAll H vs ds A → (∀ a ∈ A, a ∉ B) → DxAll H (vs ++ [v]) (ds ++ [d]) (A ++ B)
  | _, _, _, .nil, _ => by
    have z : DxAll H [v] [d] (B ++ []) := .cons h .nil fun _ _ z => absurd z List.not_mem_nil
    rw [List.append_nil] at z
    exact z
  | _, _, _, .cons (A := A1) (B := B1) h1 hs n, dis => by
    have ih := DxAll.snoc h hs fun a ha => dis a (List.mem_append_right _ ha)
    rw [List.append_assoc]
    exact .cons h1 ih fun a ha hb => (List.mem_append.mp hb).elim (n a ha) (dis a (List.mem_append_left _ ha))
/-- another thing at one place -/
theorem DxAll.put {H : Hp} : ∀ {xs : List V} {ds : List PyData} {A : List Addr} {i : Nat} {d : PyData}, DxAll H xs ds A → ds[i]? = some d → ∃ v B, xs[i]? = some v ∧ Dx H v d B ∧ (∀ a ∈ B, a ∈ A) ∧
    ∀ (K : PySem.W.Frag) (S : Addr → Prop) (H' : Hp) (e : PyData), (∀ a ∈ A, a ∉ B → ¬ S a ∧ ∀ o, H a = some o → H' a = some o) → Dq K S H' v e → DqAll K S H' xs (ds.set i e)
  | _, _, _, 0, d, .cons (A := A1) (B := B1) h hs n, e => by
    obtain rfl := Option.some.inj e
    refine ⟨_, A1, rfl, h, fun a ha => List.mem_append_left _ ha, fun K S H' e k hv => .cons hv ?_⟩
    have k2 := fun a ha => k a (List.mem_append_right _ ha) (fun z => n a z ha)
    exact (hs.keep fun a ha => (k2 a ha).2).dq fun a ha => (k2 a ha).1
  | _, _, _, i + 1, d, .cons (A := A1) (B := B1) h hs n, e => by
    obtain ⟨v, B, h1, h2, h3, h4⟩ := DxAll.put (i := i) hs e
    refine ⟨v, B, h1, h2, fun a ha => List.mem_append_right _ (h3 a ha), fun K S H' e k hv => .cons ?_ (h4 K S H' e (fun a ha nb => k a (List.mem_append_right _ ha) nb) hv)⟩
    have k2 := fun a ha => k a (List.mem_append_left _ ha) (fun z => n a ha (h3 a z))
    exact (h.keep fun a ha => (k2 a ha).2).dq fun a ha => (k2 a ha).1
theorem Dx.list_inv {H : Hp} {v : V} {ds : List PyData} {A : List Addr} (h : Dx H v (.list ds) A) : ∃ b xs B, v = .ref b ∧ A = b :: B ∧ H b = some (.lst xs) ∧ DxAll H xs ds B ∧ b ∉ B := by
  cases h with
  | lst h hs n => exact ⟨_, _, _, rfl, rfl, h, hs, n⟩
section
variable {K : PySem.W.Frag} {S : Addr → Prop} {g : TG} {tt : TT} {te : TE} {vs : List Nat} {σ σ0 : L2.St} {H : Hp} {Q : VK}
theorem coreX {xs : List V} {ds : List PyData} {f : PyData → PyData} (hda : DqAll K S H xs ds) (al : Al S H) (hl : ds.length ≤ 1000)
    (step : ∀ (i : Nat) x d D H' N, ds[i]? = some d → d ∈ ds → H D = none → Same H H' → Al (SD S D) H' → Dq K (SD S D) H' x d →
      (∀ y H3 B, Dx H3 y (f d) B → (∀ a ∈ B, H' a = none) → Same H' H3 → TurnD D N y H3) → Turn1 g tt te vs σ0 D x H' N)
    (done : ∀ P ys H' A, H P = none → H' P = some (.lst ys) → DxAll H' ys (ds.map f) A → (∀ a ∈ A, H a = none) → P ∉ A → Same H H' → Q (.ref P) H') (D : Addr) (hD : H D = none) :
    ∃ Pv : Nat → Hp → Prop, Pv 0 (upd H D (.lst [])) ∧ (∀ i H', Pv i H' → Same H H') ∧ (∀ (i : Nat) x H', xs[i]? = some x → Pv i H' → Turn1 g tt te vs σ0 D x H' (Pv (i + 1))) ∧ ∀ H', Pv xs.length H' → Q (.ref D) H' := by
  refine ⟨fun i H' => ∃ ys A, H' D = some (.lst ys) ∧ Same H H' ∧ DxAll H' ys ((ds.map f).take i) A ∧ (∀ a ∈ A, H a = none) ∧ D ∉ A, ⟨[], [], upd_same, same_new hD, .nil, fun a h => absurd h List.not_mem_nil, List.not_mem_nil⟩, fun i H' ⟨_, _, _, s, _⟩ => s, ?_, ?_⟩
  · rintro i x H' hx ⟨ys, A, e1, s, hy, hA, nD⟩
    obtain ⟨d, hd, hq⟩ := hda.at hx
    have il : i < ds.length := (List.getElem?_eq_some_iff.mp hd).1
    have hal : Al (SD S D) H' := al_sd (al.sm s) (by rw [e1]; exact fun z => by cases z)
    have yl : ys.length ≤ 1000 := by rw [hy.len, List.length_take]; omega
    refine step i x d D H' _ hd (List.mem_of_getElem? hd) hD s hal (hq.in hD fun b o _ _ e => s b o e) fun y H3 B hB nB s3 => ?_
    have nA := hy.ne
    have kD : ∀ a, a ≠ D → ∀ o, H3 a = some o → upd H3 D (.lst (ys ++ [y])) a = some o := fun a n o e => by rw [upd_ne n]; exact e
    have aD : ∀ a ∈ A, a ≠ D := fun a ha z => nD (z ▸ ha)
    have bD : ∀ a ∈ B, a ≠ D := fun a ha z => by rw [z] at ha; have := nB D ha; rw [e1] at this; cases this
    refine g_turnD (s3 _ _ e1) yl ⟨ys ++ [y], A ++ B, upd_same, fun b u e' => by rw [upd_ne (ne_of_none e' hD)]; exact s3 _ _ (s _ _ e'), ?_, ?_, ?_⟩
    · have ef : (ds.map f)[i]? = some (f d) := by rw [List.getElem?_map, hd]; rfl
      rw [List.take_add_one, ef]
      exact DxAll.snoc (hB.keep fun a ha o e => kD a (bD a ha) o e) (hy.keep fun a ha o e => kD a (aD a ha) o (s3 a o e)) fun a ha hb => nA a ha (nB a hb)
    · intro a ha
      rcases List.mem_append.mp ha with ha | ha
      · exact hA a ha
      · cases hh : H a with
        | none => rfl
        | some o => have := s a o hh; rw [nB a ha] at this; cases this
    · intro ha
      rcases List.mem_append.mp ha with ha | ha
      · exact nD ha
      · exact bD D ha rfl
  · rintro H' ⟨ys, A, e1, s, hy, hA, nD⟩
    rw [hda.len, ← List.length_map (f := f), List.take_length] at hy
    exact done D ys H' A hD e1 hy hA nD s
theorem lcX {b : Addr} {xs : List V} {ds : List PyData} {f : PyData → PyData} (c : SqL K H b xs ∨ SqT K H b xs) (hda : DqAll K S H xs ds) (al : Al S H) (hl : ds.length ≤ 1000) (hw : wipe σ vs = σ0)
    (step : ∀ (i : Nat) x d D H' N, ds[i]? = some d → d ∈ ds → H D = none → Same H H' → Al (SD S D) H' → Dq K (SD S D) H' x d →
      (∀ y H3 B, Dx H3 y (f d) B → (∀ a ∈ B, H' a = none) → Same H' H3 → TurnD D N y H3) → Turn1 g tt te vs σ0 D x H' N)
    (done : ∀ P ys H' A, H P = none → H' P = some (.lst ys) → DxAll H' ys (ds.map f) A → (∀ a ∈ A, H a = none) → P ∉ A → Same H H' → Q (.ref P) H') : BR K (fun J H1 => LcG J g tt te vs σ Q H1) (.ref b) H :=
  g_bR c (fun c => lcL (xs := xs) hw fun D hD => by
      obtain ⟨Pv, h0, hs, ht, hd⟩ := coreX hda al hl step done D hD
      exact ⟨Pv, h0, fun i H' _ p => sqL_sm (hs i H' p) c, ht, hd⟩)
    (fun c => lcT (xs := xs) hw fun D hD => by
      obtain ⟨Pv, h0, hs, ht, hd⟩ := coreX hda al hl step done D hD
      exact ⟨Pv, h0, fun i H' _ p => seqT_same (hs i H' p) c, ht, hd⟩)
end

set_option Elab.async false
set_option linter.all false
set_option maxRecDepth 100000
set_option maxHeartbeats 4000000

/-! things drawn with a bag, all made anew -/
open PySem PySem.Spec L2
def New (H : Hp) (A : List Addr) : Prop := ∀ z ∈ A, H z = none
theorem New.nil {H : Hp} : New H [] := fun _ h => absurd h List.not_mem_nil
theorem New.back {a l : Addr} {H H' : Hp} {A : List Addr} (n : New H' A) (c : Chg a H H') (B : Bag H' a l) : New H A := fun z hz => by
  cases h : H z with
  | none => rfl
  | some o =>
    by_cases e : z = a
    · obtain ⟨_, _, _, _, _, e1, _⟩ := B
      have := n z hz
      rw [e, e1] at this
      cases this
    · have := n z hz
      rw [c z o e h] at this
      cases this
theorem New.sm {H H' : Hp} {A : List Addr} (n : New H' A) (s : Same H H') : New H A := fun z hz => by
  cases h : H z with
  | none => rfl
  | some o => have := n z hz; rw [s z o h] at this; cases this
theorem New.ne {a l : Addr} {H : Hp} {A : List Addr} (n : New H A) (B : Bag H a l) : ∀ z ∈ A, z ≠ a := fun z hz e => by
  obtain ⟨_, _, _, _, _, e1, _⟩ := B
  have := n z hz
  rw [e, e1] at this
  cases this
theorem New.app {H : Hp} {A B : List Addr} (n : New H A) (m : New H B) : New H (A ++ B) := fun z hz => (List.mem_append.mp hz).elim (n z) (m z)
theorem New.cons {H : Hp} {p : Addr} {B : List Addr} (n : H p = none) (m : New H B) : New H (p :: B) := fun z hz => (List.mem_cons.mp hz).elim (fun e => by rw [e]; exact n) (m z)
theorem Dx.chg {a : Addr} {H H' : Hp} {v : V} {d : PyData} {A : List Addr} (h : Dx H v d A) (n : ∀ z ∈ A, z ≠ a) (c : Chg a H H') : Dx H' v d A := h.keep fun z hz o e => c z o (n z hz) e
theorem DxAll.chg {a : Addr} {H H' : Hp} {v : List V} {d : List PyData} {A : List Addr} (h : DxAll H v d A) (n : ∀ z ∈ A, z ≠ a) (c : Chg a H H') : DxAll H' v d A := h.keep fun z hz o e => c z o (n z hz) e
theorem Dx.sm {H H' : Hp} {v : V} {d : PyData} {A : List Addr} (h : Dx H v d A) (s : Same H H') : Dx H' v d A := h.keep fun z _ o e => s z o e
theorem DxAll.sm {H H' : Hp} {v : List V} {d : List PyData} {A : List Addr} (h : DxAll H v d A) (s : Same H H') : DxAll H' v d A := h.keep fun z _ o e => s z o e
theorem apart {H0 : Hp} {v : V} {d : PyData} {A B : List Addr} (h : Dx H0 v d A) (n : New H0 B) : ∀ z ∈ A, z ∉ B := fun z hz hb => h.ne z hz (n z hb)
theorem aparts {H0 : Hp} {v : List V} {d : List PyData} {A B : List Addr} (h : DxAll H0 v d A) (n : New H0 B) : ∀ z ∈ A, z ∉ B := fun z hz hb => h.ne z hz (n z hb)
theorem dx_new {H : Hp} {p : Addr} {xs : List V} {ds : List PyData} {A : List Addr} (hp : H p = none) (h : DxAll H xs ds A) : Dx (upd H p (.lst xs)) (.ref p) (.list ds) (p :: A) :=
  .lst upd_same (h.sm (same_new hp)) fun z => h.ne p z hp
theorem dx_ints {H : Hp} : ∀ ns : List Int, DxAll H (ns.map V.int) (ns.map PyData.int) []
  | [] => .nil
  | n :: ns => .cons (A := []) (B := []) (.int n) (dx_ints ns) fun _ z => absurd z List.not_mem_nil
section
variable {K : PySem.W.Frag} {g : TG} {tt : TT} {te : TE} {vs : List Nat} {σ σ0 : L2.St} {H : Hp} {Q : VK}
def StepX (H : Hp) (a l : Addr) (g : TG) (tt : TT) (te : TE) (vs : List Nat) (σ0 : L2.St) (x : V) (R : PyData → Prop) : Prop :=
  ∀ (D : Addr) (H' : Hp) (N : Hp → Prop), H D = none → Bag H' a l → Chg a H H' →
    (∀ e, R e → ∀ y H3 B, Dx H3 y e B → New H' B → Bag H3 a l → Chg a H' H3 → TurnD D N y H3) → Turn1 g tt te vs σ0 D x H' N
theorem lcBX {a l : Addr} {lo : Int} {n : Nat} {R : Nat → PyData → Prop} (B : Bag H a l) (hl : n ≤ 1000) (hw : wipe σ vs = σ0)
    (step : ∀ i : Nat, i < n → StepX H a l g tt te vs σ0 (.int (lo + i)) (R i))
    (done : ∀ p ys es A H', New H (p :: A) → H' p = some (.lst ys) → DxAll H' ys es A → p ∉ A → es.length = n → (∀ (i : Nat) e, es[i]? = some e → R i e) → Bag H' a l → Chg a H H' → Q (.ref p) H') : LcG (Itr lo n) g tt te vs σ Q H :=
  lcR hw fun D hD => by
    obtain ⟨na, nl⟩ := bag_apart B hD
    refine ⟨fun i H' => ∃ ys es A, H' D = some (.lst ys) ∧ Chg a H H' ∧ Bag H' a l ∧ DxAll H' ys es A ∧ New H A ∧ D ∉ A ∧ es.length = i ∧ (∀ (j : Nat) e, es[j]? = some e → R j e), ⟨[], [], [], upd_same, Chg.new hD, bag_new B hD, .nil, New.nil, List.not_mem_nil, rfl, fun j e h => by simp at h⟩, ?_, ?_⟩
    · rintro i H' il ⟨ys, es, A, e1, c, B1, hy, nA, nD, le, hR⟩
      refine step i il D H' _ hD B1 c fun e he y H3 A2 hy3 n2 B3 c3 => ?_
      have nAa := nA.ne B
      have nBa := n2.ne B1
      have kD : ∀ z, z ≠ D → ∀ o, H3 z = some o → upd H3 D (.lst (ys ++ [y])) z = some o := fun z n o e => by rw [upd_ne n]; exact e
      have bD : D ∉ A2 := fun h => by have := n2 D h; rw [e1] at this; cases this
      refine g_turnD (c3 _ _ na e1) (by rw [hy.len]; omega) ⟨ys ++ [y], es ++ [e], A ++ A2, upd_same, fun b u n e' => by rw [upd_ne (ne_of_none e' hD)]; exact c3 _ _ n (c _ _ n e'), bag_chg B3 na nl, ?_, nA.app (n2.back c B1), ?_, by rw [List.length_append, le]; rfl, ?_⟩
      · exact DxAll.snoc (hy3.keep fun z hz o e => kD z (fun q => bD (q ▸ hz)) o e) ((hy.chg nAa c3).keep fun z hz o e => kD z (fun q => nD (q ▸ hz)) o e) fun z hz hb => hy.ne z hz (n2 z hb)
      · exact fun h => (List.mem_append.mp h).elim nD bD
      · intro j e' h
        rcases Nat.lt_or_ge j es.length with hj | hj
        · rw [List.getElem?_append_left hj] at h
          exact hR j e' h
        · rw [List.getElem?_append_right hj] at h
          have j0 : j - es.length = 0 := by
            have := (List.getElem?_eq_some_iff.mp h).1
            simp at this
            omega
          rw [j0] at h
          have ej : j = i := by omega
          rw [ej, ← Option.some.inj h]
          exact he
    · rintro H' ⟨ys, es, A, e1, c, B1, hy, nA, nD, le, hR⟩
      exact done D ys es A H' (New.cons hD nA) e1 hy nD le hR B1 c
end

set_option Elab.async false
set_option linter.all false
set_option maxRecDepth 100000
set_option maxHeartbeats 4000000
/-! tuple(text) -/
open PySem PySem.Spec PyProof.Rows L2
def qTupS : List V → Hp → VK → Prop := fun xs H Q => ∃ z : Str, xs = [.str z] ∧ z.cps.size ≤ 1000 ∧ ∀ l, H l = none → Q (.ref l) (upd H l (.tup ((chrs z).map V.str)))
theorem c_tupS {X : Cx} (hc : X.calm = true) : CallR X (.type "tuple") qTupS := by
  intro pins s σ H xs us Q I r h
  obtain ⟨z, rfl, hz, q⟩ := h
  obtain ⟨u, rfl, t, rfl⟩ := vals1 r
  refine call_tuple_str (I.ok.hd hc) z t (fun h' tk acc kp hi => ?_) (by have : (1000 : Nat) ≤ sizeLine := (Nat.le_of_lt (small1000 (Nat.le_refl _))); omega)
  have ln : ((chrs z).map V.str).length ≤ sizeLine := by
    have : (1000 : Nat) ≤ sizeLine := (Nat.le_of_lt (small1000 (Nat.le_refl _)))
    rw [List.length_map, chrs_len]
    omega
  have I1 : Inv X pins σ H { s with heap := h' } := I.kept (t' := s.toks) kp
  have I2 : Inv X pins σ (upd H h'.objs.size (.tup ((chrs z).map V.str))) { s with heap := h'.push { cls := .type "tuple", data := .seq acc }, toks := tk } := by
    have e : acc = acc.toList.toArray := by simp
    refine I1.laid (t' := tk) (fun b o e => Heap.get?_push_of_some _ e) (Nat.le_refl _) (show ObjOk X.prog X.w _ _ _ (.tup ((chrs z).map V.str)) from ⟨ln, acc.toList, vals_chrs hi, ?_⟩)
    rw [← e]
    exact IsTup.new _ _
  exact ⟨.ref h'.objs.size, _, I2, rfl, q _ (I1.hok.fresh (Nat.le_refl _))⟩
theorem g_tupS {H : Hp} {Q : VK} {z : Str} (hz : z.cps.size ≤ 1000) (q : ∀ l, H l = none → Q (.ref l) (upd H l (.tup ((chrs z).map V.str)))) : qTupS [.str z] H Q := ⟨z, rfl, hz, q⟩

set_option Elab.async false
set_option linter.all false
set_option maxRecDepth 100000
set_option maxHeartbeats 4000000
open PySem PySem.Spec L2

local macro_rules | `(tactic| walk_at "s") => `(tactic| first
  | ((with_reducible refine' g_gLst ?k1 ?k2 ?_); (case k1 => walk_at "l"); (case k2 => rfl))
  | ((with_reducible refine' g_methN2 ?k1 ?k2 ?_); (case k1 => walk_at "h"); (case k2 => rfl))
  | ((with_reducible refine' g_methN3 ?k1 ?k2 ?k3 ?_); (case k1 => rfl); (case k2 => rfl); (case k3 => rfl)))


section
variable {P : Program} {w : World} {K : PySem.W.Frag} {mg : Str → Option Value} {base : Heap}
def numD (d : PyData) (l m : Int) : Bool := match d with | .int i => decide (l ≤ i) && decide (i ≤ m) | _ => false
theorem num_dpEq {H : Hp} {x : V} {d : PyData} {l m : Int} (h : Dp K H x d) : isNum x l m = numD d l m := by
  cases h <;> rfl
theorem g_isNumQ {x : V} {d : PyData} {l m : Int} {H : Hp} {Q : VK} {E : XK} (h : Dp K H x d) (q : Q (.bl (numD d l m)) H) : spIsN K [x, .int l, .int m] H Q E := g_isNumD h (by rw [num_dpEq h]; exact q)
/-! _is_list -/
abbrev SpC (K : PySem.W.Frag) : Addr := He.ga K "Split"
abbrev SC (K : PySem.W.Frag) : Addr := He.ga K "Shape"
abbrev shF (a b c d : Int) : List (Str × V) := [("tokens", .int a), ("width", .int b), ("layers", .int c), ("heads", .int d)]
def ShO (K : PySem.W.Frag) (H : Hp) (p : Addr) (a b c d : Int) : Prop := ∃ dx, H p = some (.ins (SC K) dx (shF a b c d))
def spShI (K : PySem.W.Frag) : Sp := fun vs H Q _ => ∃ (p dx : Addr) (a b c d : Int), vs = [.ref p, .int a, .int b, .int c, .int d] ∧ H p = some (.ins (SC K) dx []) ∧ (2 ≤ a ∧ a ≤ 6 ∧ 1 ≤ b ∧ b ≤ 4 ∧ 1 ≤ c ∧ c ≤ 3 ∧ 1 ≤ d ∧ d ≤ 2) ∧
  ∀ H', H' p = some (.ins (SC K) dx (shF a b c d)) → Chg p H H' → Q .non H'
theorem g_isNumY {i l m : Int} {H : Hp} {Q : VK} {E : XK} (h : l ≤ i ∧ i ≤ m) (q : Q (.bl true) H) : spIsN K [.int i, .int l, .int m] H Q E := g_isNumQ (.int i) (by
  show Q (.bl (decide (l ≤ i) && decide (i ≤ m))) H
  rw [decide_eq_true h.1, decide_eq_true h.2]
  exact q)
theorem ok_ShI (T : Top K mg) {f : Addr} {fd : FuncData} (F : FunD K "__init__" "Shape.__init__" (defArgs s_Shape___init__) (defBody s_Shape___init__) (defScope s_Shape___init__) [] [] f fd) : FnOk P w K mg base CX0 2 f fd P_Shape___init__ (spShI K) := by
  have cl_Shape := T.cl_Shape; have na_Shape_tokens := T.na_Shape_tokens; have na_Shape_width := T.na_Shape_width; have na_Shape_layers := T.na_Shape_layers; have na_Shape_heads := T.na_Shape_heads; have in_Shape := T.in_Shape; have ki_o_Shape_o_Shape := T.ki_o_Shape_o_Shape; have nf_Shape_o_Shape := T.nf_Shape_o_Shape; have ki_tuple_o_Shape := T.ki_tuple_o_Shape; have ki_list_o_Shape := T.ki_list_o_Shape; have ki_o_Shape_list := T.ki_o_Shape_list; have ki_o_Shape_tuple := T.ki_o_Shape_tuple
  have C_is_number := c_is_number (P := P) (w := w) (base := base) T
  refine F.ok sc_Shape___init__ (fun vs H Q E h => ?_) (fun cdv A outer s H vs Q E hr h => ?_)
  · obtain ⟨p, dx, a, b, c, d, rfl, _⟩ := h
    rfl
  · obtain ⟨p, dx, a, b, c, d, rfl, hp, hb, q⟩ := h
    refine ⟨_, PSs.nox (pss_cons (ps_set (i := 5) sc_Shape___init__.nd rfl (by first | exact Or.inl rfl | exact Or.inr rfl) (pe_lst (pa_cons (pe_tup (pa_cons pe_str (pa_cons (pv 1) (pa_cons (C8.pe_gc (v := .int 2) (by rfl) T.k_LEAST_TOKENS) (pa_cons (C8.pe_gc (v := .int 6) (by rfl) T.k_MOST_TOKENS) pa_nil))))) (pa_cons (pe_tup (pa_cons pe_str (pa_cons (pv 2) (pa_cons pe_int (pa_cons (C8.pe_gc (v := .int 4) (by rfl) T.k_MOST_WIDTH) pa_nil))))) (pa_cons (pe_tup (pa_cons pe_str (pa_cons (pv 3) (pa_cons pe_int (pa_cons (C8.pe_gc (v := .int 3) (by rfl) T.k_MOST_LAYERS) pa_nil))))) (pa_cons (pe_tup (pa_cons pe_str (pa_cons (pv 4) (pa_cons pe_int (pa_cons (C8.pe_gc (v := .int 2) (by rfl) T.k_MOST_HEADS) pa_nil))))) pa_nil))))))
    (pss_cons (ps_for PassesOwn.never rfl (k_pil (K := K) (by rfl) (pv 5)) (k_pgt (K := K) (n := 4) (by rfl) (by rfl) (pgs_cons (pg_name (i := 6) sc_Shape___init__.nd rfl (by first | exact Or.inl rfl | exact Or.inr rfl)) (pgs_cons (pg_name (i := 7) sc_Shape___init__.nd rfl (by first | exact Or.inl rfl | exact Or.inr rfl)) (pgs_cons (pg_name (i := 8) sc_Shape___init__.nd rfl (by first | exact Or.inl rfl | exact Or.inr rfl)) (pgs_cons (pg_name (i := 9) sc_Shape___init__.nd rfl (by first | exact Or.inl rfl | exact Or.inr rfl)) pgs_nil)))) (by rfl) (by rfl))
    (pss_one (ps_if (pt_not (pt_val (pe_cal C_is_number (hr.mono (by first | decide | omega)) (by rfl) (pa_cons (pv 7) (pa_cons (pv 8) (pa_cons (pv 9) pa_nil))))))
    (pss_one ps_never)
    pss_nil)))
    (pss_cons (k_sfld (K := K) (by rfl) (pv 0) (pv 1) rfl)
    (pss_cons (k_sfld (K := K) (by rfl) (pv 0) (pv 2) rfl)
    (pss_cons (k_sfld (K := K) (by rfl) (pv 0) (pv 3) rfl)
    (pss_one (k_sfld (K := K) (by rfl) (pv 0) (pv 4) rfl))))))), ?_⟩
    try simp only [cxK]
    rw [show L2.start N_Shape___init__ [.ref p, .int a, .int b, .int c, .int d] = [some (.ref p), some (.int a), some (.int b), some (.int c), some (.int d), none, none, none, none, none] from rfl]
    walk_at "go"
    rename_i t1 h1 t2 h2 t3 h3 t4 h4 bl hbl
    have E1 : SqT K (upd (upd (upd (upd (upd H t1 (.tup [.str (Str.ofString "tokens"), .int a, .int 2, .int 6])) t2 (.tup [.str (Str.ofString "width"), .int b, .int 1, .int 4])) t3 (.tup [.str (Str.ofString "layers"), .int c, .int 1, .int 3])) t4 (.tup [.str (Str.ofString "heads"), .int d, .int 1, .int 2])) bl (.lst [.ref t1, .ref t2, .ref t3, .ref t4])) t1 [.str (Str.ofString "tokens"), .int a, .int 2, .int 6] := .of (by walk_at "h")
    have E2 : SqT K (upd (upd (upd (upd (upd H t1 (.tup [.str (Str.ofString "tokens"), .int a, .int 2, .int 6])) t2 (.tup [.str (Str.ofString "width"), .int b, .int 1, .int 4])) t3 (.tup [.str (Str.ofString "layers"), .int c, .int 1, .int 3])) t4 (.tup [.str (Str.ofString "heads"), .int d, .int 1, .int 2])) bl (.lst [.ref t1, .ref t2, .ref t3, .ref t4])) t2 [.str (Str.ofString "width"), .int b, .int 1, .int 4] := .of (by walk_at "h")
    have E3 : SqT K (upd (upd (upd (upd (upd H t1 (.tup [.str (Str.ofString "tokens"), .int a, .int 2, .int 6])) t2 (.tup [.str (Str.ofString "width"), .int b, .int 1, .int 4])) t3 (.tup [.str (Str.ofString "layers"), .int c, .int 1, .int 3])) t4 (.tup [.str (Str.ofString "heads"), .int d, .int 1, .int 2])) bl (.lst [.ref t1, .ref t2, .ref t3, .ref t4])) t3 [.str (Str.ofString "layers"), .int c, .int 1, .int 3] := .of (by walk_at "h")
    have E4 : SqT K (upd (upd (upd (upd (upd H t1 (.tup [.str (Str.ofString "tokens"), .int a, .int 2, .int 6])) t2 (.tup [.str (Str.ofString "width"), .int b, .int 1, .int 4])) t3 (.tup [.str (Str.ofString "layers"), .int c, .int 1, .int 3])) t4 (.tup [.str (Str.ofString "heads"), .int d, .int 1, .int 2])) bl (.lst [.ref t1, .ref t2, .ref t3, .ref t4])) t4 [.str (Str.ofString "heads"), .int d, .int 1, .int 2] := .of (by walk_at "h")
    have E0 : SqL K (upd (upd (upd (upd (upd H t1 (.tup [.str (Str.ofString "tokens"), .int a, .int 2, .int 6])) t2 (.tup [.str (Str.ofString "width"), .int b, .int 1, .int 4])) t3 (.tup [.str (Str.ofString "layers"), .int c, .int 1, .int 3])) t4 (.tup [.str (Str.ofString "heads"), .int d, .int 1, .int 2])) bl (.lst [.ref t1, .ref t2, .ref t3, .ref t4])) bl [.ref t1, .ref t2, .ref t3, .ref t4] := .of upd_same
    have s5 : Same H (upd (upd (upd (upd (upd H t1 (.tup [.str (Str.ofString "tokens"), .int a, .int 2, .int 6])) t2 (.tup [.str (Str.ofString "width"), .int b, .int 1, .int 4])) t3 (.tup [.str (Str.ofString "layers"), .int c, .int 1, .int 3])) t4 (.tup [.str (Str.ofString "heads"), .int d, .int 1, .int 2])) bl (.lst [.ref t1, .ref t2, .ref t3, .ref t4])) :=
      ((((same_new h1).trans (same_new h2)).trans (same_new h3)).trans (same_new h4)).trans (same_new hbl)
    generalize (upd (upd (upd (upd (upd H t1 (.tup [.str (Str.ofString "tokens"), .int a, .int 2, .int 6])) t2 (.tup [.str (Str.ofString "width"), .int b, .int 1, .int 4])) t3 (.tup [.str (Str.ofString "layers"), .int c, .int 1, .int 3])) t4 (.tup [.str (Str.ofString "heads"), .int d, .int 1, .int 2])) bl (.lst [.ref t1, .ref t2, .ref t3, .ref t4])) = H5 at E1 E2 E3 E4 E0 s5 ⊢
    refine forL (xs := [.ref t1, .ref t2, .ref t3, .ref t4]) ⟨fun i σ' H' => ∃ y1 y2 y3 y4, σ' = [some (.ref p), some (.int a), some (.int b), some (.int c), some (.int d), some (.ref bl), y1, y2, y3, y4] ∧ H' = H5, ⟨_, _, _, _, rfl, rfl⟩, ?_, ?_, ?_⟩
    · rintro i σ' H' _ ⟨_, _, _, _, _, e⟩
      rw [e]
      exact E0
    · rintro i x σ' H' hx ⟨y1, y2, y3, y4, rfl, rfl⟩
      rcases i with _ | _ | _ | _ | i
      · obtain rfl := Option.some.inj hx
        walk_at "go"
        refine g_isNumY ⟨by omega, by omega⟩ ?_
        walk_at "go"
        exact ⟨_, _, _, _, rfl, rfl⟩
      · obtain rfl := Option.some.inj hx
        walk_at "go"
        refine g_isNumY ⟨by omega, by omega⟩ ?_
        walk_at "go"
        exact ⟨_, _, _, _, rfl, rfl⟩
      · obtain rfl := Option.some.inj hx
        walk_at "go"
        refine g_isNumY ⟨by omega, by omega⟩ ?_
        walk_at "go"
        exact ⟨_, _, _, _, rfl, rfl⟩
      · obtain rfl := Option.some.inj hx
        walk_at "go"
        refine g_isNumY ⟨by omega, by omega⟩ ?_
        walk_at "go"
        exact ⟨_, _, _, _, rfl, rfl⟩
      · simp at hx
    · rintro σ' H' ⟨y1, y2, y3, y4, rfl, rfl⟩
      have hp5 := s5 _ _ hp
      walk_at "go"
      rw [upd_upd, upd_upd, upd_upd]
      exact q _ upd_same ((sm_chg s5).trans Chg.upd)
theorem m_Shape (T : Top K mg) : MkC P w K mg base (SC K) 2 P_Shape___init__ (spShI K) := by
  obtain ⟨fd, F⟩ := T.f_Shape___init__
  exact ⟨_, fd, T.mk_Shape, ok_ShI T F, (fun F => F.bindsN fun _ _ _ _ _ _ us hl => match us, hl with | [_, _, _, _, _], _ => rfl) F⟩
end

set_option Elab.async false
set_option linter.all false
set_option maxRecDepth 100000
set_option maxHeartbeats 4000000
open PySem PySem.Spec L2



section
variable {P : Program} {w : World} {K : PySem.W.Frag} {mg : Str → Option Value} {base : Heap}
/-! Shape.things -/
abbrev Th := Str × Nat × Nat
def dTh (z : Th) : PyData := .tuple [.str z.1, .int (z.2.1 : Nat), .int (z.2.2 : Nat)]
theorem g_ext {p b : Addr} {xs zs : List V} {H : Hp} {Q : VK} (h : H p = some (.lst xs)) (hb : H b = some (.lst zs)) (hl : xs.length + zs.length ≤ 1000) (q : Q .non (upd H p (.lst (xs ++ zs)))) : rExtend (.ref p) [.ref b] H Q :=
  ⟨p, b, xs, zs, rfl, rfl, h, hb, Nat.le_of_lt (small1000 hl), q⟩
/-- a list of things so far, at D -/
structure LsAt {α : Type} (enc : α → PyData) (K : PySem.W.Frag) (S : Addr → Prop) (H0 : Hp) (D : Addr) (rs : List α) (H' : Hp) : Prop where
  ex : ∃ ys, H' D = some (.lst ys) ∧ DqAll K (SD S D) H' ys (rs.map enc)
  al : Al (SD S D) H'
  kp : Same H0 H'
theorem ls_ext {α : Type} {enc : α → PyData} {S : Addr → Prop} {H0 : Hp} {D R : Addr} {rs us : List α} {H' H2 : Hp} {zs : List V} {Q : VK} (hD : H0 D = none) (h : LsAt enc K S H0 D rs H') (s : Same H' H2) (eR : H2 R = some (.lst zs)) (hz : DqAll K (SD S D) H2 zs (us.map enc)) (l1 : rs.length ≤ 400) (l2 : us.length ≤ 400)
    (q : ∀ H3, LsAt enc K S H0 D (rs ++ us) H3 → ChgS (SD S D) H' H3 → Q .non H3) : rExtend (.ref D) [.ref R] H2 Q := by
  obtain ⟨ys, e, d⟩ := h.ex
  have ly := d.len
  have lz := hz.len
  rw [List.length_map] at ly lz
  refine g_ext (s _ _ e) eR (by omega) ?_
  have cF : ChgS (SD S D) H2 (upd H2 D (.lst (ys ++ zs))) := fun b o n e => by rw [upd_ne (fun z => n (.inr z))]; exact e
  refine q _ ⟨⟨ys ++ zs, upd_same, ?_⟩, (h.al.sm s).go (Go.put (.inr rfl)), fun b o e => by rw [upd_ne (ne_of_none e hD)]; exact s _ _ (h.kp _ _ e)⟩ fun b o n e => cF b o n (s _ _ e)
  rw [List.map_append]
  exact ((d.sm s).chg cF).app (hz.chg cF)
theorem lc_th {S : Addr → Prop} {H : Hp} {z : Str} {l n : Nat} {a0 a1 : Option V} {Q : VK} (al : Al S H) (hn : n ≤ 6)
    (q : ∀ R ys H', H R = none → H' R = some (.lst ys) → DqAll K S H' ys (((List.range n).map fun j => ((z, l, j) : Th)).map dTh) → Same H H' → Q (.ref R) H') :
    LcG (Itr 0 n) (gName 3) tYes (tTup (tCons (tC (.str z)) (tCons (tVar 2) (tCons (tVar 3) tNil)))) [3] [a0, a1, some (.int (l : Nat)), none] Q H := by
  refine lcQR (K := K) (S := S) (os := (((List.range n).map fun j => ((z, l, j) : Th)).map dTh).map some) al (by simp; omega) (by simp) (σ0 := [a0, a1, some (.int (l : Nat)), none]) rfl (fun i o ho => ?_) (fun R ys H2 hR hL hds s2 => ?_)
  · intro D H' N hD s al' tr kk _
    rw [List.getElem?_map, List.getElem?_map, List.getElem?_map] at ho
    have il : i < n := by
      rcases Nat.lt_or_ge i n with c | c
      · exact c
      · rw [List.getElem?_eq_none (by rw [List.length_range]; exact c)] at ho
        cases ho
    rw [List.getElem?_range il] at ho
    obtain rfl := Option.some.inj ho
    walk_at "go"
    rename_i p hp
    rw [Int.zero_add] at *
    exact kk _ rfl _ _ (dq_newT (al'.no hp) upd_same (.cons (.str _) (.cons (.int _) (.cons (.int _) .nil)))) (same_new hp)
  · refine q R ys H2 hR hL ?_ s2
    rw [fm_some] at hds
    exact hds
theorem lc_th0 {S : Addr → Prop} {H : Hp} {z : Str} {n : Nat} {a0 a1 a2 : Option V} {Q : VK} (al : Al S H) (hn : n ≤ 6)
    (q : ∀ R ys H', H R = none → H' R = some (.lst ys) → DqAll K S H' ys (((List.range n).map fun j => ((z, 0, j) : Th)).map dTh) → Same H H' → Q (.ref R) H') :
    LcG (Itr 0 n) (gName 3) tYes (tTup (tCons (tC (.str z)) (tCons (tC (.int 0)) (tCons (tVar 3) tNil)))) [3] [a0, a1, a2, none] Q H := by
  refine lcQR (K := K) (S := S) (os := (((List.range n).map fun j => ((z, 0, j) : Th)).map dTh).map some) al (by simp; omega) (by simp) (σ0 := [a0, a1, a2, none]) rfl (fun i o ho => ?_) (fun R ys H2 hR hL hds s2 => ?_)
  · intro D H' N hD s al' tr kk _
    rw [List.getElem?_map, List.getElem?_map, List.getElem?_map] at ho
    have il : i < n := by
      rcases Nat.lt_or_ge i n with c | c
      · exact c
      · rw [List.getElem?_eq_none (by rw [List.length_range]; exact c)] at ho
        cases ho
    rw [List.getElem?_range il] at ho
    obtain rfl := Option.some.inj ho
    walk_at "go"
    rename_i p hp
    rw [Int.zero_add] at *
    exact kk _ rfl _ _ (dq_newT (al'.no hp) upd_same (.cons (.str _) (.cons (.int _) (.cons (.int _) .nil)))) (same_new hp)
  · refine q R ys H2 hR hL ?_ s2
    rw [fm_some] at hds
    exact hds
def thL (n k l : Nat) : List Th := (List.range k).map (fun j => (Str.ofString "head", l, j)) ++ (List.range n).map (fun j => (Str.ofString "unit", l, j))
def thM (t n m k : Nat) : List Th := (List.range m).flatMap (thL n k) ++ (List.range t).map (fun j => (Str.ofString "out", 0, j))
theorem thL_len (n k l : Nat) : (thL n k l).length = k + n := by unfold thL; simp
theorem th_len (n k : Nat) : ∀ m, ((List.range m).flatMap (thL n k)).length = m * (k + n)
  | 0 => by simp
  | m + 1 => by
    rw [List.range_succ, List.flatMap_append, List.length_append, th_len n k m, Nat.add_mul]
    simp [thL_len]
structure ShB (t n m k : Nat) : Prop where
  t : 2 ≤ t ∧ t ≤ 6
  n : 1 ≤ n ∧ n ≤ 4
  m : 1 ≤ m ∧ m ≤ 3
  k : 1 ≤ k ∧ k ≤ 2
def spThings (K : PySem.W.Frag) : Sp := fun vs H Q _ => ∃ (S : Addr → Prop) (p : Addr) (t n m k : Nat), vs = [.ref p] ∧ ShO K H p (t : Nat) (n : Nat) (m : Nat) (k : Nat) ∧ ShB t n m k ∧ Al S H ∧
  ∀ (R : Addr) (ys : List V) (H' : Hp), H R = none → H' R = some (.lst ys) → DqAll K (SD S R) H' ys ((thM t n m k).map dTh) → Same H H' → Q (.ref R) H'
theorem ok_things (T : Top K mg) {f : Addr} {fd : FuncData} (F : FunD K "things" "Shape.things" (defArgs s_Shape_things) (defBody s_Shape_things) (defScope s_Shape_things) [] [] f fd) : FnOk P w K mg base CX0 1 f fd P_Shape_things (spThings K) := by
  have cl_Shape := T.cl_Shape; have na_Shape_tokens := T.na_Shape_tokens; have na_Shape_width := T.na_Shape_width; have na_Shape_layers := T.na_Shape_layers; have na_Shape_heads := T.na_Shape_heads; have in_Shape := T.in_Shape; have ki_o_Shape_o_Shape := T.ki_o_Shape_o_Shape; have nf_Shape_o_Shape := T.nf_Shape_o_Shape; have ki_tuple_o_Shape := T.ki_tuple_o_Shape; have ki_list_o_Shape := T.ki_list_o_Shape; have ki_o_Shape_list := T.ki_o_Shape_list; have ki_o_Shape_tuple := T.ki_o_Shape_tuple
  refine F.ok sc_Shape_things (fun vs H Q E h => ?_) (fun cdv A outer s H vs Q E hr h => ?_)
  · obtain ⟨S, p, t, n, m, k, rfl, _⟩ := h
    rfl
  · obtain ⟨S, p, t, n, m, k, rfl, ⟨dx, hp⟩, b, al, q⟩ := h
    refine ⟨_, PSs.nox (pss_cons (ps_set (i := 1) sc_Shape_things.nd rfl (by first | exact Or.inl rfl | exact Or.inr rfl) (pe_lst pa_nil))
    (pss_cons (ps_for PassesOwn.never rfl (pi_range1 (by rfl) T.z_range (pa_cons (k_fld (K := K) (by rfl) (pv 0) rfl) pa_nil)) (pg_name (i := 2) sc_Shape_things.nd rfl (by first | exact Or.inl rfl | exact Or.inr rfl))
    (pss_cons (ps_expr (pe_bm PySem.F.plainAttrs_list PySem.F.slot_list_extend PySem.F.type_list_extend mt_extend (pv 1) (pa_cons (pe_lc (own := [("number", 3)]) (g := gName 3) (by rfl) sc_Shape_things.nd (pi_range1 (by rfl) T.z_range (pa_cons (k_fld (K := K) (by rfl) (pv 0) rfl) pa_nil)) (blkOk_by (own := [("number", 3)]) (N := N_Shape_things) (sc := defScope s_Shape_things) (by decide +kernel)) (fun _ _ _ _ _ => pg_name (i := 3) sc_Shape_things.nd rfl (by first | exact Or.inl rfl | exact Or.inr rfl)) (fun _ _ _ _ _ => pts_nil) (fun _ _ _ _ _ => (pe_tup (pa_cons pe_str (pa_cons (pv 2) (pa_cons (pv 3) pa_nil)))))) pa_nil)))
    (pss_one (ps_expr (pe_bm PySem.F.plainAttrs_list PySem.F.slot_list_extend PySem.F.type_list_extend mt_extend (pv 1) (pa_cons (pe_lc (own := [("number", 3)]) (g := gName 3) (by rfl) sc_Shape_things.nd (pi_range1 (by rfl) T.z_range (pa_cons (k_fld (K := K) (by rfl) (pv 0) rfl) pa_nil)) (blkOk_by (own := [("number", 3)]) (N := N_Shape_things) (sc := defScope s_Shape_things) (by decide +kernel)) (fun _ _ _ _ _ => pg_name (i := 3) sc_Shape_things.nd rfl (by first | exact Or.inl rfl | exact Or.inr rfl)) (fun _ _ _ _ _ => pts_nil) (fun _ _ _ _ _ => (pe_tup (pa_cons pe_str (pa_cons (pv 2) (pa_cons (pv 3) pa_nil)))))) pa_nil))))))
    (pss_cons (ps_expr (pe_bm PySem.F.plainAttrs_list PySem.F.slot_list_extend PySem.F.type_list_extend mt_extend (pv 1) (pa_cons (pe_lc (own := [("number", 3)]) (g := gName 3) (by rfl) sc_Shape_things.nd (pi_range1 (by rfl) T.z_range (pa_cons (k_fld (K := K) (by rfl) (pv 0) rfl) pa_nil)) (blkOk_by (own := [("number", 3)]) (N := N_Shape_things) (sc := defScope s_Shape_things) (by decide +kernel)) (fun _ _ _ _ _ => pg_name (i := 3) sc_Shape_things.nd rfl (by first | exact Or.inl rfl | exact Or.inr rfl)) (fun _ _ _ _ _ => pts_nil) (fun _ _ _ _ _ => (pe_tup (pa_cons pe_str (pa_cons pe_int (pa_cons (pv 3) pa_nil)))))) pa_nil)))
    (pss_one (ps_ret (pv 1)))))), ?_⟩
    try simp only [cxK]
    rw [show L2.start N_Shape_things [.ref p] = [some (.ref p), none, none, none] from rfl]
    have bt := b.t; have bn := b.n; have bm := b.m; have bk := b.k
    walk_at "go"
    rename_i D hD
    have R0 : LsAt dTh K S H D [] (upd H D (.lst [])) := ⟨⟨[], upd_same, .nil⟩, al_sd (al.sm (same_new hD)) (by rw [upd_same]; exact fun z => by cases z), same_new hD⟩
    rw [Int.toNat_natCast]
    have mm : ∀ i : Nat, i ≤ m → ((List.range i).flatMap (thL n k)).length ≤ 18 := fun i hi => by
      rw [th_len]
      exact Nat.le_trans (Nat.mul_le_mul (show i ≤ 3 by omega) (show k + n ≤ 6 by omega)) (by decide)
    refine forR ⟨fun i σ' H' => ∃ y2, σ' = [some (.ref p), some (.ref D), y2, none] ∧ i ≤ m ∧ LsAt dTh K S H D ((List.range i).flatMap (thL n k)) H', ⟨_, rfl, Nat.zero_le _, R0⟩, ?_, ?_⟩
    · rintro i σ' H' hi ⟨y2, rfl, _, R1⟩
      have hp1 := R1.kp _ _ hp
      obtain ⟨ys1, eD1, _⟩ := R1.ex
      have mi := mm i (by omega)
      walk_at "go"
      rw [Int.toNat_natCast]
      rw [Int.zero_add]
      refine lc_th (K := K) (z := Str.ofString "head") (l := i) R1.al (by omega) fun Rh yh HA hR eR dR sA => ?_
      have eDA := sA _ _ eD1
      walk_at "go"
      refine ls_ext hD R1 sA eR dR (by omega) (by simp; omega) fun HB RB cB => ?_
      have hpB := RB.kp _ _ hp
      obtain ⟨ysB, eDB, _⟩ := RB.ex
      walk_at "go"
      rw [Int.toNat_natCast]
      refine lc_th (K := K) (z := Str.ofString "unit") (l := i) RB.al (by omega) fun Ru yu HC hR eR dR sC => ?_
      have eDC := sC _ _ eDB
      walk_at "go"
      refine ls_ext hD RB sC eR dR (by simp; simp at mi; omega) (by simp; omega) fun HE RE cE => ?_
      walk_at "go"
      refine ⟨_, rfl, by omega, ?_⟩
      rw [List.range_succ, List.flatMap_append]
      unfold thL at RE ⊢
      simpa using RE
    · rintro σ' H' ⟨y2, rfl, _, R1⟩
      have hp1 := R1.kp _ _ hp
      obtain ⟨ys1, eD1, _⟩ := R1.ex
      walk_at "go"
      rw [Int.toNat_natCast]
      have ml := mm m (Nat.le_refl _)
      refine lc_th0 (K := K) (z := Str.ofString "out") R1.al (by omega) fun Ro yo HA hR eR dR sA => ?_
      have eDA := sA _ _ eD1
      walk_at "go"
      refine ls_ext hD R1 sA eR dR (by omega) (by simp; omega) fun HB RB cB => ?_
      obtain ⟨ysB, eDB, dB⟩ := RB.ex
      walk_at "go"
      exact q D ysB HB hD eDB dB RB.kp
theorem m_things (T : Top K mg) : MCal P w K mg base (SC K) "things" 1 P_Shape_things (spThings K) := mcal_mk T.me_Shape_things T.f_Shape_things (ok_things T) (fun F => F.bindsN fun _ _ _ _ _ _ us hl => match us, hl with | [_], _ => rfl)
end

set_option Elab.async false
set_option linter.all false
set_option maxRecDepth 100000
set_option maxHeartbeats 4000000
open PySem PySem.Spec L2



local macro_rules | `(tactic| walk_at "s") => `(tactic| first
  | ((with_reducible refine' g_ownBin ?k1 ?k2 ?_); (case k1 => walk_at "h"); (case k2 => walk_at "h"))
  | ((with_reducible refine' g_ownUn ?k1 ?_); (case k1 => walk_at "h"))
  | ((with_reducible refine' g_isiO ?k1 ?k2 ?k3 ?k4 ?_); (case k1 => walk_at "h"); (case k2 => (with_reducible assumption)); (case k3 => (with_reducible assumption)); (case k4 => (with_reducible assumption)))
  | ((with_reducible refine' g_isiB ?k1 ?k2 ?_); (case k1 => walk_at "ty"); (case k2 => (with_reducible assumption)))
  | ((with_reducible refine' g_revR ?k1 ?_); (case k1 => walk_at "l"); intro p hp))


section
variable {P : Program} {w : World} {K : PySem.W.Frag} {mg : Str → Option Value} {base : Heap}
/-! is_thing -/
def nth (ds : List PyData) (i : Nat) : PyData := (ds[i]?).getD .none
@[irreducible] def isThL (t n m k : Nat) (ds : List PyData) : Bool := decide (ds.length = 3) && (numD (nth ds 1) 0 2 && (numD (nth ds 2) 0 5 && ((thM t n m k).map dTh).any fun z => PyData.eqv z (.tuple ds)))
theorem isThL_no {t n m k : Nat} {ds : List PyData} (h : ds.length ≠ 3) : isThL t n m k ds = false := by
  unfold isThL
  rw [decide_eq_false h, Bool.false_and]
theorem isThL_3 {t n m k : Nat} {d0 d1 d2 : PyData} : isThL t n m k [d0, d1, d2] = (numD d1 0 2 && (numD d2 0 5 && ((thM t n m k).map dTh).any fun z => PyData.eqv z (.tuple [d0, d1, d2]))) := by
  unfold isThL
  rw [decide_eq_true (show [d0, d1, d2].length = 3 from rfl), Bool.true_and]
  rfl
def isThD (t n m k : Nat) (d : PyData) : Bool := isSeqD d && isThL t n m k (itsD d)
/-- a thing to be asked: data, or an own object -/
def ThX (K : PySem.W.Frag) (S : Addr → Prop) (H : Hp) (x : V) (o : Option PyData) : Prop := match o with
  | some d => Dq K S H x d ∧ d.plain = true ∧ d.depth ≤ 50
  | none => ∃ (p : Addr) (t n m k : Nat), x = .ref p ∧ ShO K H p t n m k
def isThX (t n m k : Nat) (o : Option PyData) : Bool := match o with
  | some d => isThD t n m k d
  | none => false
theorem g_isiO2 {x : V} {tp : Addr} {t : Value} {T1 T2 : String} {H : Hp} {Q : VK} (e : H tp = some (.tup [.ty T1, .ty T2])) (ty : TyX K H x t) (h1 : PySem.W.kitOne K t (.type T1) = some false) (h2 : PySem.W.kitOne K t (.type T2) = some false)
    (h : Q (.bl false) H) : rIsiT K [x, .ref tp] H Q :=
  ⟨x, tp, [.ty T1, .ty T2], t, [.type T1, .type T2], false, rfl, e, .cons (.ty _) (.cons (.ty _) .nil), ty, kitAny_cons h1 (fun _ => kitAny_cons h2 (fun _ => kitAny_nil) fun z => z) fun z => (Bool.false_ne_true z).elim, h⟩
theorem len_3 {ds : List PyData} (h : ds.length = 3) : ∃ d0 d1 d2, ds = [d0, d1, d2] := match ds, h with
  | [d0, d1, d2], _ => ⟨d0, d1, d2, rfl⟩
theorem dqAll_3 {S : Addr → Prop} {H : Hp} {xs : List V} {d0 d1 d2 : PyData} (h : DqAll K S H xs [d0, d1, d2]) : ∃ v0 v1 v2, xs = [v0, v1, v2] ∧ Dq K S H v0 d0 ∧ Dq K S H v1 d1 ∧ Dq K S H v2 d2 := match xs, h with
  | [v0, v1, v2], .cons e0 (.cons e1 (.cons e2 .nil)) => ⟨v0, v1, v2, rfl, e0, e1, e2⟩
theorem plain_th : ∀ l : List Th, PyData.plainAll (l.map dTh) = true
  | [] => rfl
  | a :: l => by
    show (PyData.plain (dTh a) && PyData.plainAll (l.map dTh)) = true
    rw [plain_th l]
    rfl
def spIsT (K : PySem.W.Frag) : Sp := fun vs H Q _ => ∃ (S : Addr → Prop) (p : Addr) (t n m k : Nat) (x : V) (o : Option PyData), vs = [.ref p, x] ∧ ShO K H p (t : Nat) (n : Nat) (m : Nat) (k : Nat) ∧ ShB t n m k ∧ Al S H ∧ ThX K S H x o ∧
  ∀ H', Same H H' → Q (.bl (isThX t n m k o)) H'
theorem ok_is_thing (T : Top K mg) {f : Addr} {fd : FuncData} (F : FnP K "is_thing" s_is_thing f fd) : FnOk P w K mg base CX0 2 f fd P_is_thing (spIsT K) := by
  have cl_Shape := T.cl_Shape; have na_Shape_tokens := T.na_Shape_tokens; have na_Shape_width := T.na_Shape_width; have na_Shape_layers := T.na_Shape_layers; have na_Shape_heads := T.na_Shape_heads; have in_Shape := T.in_Shape; have ki_o_Shape_o_Shape := T.ki_o_Shape_o_Shape; have nf_Shape_o_Shape := T.nf_Shape_o_Shape; have ki_tuple_o_Shape := T.ki_tuple_o_Shape; have ki_list_o_Shape := T.ki_list_o_Shape; have ki_o_Shape_list := T.ki_o_Shape_list; have ki_o_Shape_tuple := T.ki_o_Shape_tuple
  have MC_Shape_things := m_things (P := P) (w := w) (base := base) T
  have C_is_number := c_is_number (P := P) (w := w) (base := base) T
  refine F.ok sc_is_thing (fun vs H Q E h => ?_) (fun cdv A outer s H vs Q E hr h => ?_)
  · obtain ⟨S, p, t, n, m, k, x, o, rfl, _⟩ := h
    rfl
  · obtain ⟨S, p, t, n, m, k, x, o, rfl, ⟨dxp, hp⟩, hb, al, hx, q⟩ := h
    cases o with
    | none =>
      refine ⟨_, PSs.nox (pss_cons (ps_if (PW.pt (pw_or (pt_not (pt_val (pe_callB (k_isiT (K := K) (by rfl)) (by rfl) T.z_isinstance (by decide +kernel) (pa_cons (pv 1) (pa_cons (pe_tup (pa_cons (pe_bltn (v := .ty "list") (u := .type "list") (by rfl) T.z_list (by decide +kernel) rfl) (pa_cons (pe_bltn (v := .ty "tuple") (u := .type "tuple") (by rfl) T.z_tuple (by decide +kernel) rfl) pa_nil))) pa_nil))))) (pw_or1 (pt_cmpR op_ne (pe_callB (k_len (K := K) (by rfl)) (by rfl) T.z_len (by decide +kernel) (pa_cons (pv 1) pa_nil)) (C8.pe_gc (v := .int 3) (by rfl) T.k_THING_ITEMS) (nomark _)))))
    (pss_one (ps_ret pe_bl))
    pss_nil)
    (pss_cons (ps_asg (pv 1) (k_pgt (K := K) (n := 3) (by rfl) (by rfl) (pgs_cons (pg_name (i := 2) sc_is_thing.nd rfl (by first | exact Or.inl rfl | exact Or.inr rfl)) (pgs_cons (pg_name (i := 3) sc_is_thing.nd rfl (by first | exact Or.inl rfl | exact Or.inr rfl)) (pgs_cons (pg_name (i := 4) sc_is_thing.nd rfl (by first | exact Or.inl rfl | exact Or.inr rfl)) pgs_nil))) (by rfl) (by rfl)))
    (pss_cons (ps_if (PW.pt (pw_or (pt_not (pt_val (pe_cal C_is_number (hr.mono (by first | decide | omega)) (by rfl) (pa_cons (pv 3) (pa_cons pe_int (pa_cons (pe_op op_sub (C8.pe_gc (v := .int 3) (by rfl) T.k_MOST_LAYERS) pe_int) pa_nil)))))) (pw_or1 (pt_not (pt_val (pe_cal C_is_number (hr.mono (by first | decide | omega)) (by rfl) (pa_cons (pv 4) (pa_cons pe_int (pa_cons (pe_op op_sub (C8.pe_gc (v := .int 6) (by rfl) T.k_MOST_TOKENS) pe_int) pa_nil)))))))))
    (pss_one (ps_ret pe_bl))
    pss_nil)
    (pss_one (ps_ret (pe_cmpR (op_inP (K := K) (by rfl) hr.units) (pe_tup (pa_cons (pv 2) (pa_cons (pv 3) (pa_cons (pv 4) pa_nil)))) (pe_mcal0 (pv 0) T.cl_Shape MC_Shape_things (hr.mono (by first | decide | omega))) (by first | rfl | exact nomark _))))))), ?_⟩
      try simp only [cxK]
      rw [show L2.start N_is_thing [.ref p, x] = [some (.ref p), some x, none, none, none] from rfl]
      obtain ⟨pp, t2, n2, m2, k2, rfl, ⟨dx, hpp⟩⟩ := hx
      walk_at "go"
      refine g_isiO2 upd_same (in_Shape.ty cl_Shape (by walk_at "h")) T.ki_o_Shape_list T.ki_o_Shape_tuple ?_
      walk_at "go"
      exact q _ (same_new (by assumption))
    | some d =>
      obtain ⟨hd, pl, dp⟩ := hx
      cases d with
      | list ds =>
        refine ⟨_, PSs.nox (pss_cons (ps_if (PW.pt (pw_or (pt_not (pt_val (pe_callB (k_isiT (K := K) (by rfl)) (by rfl) T.z_isinstance (by decide +kernel) (pa_cons (pv 1) (pa_cons (pe_tup (pa_cons (pe_bltn (v := .ty "list") (u := .type "list") (by rfl) T.z_list (by decide +kernel) rfl) (pa_cons (pe_bltn (v := .ty "tuple") (u := .type "tuple") (by rfl) T.z_tuple (by decide +kernel) rfl) pa_nil))) pa_nil))))) (pw_or1 (pt_cmpR op_ne (pe_callB (k_len (K := K) (by rfl)) (by rfl) T.z_len (by decide +kernel) (pa_cons (pv 1) pa_nil)) (C8.pe_gc (v := .int 3) (by rfl) T.k_THING_ITEMS) (nomark _)))))
    (pss_one (ps_ret pe_bl))
    pss_nil)
    (pss_cons (ps_asg (pv 1) (k_pgl (K := K) (n := 3) (by rfl) (by rfl) (pgs_cons (pg_name (i := 2) sc_is_thing.nd rfl (by first | exact Or.inl rfl | exact Or.inr rfl)) (pgs_cons (pg_name (i := 3) sc_is_thing.nd rfl (by first | exact Or.inl rfl | exact Or.inr rfl)) (pgs_cons (pg_name (i := 4) sc_is_thing.nd rfl (by first | exact Or.inl rfl | exact Or.inr rfl)) pgs_nil))) (by rfl) (by rfl)))
    (pss_cons (ps_if (PW.pt (pw_or (pt_not (pt_val (pe_cal C_is_number (hr.mono (by first | decide | omega)) (by rfl) (pa_cons (pv 3) (pa_cons pe_int (pa_cons (pe_op op_sub (C8.pe_gc (v := .int 3) (by rfl) T.k_MOST_LAYERS) pe_int) pa_nil)))))) (pw_or1 (pt_not (pt_val (pe_cal C_is_number (hr.mono (by first | decide | omega)) (by rfl) (pa_cons (pv 4) (pa_cons pe_int (pa_cons (pe_op op_sub (C8.pe_gc (v := .int 6) (by rfl) T.k_MOST_TOKENS) pe_int) pa_nil)))))))))
    (pss_one (ps_ret pe_bl))
    pss_nil)
    (pss_one (ps_ret (pe_cmpR (op_inP (K := K) (by rfl) hr.units) (pe_tup (pa_cons (pv 2) (pa_cons (pv 3) (pa_cons (pv 4) pa_nil)))) (pe_mcal0 (pv 0) T.cl_Shape MC_Shape_things (hr.mono (by first | decide | omega))) (by first | rfl | exact nomark _))))))), ?_⟩
        try simp only [cxK]
        have hd0 := hd
        obtain ⟨b, xs, rfl, hq, hs, _⟩ := hd.list_inv
        rw [show L2.start N_is_thing [.ref p, .ref b] = [some (.ref p), some (.ref b), none, none, none] from rfl]
        have ln := hs.len
        walk_at "go"
        rename_i p1 hp1
        have s1 : Same H (upd H p1 (.tup [.ty "list", .ty "tuple"])) := same_new hp1
        have hq1 : SqL K (upd H p1 (.tup [.ty "list", .ty "tuple"])) b xs := SqL.of (s1 _ _ hq)
        by_cases h1 : ds.length = 3
        · rw [if_neg (by rw [decide_eq_true (by omega)]; decide)]
          obtain ⟨d0, d1, d2, rfl⟩ := len_3 h1
          obtain ⟨v0, v1, v2, rfl, e0, e1, e2⟩ := dqAll_3 hs
          · have eI : isThX t n m k (some (.list [d0, d1, d2])) = (numD d1 0 2 && (numD d2 0 5 && ((thM t n m k).map dTh).any fun z => PyData.eqv z (.tuple [d0, d1, d2]))) := by
              rw [← isThL_3]
              rfl
            walk_at "go"
            refine g_isNumQ ((e1.sm s1).dp) ?_
            cases n1 : numD d1 0 2 with
            | false =>
              rw [n1, Bool.false_and] at eI; rw [show numD d1 0 (3 - 1) = false from n1]
              rw [eI] at q
              walk_at "go"
              exact q _ s1
            | true =>
              rw [n1, Bool.true_and] at eI; rw [show numD d1 0 (3 - 1) = true from n1]
              walk_at "go"
              refine g_isNumQ ((e2.sm s1).dp) ?_
              cases n2 : numD d2 0 5 with
              | false =>
                rw [n2, Bool.false_and] at eI; rw [show numD d2 0 (6 - 1) = false from n2]
                rw [eI] at q
                walk_at "go"
                exact q _ s1
              | true =>
                rw [n2, Bool.true_and] at eI; rw [show numD d2 0 (6 - 1) = true from n2]
                rw [eI] at q
                walk_at "go"
                rename_i p2 hp2
                have s2 := same_new hp2 (o := .tup [v0, v1, v2])
                refine ⟨S, p, t, n, m, k, rfl, ⟨_, s2 _ _ (s1 _ _ hp)⟩, hb, (al.sm s1).sm s2, fun R ys H' hR eR hy s3 => ?_⟩
                have ed : Dq K S H' (.ref p2) (.tuple [d0, d1, d2]) := dq_newT ((al.sm s1).no hp2) (s3 _ _ upd_same) (.cons (((e0.sm s1).sm s2).sm s3) (.cons (((e1.sm s1).sm s2).sm s3) (.cons (((e2.sm s1).sm s2).sm s3) .nil)))
                refine g_inP ed.dp (.inl (.lst (.of eR) hy.dp)) pl (plain_th _) (Nat.le_trans (show (PyData.tuple [d0, d1, d2]).depth ≤ 50 from dp) (by decide)) ?_
                rw [Bool.false_xor]
                exact q _ ((s1.trans s2).trans s3)
        · have e : isThX t n m k (some (.list ds)) = false := isThL_no h1
          rw [e] at q
          rw [if_pos (by rw [decide_eq_false (by omega)]; rfl)]
          walk_at "go"
          exact q _ s1
      | tuple ds =>
        refine ⟨_, PSs.nox (pss_cons (ps_if (PW.pt (pw_or (pt_not (pt_val (pe_callB (k_isiT (K := K) (by rfl)) (by rfl) T.z_isinstance (by decide +kernel) (pa_cons (pv 1) (pa_cons (pe_tup (pa_cons (pe_bltn (v := .ty "list") (u := .type "list") (by rfl) T.z_list (by decide +kernel) rfl) (pa_cons (pe_bltn (v := .ty "tuple") (u := .type "tuple") (by rfl) T.z_tuple (by decide +kernel) rfl) pa_nil))) pa_nil))))) (pw_or1 (pt_cmpR op_ne (pe_callB (k_len (K := K) (by rfl)) (by rfl) T.z_len (by decide +kernel) (pa_cons (pv 1) pa_nil)) (C8.pe_gc (v := .int 3) (by rfl) T.k_THING_ITEMS) (nomark _)))))
    (pss_one (ps_ret pe_bl))
    pss_nil)
    (pss_cons (ps_asg (pv 1) (k_pgt (K := K) (n := 3) (by rfl) (by rfl) (pgs_cons (pg_name (i := 2) sc_is_thing.nd rfl (by first | exact Or.inl rfl | exact Or.inr rfl)) (pgs_cons (pg_name (i := 3) sc_is_thing.nd rfl (by first | exact Or.inl rfl | exact Or.inr rfl)) (pgs_cons (pg_name (i := 4) sc_is_thing.nd rfl (by first | exact Or.inl rfl | exact Or.inr rfl)) pgs_nil))) (by rfl) (by rfl)))
    (pss_cons (ps_if (PW.pt (pw_or (pt_not (pt_val (pe_cal C_is_number (hr.mono (by first | decide | omega)) (by rfl) (pa_cons (pv 3) (pa_cons pe_int (pa_cons (pe_op op_sub (C8.pe_gc (v := .int 3) (by rfl) T.k_MOST_LAYERS) pe_int) pa_nil)))))) (pw_or1 (pt_not (pt_val (pe_cal C_is_number (hr.mono (by first | decide | omega)) (by rfl) (pa_cons (pv 4) (pa_cons pe_int (pa_cons (pe_op op_sub (C8.pe_gc (v := .int 6) (by rfl) T.k_MOST_TOKENS) pe_int) pa_nil)))))))))
    (pss_one (ps_ret pe_bl))
    pss_nil)
    (pss_one (ps_ret (pe_cmpR (op_inP (K := K) (by rfl) hr.units) (pe_tup (pa_cons (pv 2) (pa_cons (pv 3) (pa_cons (pv 4) pa_nil)))) (pe_mcal0 (pv 0) T.cl_Shape MC_Shape_things (hr.mono (by first | decide | omega))) (by first | rfl | exact nomark _))))))), ?_⟩
        try simp only [cxK]
        have hd0 := hd
        obtain ⟨b, xs, rfl, hq, hs⟩ := hd.tup_inv2
        rw [show L2.start N_is_thing [.ref p, .ref b] = [some (.ref p), some (.ref b), none, none, none] from rfl]
        have ln := hs.len
        walk_at "go"
        rename_i p1 hp1
        have s1 : Same H (upd H p1 (.tup [.ty "list", .ty "tuple"])) := same_new hp1
        refine g_isSeq (hd0.sm s1).dp upd_same ?_
        rw [show isSeqD (PyData.tuple ds) = true from rfl]
        have hq1 : SqT K (upd H p1 (.tup [.ty "list", .ty "tuple"])) b xs := hq _ fun b o _ e => s1 b o e
        walk_at "go"
        by_cases h1 : ds.length = 3
        · rw [if_neg (by rw [decide_eq_true (by omega)]; decide)]
          obtain ⟨d0, d1, d2, rfl⟩ := len_3 h1
          obtain ⟨v0, v1, v2, rfl, e0, e1, e2⟩ := dqAll_3 hs
          · have eI : isThX t n m k (some (.tuple [d0, d1, d2])) = (numD d1 0 2 && (numD d2 0 5 && ((thM t n m k).map dTh).any fun z => PyData.eqv z (.tuple [d0, d1, d2]))) := by
              rw [← isThL_3]
              rfl
            walk_at "go"
            refine g_isNumQ ((e1.sm s1).dp) ?_
            cases n1 : numD d1 0 2 with
            | false =>
              rw [n1, Bool.false_and] at eI; rw [show numD d1 0 (3 - 1) = false from n1]
              rw [eI] at q
              walk_at "go"
              exact q _ s1
            | true =>
              rw [n1, Bool.true_and] at eI; rw [show numD d1 0 (3 - 1) = true from n1]
              walk_at "go"
              refine g_isNumQ ((e2.sm s1).dp) ?_
              cases n2 : numD d2 0 5 with
              | false =>
                rw [n2, Bool.false_and] at eI; rw [show numD d2 0 (6 - 1) = false from n2]
                rw [eI] at q
                walk_at "go"
                exact q _ s1
              | true =>
                rw [n2, Bool.true_and] at eI; rw [show numD d2 0 (6 - 1) = true from n2]
                rw [eI] at q
                walk_at "go"
                rename_i p2 hp2
                have s2 := same_new hp2 (o := .tup [v0, v1, v2])
                refine ⟨S, p, t, n, m, k, rfl, ⟨_, s2 _ _ (s1 _ _ hp)⟩, hb, (al.sm s1).sm s2, fun R ys H' hR eR hy s3 => ?_⟩
                have ed : Dq K S H' (.ref p2) (.tuple [d0, d1, d2]) := dq_newT ((al.sm s1).no hp2) (s3 _ _ upd_same) (.cons (((e0.sm s1).sm s2).sm s3) (.cons (((e1.sm s1).sm s2).sm s3) (.cons (((e2.sm s1).sm s2).sm s3) .nil)))
                refine g_inP ed.dp (.inl (.lst (.of eR) hy.dp)) pl (plain_th _) (Nat.le_trans (show (PyData.tuple [d0, d1, d2]).depth ≤ 50 from dp) (by decide)) ?_
                rw [Bool.false_xor]
                exact q _ ((s1.trans s2).trans s3)
        · have e : isThX t n m k (some (.tuple ds)) = false := isThL_no h1
          rw [e] at q
          rw [if_pos (by rw [decide_eq_false (by omega)]; rfl)]
          walk_at "go"
          exact q _ s1
      | _ =>
        refine ⟨_, PSs.nox (pss_cons (ps_if (PW.pt (pw_or (pt_not (pt_val (pe_callB (k_isiT (K := K) (by rfl)) (by rfl) T.z_isinstance (by decide +kernel) (pa_cons (pv 1) (pa_cons (pe_tup (pa_cons (pe_bltn (v := .ty "list") (u := .type "list") (by rfl) T.z_list (by decide +kernel) rfl) (pa_cons (pe_bltn (v := .ty "tuple") (u := .type "tuple") (by rfl) T.z_tuple (by decide +kernel) rfl) pa_nil))) pa_nil))))) (pw_or1 (pt_cmpR op_ne (pe_callB (k_len (K := K) (by rfl)) (by rfl) T.z_len (by decide +kernel) (pa_cons (pv 1) pa_nil)) (C8.pe_gc (v := .int 3) (by rfl) T.k_THING_ITEMS) (nomark _)))))
    (pss_one (ps_ret pe_bl))
    pss_nil)
    (pss_cons (ps_asg (pv 1) (k_pgt (K := K) (n := 3) (by rfl) (by rfl) (pgs_cons (pg_name (i := 2) sc_is_thing.nd rfl (by first | exact Or.inl rfl | exact Or.inr rfl)) (pgs_cons (pg_name (i := 3) sc_is_thing.nd rfl (by first | exact Or.inl rfl | exact Or.inr rfl)) (pgs_cons (pg_name (i := 4) sc_is_thing.nd rfl (by first | exact Or.inl rfl | exact Or.inr rfl)) pgs_nil))) (by rfl) (by rfl)))
    (pss_cons (ps_if (PW.pt (pw_or (pt_not (pt_val (pe_cal C_is_number (hr.mono (by first | decide | omega)) (by rfl) (pa_cons (pv 3) (pa_cons pe_int (pa_cons (pe_op op_sub (C8.pe_gc (v := .int 3) (by rfl) T.k_MOST_LAYERS) pe_int) pa_nil)))))) (pw_or1 (pt_not (pt_val (pe_cal C_is_number (hr.mono (by first | decide | omega)) (by rfl) (pa_cons (pv 4) (pa_cons pe_int (pa_cons (pe_op op_sub (C8.pe_gc (v := .int 6) (by rfl) T.k_MOST_TOKENS) pe_int) pa_nil)))))))))
    (pss_one (ps_ret pe_bl))
    pss_nil)
    (pss_one (ps_ret (pe_cmpR (op_inP (K := K) (by rfl) hr.units) (pe_tup (pa_cons (pv 2) (pa_cons (pv 3) (pa_cons (pv 4) pa_nil)))) (pe_mcal0 (pv 0) T.cl_Shape MC_Shape_things (hr.mono (by first | decide | omega))) (by first | rfl | exact nomark _))))))), ?_⟩
        try simp only [cxK]
        rw [show L2.start N_is_thing [.ref p, x] = [some (.ref p), some x, none, none, none] from rfl]
        first
        | (cases hd; walk_at "go"; exact q _ (same_new (by assumption)))
        | cases hd
theorem c_isT (T : Top K mg) : Cal P w K mg base "is_thing" 2 P_is_thing (spIsT K) := cal_mk T.f_is_thing (ok_is_thing T) (fun F => F.bindsN fun _ _ _ _ _ _ us hl => match us, hl with | [_, _], _ => rfl)
theorem kc_is_thing_0_value_shape (T : Top K mg) : KCal P w K mg base "is_thing" 2 0 ["value", "shape"] (fun vs zs => pick [(2, 1), (2, 0)] vs [] zs) (spIsT K) := kcal_mk (ps := P_is_thing) T.f_is_thing (ok_is_thing T) (fun F => kbindsN F 0 ["value", "shape"] [(2, 1), (2, 0)] fun _ _ _ _ _ _ us ws l1 l2 => match us, ws, l1, l2 with | [], [_, _], _, _ => rfl)
end

set_option Elab.async false
set_option linter.all false
set_option maxRecDepth 100000
set_option maxHeartbeats 4000000
open PySem PySem.Spec L2





section
variable {P : Program} {w : World} {K : PySem.W.Frag} {mg : Str → Option Value} {base : Heap}
/-! _things_of -/
def tupD (d : PyData) : PyData := .tuple (itsD d)
def tofD (d : PyData) : PyData := .tuple ((itsD d).map tupD)
/-- a machine: a list or tuple of lists or tuples, all of them short -/
def MacD (d : PyData) : Prop := isSeqD d = true ∧ (itsD d).length ≤ 1000 ∧ ∀ e ∈ itsD d, isSeqD e = true ∧ (itsD e).length ≤ 1000
def spTof (K : PySem.W.Frag) : Sp := fun vs H Q _ => ∃ (S : Addr → Prop) (x : V) (d : PyData), vs = [x] ∧ Dq K S H x d ∧ MacD d ∧ Al S H ∧ ∀ (y : V) (H' : Hp), Dq K S H' y (tofD d) → Same H H' → Q y H'
theorem ok_tof (T : Top K mg) {f : Addr} {fd : FuncData} (F : FnP K "_things_of" s__things_of f fd) : FnOk P w K mg base CX0 1 f fd P__things_of (spTof K) := by
  refine F.ok sc__things_of (fun vs H Q E h => ?_) (fun cdv A outer s H vs Q E hr h => ?_)
  · obtain ⟨S, x, d, rfl, _⟩ := h
    rfl
  · obtain ⟨S, x, d, rfl, hx, ⟨m1, m2, m3⟩, al, q⟩ := h
    refine ⟨_, PSs.nox (pss_one (ps_ret (pe_callTy (k_tupleB (K := K) (by rfl)) (by rfl) T.z_tuple (by decide +kernel) (pa_cons (pe_lc (own := [("thing", 1)]) (g := gName 1) (by rfl) sc__things_of.nd (k_piB (K := K) (by rfl) (pv 0)) (blkOk_by (own := [("thing", 1)]) (N := N__things_of) (sc := defScope s__things_of) (by decide +kernel)) (fun _ _ _ _ _ => pg_name (i := 1) sc__things_of.nd rfl (by first | exact Or.inl rfl | exact Or.inr rfl)) (fun _ _ _ _ _ => pts_nil) (fun _ _ _ _ _ => (pe_callTy (k_tupleB (K := K) (by rfl)) (by rfl) T.z_tuple (by decide +kernel) (pa_cons (pv 1) pa_nil)))) pa_nil)))), ?_⟩
    try simp only [cxK]
    obtain ⟨b, xs, rfl, c, hs⟩ := hx.sq m1
    rw [show L2.start N__things_of [.ref b] = [some (.ref b), none] from rfl]
    walk_at "go"
    refine lcFn (f := tupD) c hs al m2 (σ0 := [some (.ref b), none]) rfl (fun i x d D H' N hd hm hD s1 hal hq tr k => ?_) (fun p ys H' h1 h2 h3 h4 => ?_)
    · walk_at "go"
      obtain ⟨n1, n2⟩ := m3 _ hm
      cases d with
      | list ds =>
        obtain ⟨b2, zs, rfl, hb2, hds, _⟩ := hq.list_inv
        refine g_tupBL (.of hb2) fun t ht => ?_
        exact k _ _ (dq_newT (hal.no ht) upd_same (hds.sm (same_new ht))) (same_new ht)
      | tuple ds =>
        obtain ⟨b2, zs, rfl, hb2, hds⟩ := hq.tup_inv
        exact g_tupBT hb2 (k _ _ hq fun _ _ e => e)
      | _ => cases n1
    · walk_at "go"
      refine g_tupBL (.of h2) fun t ht => ?_
      exact q _ _ (dq_newT ((al.sm h4).no ht) upd_same (h3.sm (same_new ht))) (h4.trans (same_new ht))
theorem c_tof (T : Top K mg) : Cal P w K mg base "_things_of" 1 P__things_of (spTof K) := cal_mk T.f__things_of (ok_tof T) (fun F => F.bindsN fun _ _ _ _ _ _ us hl => match us, hl with | [_], _ => rfl)
/-! wrong_thing -/
def itemsD (d : PyData) : List PyData := (itsD d).flatMap fun e => (itsD e).map tupD
def nonOr (o : Option Th) : PyData := match o with
  | some z => dTh z
  | none => .none
def cntD (d : PyData) (z : Th) : Nat := (itemsD d).countP fun y => PyData.eqv y (dTh z)
def wrongM (t n m k : Nat) (d : PyData) : Option Th := (thM t n m k).find? fun z => decide (cntD d z ≠ 1)
/-- machines: few, each a list or tuple of few things or other plain data -/
structure MasD (d : PyData) : Prop where
  seq : isSeqD d = true
  few : (itsD d).length ≤ 10
  mac : ∀ e ∈ itsD d, MacD e ∧ (itsD e).length ≤ 80
  pln : d.plain = true
theorem flat_len {α β : Type} {f : α → List β} {c : Nat} : ∀ {l : List α}, (∀ e ∈ l, (f e).length ≤ c) → (l.flatMap f).length ≤ l.length * c
  | [], _ => Nat.zero_le _
  | a :: l, h => by
    have h1 := h a (List.mem_cons_self ..)
    have h2 := flat_len (l := l) fun e he => h e (List.mem_cons_of_mem _ he)
    rw [List.flatMap_cons, List.length_append, List.length_cons, Nat.succ_mul]
    omega
theorem plain_its {d : PyData} (h : d.plain = true) : PyData.plainAll (itsD d) = true := by
  cases d with
  | list ds => exact h
  | tuple ds => exact h
  | _ => rfl
theorem plainAll_mem : ∀ {ds : List PyData} {e : PyData}, PyData.plainAll ds = true → e ∈ ds → e.plain = true
  | a :: l, e, h, m => by
    have h : (PyData.plain a && PyData.plainAll l) = true := h
    rw [Bool.and_eq_true] at h
    rcases List.mem_cons.mp m with rfl | m
    · exact h.1
    · exact plainAll_mem h.2 m
theorem plainAll_of : ∀ {ds : List PyData}, (∀ e ∈ ds, e.plain = true) → PyData.plainAll ds = true
  | [], _ => rfl
  | a :: l, h => by
    show (PyData.plain a && PyData.plainAll l) = true
    rw [h a (List.mem_cons_self ..), plainAll_of fun e he => h e (List.mem_cons_of_mem _ he)]
    rfl
theorem items_plain {d : PyData} (h : d.plain = true) : PyData.plainAll (itemsD d) = true := by
  refine plainAll_of fun y hy => ?_
  obtain ⟨e, he, hy⟩ := List.mem_flatMap.mp hy
  obtain ⟨z, hz, rfl⟩ := List.mem_map.mp hy
  exact plain_its (plainAll_mem (plain_its (plainAll_mem (plain_its h) he)) hz)
theorem dTh_depth (z : Th) : (dTh z).depth ≤ 60 := by simp [dTh, PyData.depth, PyData.depthAll]
def spWth (K : PySem.W.Frag) : Sp := fun vs H Q _ => ∃ (S : Addr → Prop) (p : Addr) (t n m k : Nat) (x : V) (d : PyData), vs = [.ref p, x] ∧ ShO K H p (t : Nat) (n : Nat) (m : Nat) (k : Nat) ∧ ShB t n m k ∧ Al S H ∧ Dq K S H x d ∧ MasD d ∧
  ∀ (y : V) (H' : Hp), Dq K S H' y (nonOr (wrongM t n m k d)) → Same H H' → Q y H'
theorem ok_wrong_thing (T : Top K mg) {f : Addr} {fd : FuncData} (F : FnP K "wrong_thing" s_wrong_thing f fd) : FnOk P w K mg base CX0 2 f fd P_wrong_thing (spWth K) := by
  have cl_Shape := T.cl_Shape; have na_Shape_tokens := T.na_Shape_tokens; have na_Shape_width := T.na_Shape_width; have na_Shape_layers := T.na_Shape_layers; have na_Shape_heads := T.na_Shape_heads; have in_Shape := T.in_Shape; have ki_o_Shape_o_Shape := T.ki_o_Shape_o_Shape; have nf_Shape_o_Shape := T.nf_Shape_o_Shape; have ki_tuple_o_Shape := T.ki_tuple_o_Shape; have ki_list_o_Shape := T.ki_list_o_Shape; have ki_o_Shape_list := T.ki_o_Shape_list; have ki_o_Shape_tuple := T.ki_o_Shape_tuple
  have MC_Shape_things := m_things (P := P) (w := w) (base := base) T
  have C__things_of := c_tof (P := P) (w := w) (base := base) T
  refine F.ok sc_wrong_thing (fun vs H Q E h => ?_) (fun cdv A outer s H vs Q E hr h => ?_)
  · obtain ⟨S, p, t, n, m, k, x, d, rfl, _⟩ := h
    rfl
  · obtain ⟨S, p, t, n, m, k, x, d, rfl, ⟨dxp, hp⟩, hb, al, hx, md, q⟩ := h
    refine ⟨_, PSs.nox (pss_cons (ps_setLc2 (i := 2) (own := [("machine", 3), ("thing", 4)]) (g := gName 3) (g1 := gName 4) (vs1 := [4]) (by rfl) sc_wrong_thing.nd rfl rfl (sw_true rfl rfl rfl (by decide +kernel)) (k_piB (K := K) (by rfl) (pv 1)) (blkOk_by (own := [("machine", 3), ("thing", 4)]) (N := N_wrong_thing) (sc := defScope s_wrong_thing) (by decide +kernel)) (by decide) (fun _ _ _ _ _ => pg_name (i := 3) sc_wrong_thing.nd rfl (by first | exact Or.inl rfl | exact Or.inr rfl)) (fun _ _ _ _ _ => pts_nil) (fun _ _ _ _ _ => (k_pit (K := K) (by rfl) (pe_cal C__things_of (hr.mono (by first | decide | omega)) (by rfl) (pa_cons (pv 3) pa_nil)))) (fun _ _ _ _ _ => pg_name (i := 4) sc_wrong_thing.nd rfl (by first | exact Or.inl rfl | exact Or.inr rfl)) (fun _ _ _ _ _ => pts_nil) (fun _ _ _ _ _ => (pv 4)))
    (pss_cons (ps_for PassesOwn.never rfl (k_pil (K := K) (by rfl) (pe_mcal0 (pv 0) T.cl_Shape MC_Shape_things (hr.mono (by first | decide | omega)))) (pg_name (i := 4) sc_wrong_thing.nd rfl (by first | exact Or.inl rfl | exact Or.inr rfl))
    (pss_one (ps_if (pt_cmpR op_ne (k_bm (K := K) (by rfl) PySem.F.plainAttrs_list PySem.F.slot_list_count PySem.F.type_list_count (mt_countP (K := K) (by rfl) hr.units) (pv 2) (pa_cons (pv 4) pa_nil)) pe_int (nomark _))
    (pss_one (ps_ret (pv 4)))
    pss_nil)))
    (pss_one (ps_ret pe_non)))), ?_⟩
    try simp only [cxK]
    obtain ⟨b, xs, rfl, c, hs⟩ := hx.sq md.seq
    rw [show L2.start N_wrong_thing [.ref p, .ref b] = [some (.ref p), some (.ref b), none, none, none] from rfl]
    walk_at "go"
    refine lc2B (σ0 := [some (.ref p), some (.ref b), none, none, none]) c rfl fun D hD => ⟨fun i H' => ∃ ys, H' D = some (.lst ys) ∧ Same H H' ∧ DqAll K (SD S D) H' ys (((itsD d).take i).flatMap fun e => (itsD e).map tupD), ⟨[], upd_same, same_new hD, .nil⟩, fun i H' ⟨_, _, s, _⟩ => s, ?_, ?_⟩
    · rintro i x H1 hx1 ⟨ys, e1, s1, hy⟩
      obtain ⟨e, he, hq⟩ := hs.at hx1
      obtain ⟨mc, mc80⟩ := md.mac e (List.mem_of_getElem? he)
      have il : i < (itsD d).length := (List.getElem?_eq_some_iff.mp he).1
      have hal : Al (SD S D) H1 := al_sd (al.sm s1) (by rw [e1]; exact fun z => by cases z)
      have hq1 : Dq K (SD S D) H1 x e := hq.in hD fun b o _ _ e => s1 b o e
      walk_at "go"
      refine g_turnF rfl ?_
      walk_at "go"
      refine ⟨SD S D, x, e, rfl, hq1, mc, hal, fun y H2 hy2 s2 => ?_⟩
      obtain ⟨b2, zs, rfl, hb2, hzs⟩ := hy2.tup_inv2
      have bb := hb2 H2 fun _ _ _ e => e
      walk_at "go"
      have zl : zs.length = (itsD e).length := by rw [hzs.len, List.length_map]
      have yl : ys.length ≤ 800 := by
        rw [hy.len]
        refine Nat.le_trans (flat_len (c := 80) fun e2 he2 => ?_) ?_
        · rw [List.length_map]
          exact (md.mac e2 (List.mem_of_mem_take he2)).2
        · have := md.few
          rw [List.length_take]
          omega
      have e2 := s2 _ _ e1
      refine in1T (σ1 := [some (.ref p), some (.ref b), none, some x, none]) rfl (fun j H4 => H4 D = some (.lst (ys ++ zs.take j)) ∧ ChgS (SD S D) H2 H4 ∧ Same H H4) ⟨by rw [List.take_zero, List.append_nil]; exact e2, fun _ _ _ e => e, s1.trans s2⟩ (fun j H4 ⟨_, c4, _⟩ => hb2 H4 c4) (fun j x2 H4 hx2 ⟨e4, c4, s4⟩ => ?_) (fun H4 ⟨e4, c4, s4⟩ => ?_)
      · have jl : j < zs.length := (List.getElem?_eq_some_iff.mp hx2).1
        walk_at "go"
        refine g_turnD e4 (by rw [List.length_append, List.length_take]; omega) ⟨?_, c4.trans fun b o n e' => by rw [upd_ne (fun z => n (.inr z))]; exact e', fun b o e' => by rw [upd_ne (ne_of_none e' hD)]; exact s4 _ _ e'⟩
        rw [upd_same, List.take_add_one, hx2, List.append_assoc]
        rfl
      · rw [List.take_length] at e4
        refine ⟨_, e4, s4, ?_⟩
        rw [List.take_add_one, he, List.flatMap_append]
        refine ((hy.sm s2).chg c4).app ?_
        have z : List.flatMap (fun e => List.map tupD (itsD e)) (some e).toList = (itsD e).map tupD := by simp
        rw [z]
        exact hzs.chg c4
    · rintro H1 ⟨ys, e1, s1, hy⟩
      rw [hs.len, List.take_length] at hy
      have hp1 := s1 _ _ hp
      walk_at "go"
      refine ⟨S, p, t, n, m, k, rfl, ⟨_, hp1⟩, hb, al.sm s1, fun R zs H2 hR eR hz s2 => ?_⟩
      walk_at "go"
      have pI : PyData.plainAll (itemsD d) = true := items_plain md.pln
      have hy2 : DqAll K (SD S D) H2 ys (itemsD d) := hy.sm s2
      have eD : Dp K H2 (.ref D) (.list (itemsD d)) := .lst (.of (s2 _ _ e1)) hy2.dp
      have hz0 : DqAll K S H2 zs ((thM t n m k).map dTh) := hz.out
      refine forL (xs := zs) ⟨fun i σ' H' => ∃ y, σ' = [some (.ref p), some (.ref b), some (.ref D), none, y] ∧ H' = H2 ∧ ∀ j, j < i → ∀ z, (thM t n m k)[j]? = some z → cntD d z = 1, ⟨_, rfl, rfl, fun j hj => absurd hj (Nat.not_lt_zero _)⟩, ?_, ?_, ?_⟩
      · rintro i σ' H' _ ⟨y, rfl, rfl, _⟩
        exact .of eR
      · rintro i x σ' H' hx2 ⟨y, rfl, rfl, hj⟩
        obtain ⟨e, he, hq⟩ := hz0.at hx2
        rw [List.getElem?_map, Option.map_eq_some_iff] at he
        obtain ⟨z, hz1, rfl⟩ := he
        walk_at "go"
        refine g_countP eD hq.dp rfl pI (dTh_depth z) ?_
        walk_at "go"
        have ec : List.countP (fun y => PyData.eqv y (dTh z)) (itemsD d) = cntD d z := rfl
        rw [ec]
        have il : i < (thM t n m k).length := (List.getElem?_eq_some_iff.mp hz1).1
        by_cases h1 : cntD d z = 1
        · rw [h1, if_neg (by decide)]
          walk_at "go"
          refine ⟨_, rfl, rfl, fun j hj2 z2 hz2 => ?_⟩
          rcases Nat.lt_or_ge j i with h | h
          · exact hj j h z2 hz2
          · obtain rfl : j = i := by omega
            obtain rfl := Option.some.inj (hz1.symm.trans hz2)
            exact h1
        · rw [if_pos (by rw [decide_eq_false (by omega)]; rfl)]
          walk_at "go"
          have en : wrongM t n m k d = some z := by
            refine List.find?_eq_some_iff_getElem.mpr ⟨decide_eq_true h1, i, il, (List.getElem?_eq_some_iff.mp hz1).2, fun j hj2 => ?_⟩
            have hj3 := hj j hj2 _ (List.getElem?_eq_getElem (by omega))
            simp only [hj3]
            decide
          rw [en] at q
          exact q _ _ hq (s1.trans s2)
      · rintro σ' H' ⟨y, rfl, rfl, hj⟩
        walk_at "go"
        have en : wrongM t n m k d = none := by
          refine List.find?_eq_none.mpr fun z hz1 => ?_
          obtain ⟨j, hj1⟩ := List.getElem?_of_mem hz1
          have jl : j < zs.length := by
            have := (List.getElem?_eq_some_iff.mp hj1).1
            rw [hz0.len, List.length_map]
            exact this
          rw [hj j jl z hj1]
          decide
        rw [en] at q
        exact q _ _ .non (s1.trans s2)
theorem c_wth (T : Top K mg) : Cal P w K mg base "wrong_thing" 2 P_wrong_thing (spWth K) := cal_mk T.f_wrong_thing (ok_wrong_thing T) (fun F => F.bindsN fun _ _ _ _ _ _ us hl => match us, hl with | [_, _], _ => rfl)
theorem kc_wrong_thing_0_machines_shape (T : Top K mg) : KCal P w K mg base "wrong_thing" 2 0 ["machines", "shape"] (fun vs zs => pick [(2, 1), (2, 0)] vs [] zs) (spWth K) := kcal_mk (ps := P_wrong_thing) T.f_wrong_thing (ok_wrong_thing T) (fun F => kbindsN F 0 ["machines", "shape"] [(2, 1), (2, 0)] fun _ _ _ _ _ _ us ws l1 l2 => match us, ws, l1, l2 with | [], [_, _], _, _ => rfl)
end

set_option Elab.async false
set_option linter.all false
set_option maxRecDepth 100000
set_option maxHeartbeats 4000000
open PySem PySem.Spec L2





section
variable {P : Program} {w : World} {K : PySem.W.Frag} {mg : Str → Option Value} {base : Heap}
/-- for (i, x) in enumerate(list or tuple) -/
theorem forEQB {g : TG} {tb : TS} {D0 : Ends} {σ : L2.St} {H : Hp} {a : Addr} {xs : List V} (c : SqL K H a xs ∨ SqT K H a xs) (h : ∃ Pv : Nat → L2.St → Hp → Prop, Pv 0 σ H ∧ (∀ i σ' H', Pv i σ' H' → Same H H') ∧
    (∀ (i : Nat) (x : V) (T : Addr) (σ' : L2.St) (H' : Hp), xs[i]? = some x → Pv i σ' H' → H' T = none → g (.ref T) σ' (upd H' T (.tup [.int (i : Nat), x])) fun σ2 H2 => tb { D0 with nx := Pv (i + 1), ct := Pv (i + 1), bk := D0.nx } σ2 H2) ∧
    ∀ σ' H', Pv xs.length σ' H' → D0.nx σ' H') : En2R K [.ref a] (fun J H1 => ForG J g tb D0 σ H1) H := by
  obtain ⟨Pv, h0, hl, hs, hd⟩ := h
  rcases c with c | c
  · exact g_en2L c (forEQL ⟨Pv, h0, fun i σ' H' _ p => sqL_sm (hl i σ' H' p) c, hs, hd⟩)
  · exact g_en2T c (forEQT ⟨Pv, h0, fun i σ' H' _ p => seqT_same (hl i σ' H' p) c, hs, hd⟩)
theorem lcFnT {S : Addr → Prop} {g : TG} {tt : TT} {te : TE} {vs : List Nat} {σ σ0 : L2.St} {H : Hp} {Q : VK} {b : Addr} {xs : List V} {ds : List PyData} {f : PyData → PyData} (c : SqT K H b xs) (hda : DqAll K S H xs ds) (al : Al S H) (hl : ds.length ≤ 1000) (hw : wipe σ vs = σ0)
    (step : ∀ (i : Nat) x d D H' N, ds[i]? = some d → d ∈ ds → H D = none → Same H H' → Al (SD S D) H' → Dq K (SD S D) H' x d → (∀ {z d}, Dq K S H z d → Dq K (SD S D) H' z d) →
      (∀ y H3, Dq K (SD S D) H3 y (f d) → Same H' H3 → TurnD D N y H3) → Turn1 g tt te vs σ0 D x H' N)
    (done : ∀ P ys H', H P = none → H' P = some (.lst ys) → DqAll K S H' ys (ds.map f) → Same H H' → Q (.ref P) H') : LcG (Itt K b) g tt te vs σ Q H := by
  refine lcQT (S := S) (xs := xs) (os := (ds.map f).map some) c al (by rw [List.length_map, List.length_map]; exact hl) (by rw [List.length_map, List.length_map]; exact hda.len) hw (fun i x o hx ho => ?_) (fun p ys H' h1 h2 h3 h4 => done p ys H' h1 h2 (by rwa [fm_some] at h3) h4)
  intro D H' N hD s hal tr k1 _
  obtain ⟨e, he, rfl⟩ := Option.map_eq_some_iff.mp (by rw [List.getElem?_map] at ho; exact ho)
  obtain ⟨d, hd, rfl⟩ := Option.map_eq_some_iff.mp (by rw [List.getElem?_map] at he; exact he)
  obtain ⟨d', hd', hq⟩ := hda.at hx
  obtain rfl : d = d' := Option.some.inj (hd.symm.trans hd')
  exact step i x d D H' N hd (List.mem_of_getElem? hd) hD s hal (tr hq) tr (fun y H3 h3 s3 => k1 _ rfl y H3 h3 s3)
/-! _wrong_item -/
def wiV (t n m k : Nat) (d : PyData) : V := if isSeqD d then (match (itsD d).findIdx? (fun e => !isThD t n m k e) with | some i => .int (i : Nat) | none => .non) else .int (-1)
def spWit (K : PySem.W.Frag) : Sp := fun vs H Q _ => ∃ (S : Addr → Prop) (p : Addr) (t n m k : Nat) (x : V) (d : PyData), vs = [.ref p, x] ∧ ShO K H p (t : Nat) (n : Nat) (m : Nat) (k : Nat) ∧ ShB t n m k ∧ Al S H ∧ Dq K S H x d ∧ (itsD d).length ≤ 1000 ∧ d.plain = true ∧
  (∀ e ∈ itsD d, e.depth ≤ 50) ∧ ∀ H', Same H H' → Q (wiV t n m k d) H'
theorem ok_wit (T : Top K mg) {f : Addr} {fd : FuncData} (F : FnP K "_wrong_item" s__wrong_item f fd) : FnOk P w K mg base CX0 3 f fd P__wrong_item (spWit K) := by
  have C_is_thing := c_isT (P := P) (w := w) (base := base) T
  refine F.ok sc__wrong_item (fun vs H Q E h => ?_) (fun cdv A outer s H vs Q E hr h => ?_)
  · obtain ⟨S, p, t, n, m, k, x, d, rfl, _⟩ := h
    rfl
  · obtain ⟨S, p, t, n, m, k, x, d, rfl, ⟨dxp, hp⟩, hb, al, hx, dl, pl, dp, q⟩ := h
    refine ⟨_, PSs.nox (pss_cons (ps_if (pt_not (pt_val (pe_callB (k_isiT (K := K) (by rfl)) (by rfl) T.z_isinstance (by decide +kernel) (pa_cons (pv 1) (pa_cons (pe_tup (pa_cons (pe_bltn (v := .ty "list") (u := .type "list") (by rfl) T.z_list (by decide +kernel) rfl) (pa_cons (pe_bltn (v := .ty "tuple") (u := .type "tuple") (by rfl) T.z_tuple (by decide +kernel) rfl) pa_nil))) pa_nil)))))
    (pss_one (ps_ret (pe_un un_neg pe_int)))
    pss_nil)
    (pss_cons (ps_for PassesOwn.never rfl (k_en2 (K := K) (by rfl) (by rfl) T.z_enumerate (pa_cons (pv 1) pa_nil)) (k_pgt (K := K) (n := 2) (by rfl) (by rfl) (pgs_cons (pg_name (i := 2) sc__wrong_item.nd rfl (by first | exact Or.inl rfl | exact Or.inr rfl)) (pgs_cons (pg_name (i := 3) sc__wrong_item.nd rfl (by first | exact Or.inl rfl | exact Or.inr rfl)) pgs_nil)) (by rfl) (by rfl))
    (pss_one (ps_if (pt_not (pt_val (pe_cal C_is_thing (hr.mono (by first | decide | omega)) (by rfl) (pa_cons (pv 0) (pa_cons (pv 3) pa_nil)))))
    (pss_one (ps_ret (pv 2)))
    pss_nil)))
    (pss_one (ps_ret pe_non)))), ?_⟩
    try simp only [cxK]
    cases hd : isSeqD d with
    | false =>
      have eq : wiV t n m k d = .int (-1) := by unfold wiV; rw [hd]; rfl
      rw [eq] at q
      rw [show L2.start N__wrong_item [.ref p, x] = [some (.ref p), some x, none, none] from rfl]
      cases d with
      | list ds => cases hd
      | tuple ds => cases hd
      | _ =>
        first
        | (cases hx; walk_at "go"; exact q _ (same_new (by assumption)))
        | cases hx
    | true =>
      obtain ⟨b, xs, rfl, c, hs⟩ := hx.sq hd
      rw [show L2.start N__wrong_item [.ref p, .ref b] = [some (.ref p), some (.ref b), none, none] from rfl]
      walk_at "go"
      rename_i p1 hp1
      have s1 : Same H (upd H p1 (.tup [.ty "list", .ty "tuple"])) := same_new hp1
      refine g_isSeq (hx.sm s1).dp upd_same ?_
      rw [hd]
      walk_at "go"
      have c1 : SqL K (upd H p1 (.tup [.ty "list", .ty "tuple"])) b xs ∨ SqT K (upd H p1 (.tup [.ty "list", .ty "tuple"])) b xs := c.imp (sqL_sm s1) (seqT_same s1)
      generalize upd H p1 (.tup [.ty "list", .ty "tuple"]) = H1 at s1 c1 ⊢
      refine forEQB c1 ⟨fun i σ' H' => ∃ y z, σ' = [some (.ref p), some (.ref b), y, z] ∧ Same H1 H' ∧ ∀ j, j < i → ∀ e, (itsD d)[j]? = some e → isThD t n m k e = true, ⟨_, _, rfl, fun _ _ e => e, fun j hj => absurd hj (Nat.not_lt_zero _)⟩, fun i σ' H' ⟨_, _, _, s, _⟩ => s, ?_, ?_⟩
      · rintro i x T2 σ' H2 hx2 ⟨y, z, rfl, s2, hj⟩ hT2
        obtain ⟨e, he, hq⟩ := hs.at hx2
        have s3 := same_new hT2 (o := .tup [.int (i : Nat), x])
        walk_at "go"
        have sA := (s1.trans s2).trans s3
        refine ⟨S, p, t, n, m, k, x, some e, rfl, ⟨_, sA _ _ hp⟩, hb, al.sm sA, ⟨hq.sm sA, plainAll_mem (plain_its pl) (List.mem_of_getElem? he), dp e (List.mem_of_getElem? he)⟩, fun H4 s4 => ?_⟩
        show ∃ c, V.bl (isThD t n m k e) = V.bl c ∧ _
        cases hE : isThD t n m k e with
        | true =>
          walk_at "go"
          refine ⟨_, _, rfl, (s2.trans s3).trans s4, fun j hj2 e2 he2 => ?_⟩
          rcases Nat.lt_or_ge j i with h | h
          · exact hj j h e2 he2
          · obtain rfl : j = i := by omega
            obtain rfl := Option.some.inj (he.symm.trans he2)
            exact hE
        | false =>
          walk_at "go"
          have en : wiV t n m k d = .int (i : Nat) := by
            have z1 : (itsD d).findIdx? (fun e => !isThD t n m k e) = some i := by
              refine List.findIdx?_eq_some_iff_getElem.mpr ⟨(List.getElem?_eq_some_iff.mp he).1, ?_, fun j hj2 => ?_⟩
              · rw [(List.getElem?_eq_some_iff.mp he).2, hE]
                rfl
              · have z2 := hj j hj2 _ (List.getElem?_eq_getElem (Nat.lt_trans hj2 (List.getElem?_eq_some_iff.mp he).1))
                rw [z2]
                decide
            unfold wiV
            rw [hd, z1]
            rfl
          rw [en] at q
          exact q _ (sA.trans s4)
      · rintro σ' H' ⟨y, z, rfl, s2, hj⟩
        walk_at "go"
        have en : wiV t n m k d = .non := by
          have z1 : (itsD d).findIdx? (fun e => !isThD t n m k e) = none := by
            refine List.findIdx?_eq_none_iff.mpr fun e he => ?_
            obtain ⟨j, hj1⟩ := List.getElem?_of_mem he
            have jl := (List.getElem?_eq_some_iff.mp hj1).1
            rw [hj j (by rw [hs.len]; exact jl) e hj1]
            rfl
          unfold wiV
          rw [hd, z1]
          rfl
        rw [en] at q
        exact q _ (s1.trans s2)
theorem c_wit (T : Top K mg) : Cal P w K mg base "_wrong_item" 3 P__wrong_item (spWit K) := cal_mk T.f__wrong_item (ok_wit T) (fun F => F.bindsN fun _ _ _ _ _ _ us hl => match us, hl with | [_, _], _ => rfl)
/-! Split -/
abbrev spF (sh ms : V) : List (Str × V) := [("shape", sh), ("machines", ms)]
/-- a split that stands: its shape and its machines -/
structure SplO (K : PySem.W.Frag) (S : Addr → Prop) (H : Hp) (p : Addr) (t n m k : Nat) (ds : List PyData) : Prop where
  ex : ∃ dx sh y, H p = some (.ins (SpC K) dx (spF (.ref sh) y)) ∧ ShO K H sh (t : Nat) (n : Nat) (m : Nat) (k : Nat) ∧ Dq K S H y (.tuple (ds.map tofD))
/-- machines that fit a shape -/
structure MasOk (t n m k : Nat) (ds : List PyData) : Prop where
  few : 1 ≤ ds.length ∧ ds.length ≤ 5
  mac : ∀ e ∈ ds, MacD e ∧ (itsD e).length ≤ 80 ∧ (∀ z ∈ itsD e, z.depth ≤ 50) ∧ wiV t n m k e = .non
  pln : PyData.plainAll ds = true
  all : wrongM t n m k (.tuple ds) = none
end

set_option Elab.async false
set_option linter.all false
set_option maxRecDepth 100000
set_option maxHeartbeats 4000000
open PySem PySem.Spec L2



section
variable {P : Program} {w : World} {K : PySem.W.Frag} {mg : Str → Option Value} {base : Heap}
/-! shapes compared and told -/
def spSeq (K : PySem.W.Frag) : Sp := fun vs H Q _ => ∃ (p : Addr) (y : V) (t n m k : Nat), vs = [.ref p, y] ∧ ShO K H p (t : Nat) (n : Nat) (m : Nat) (k : Nat) ∧
  ((∃ (q : Addr) (t2 n2 m2 k2 : Nat), y = .ref q ∧ ShO K H q (t2 : Nat) (n2 : Nat) (m2 : Nat) (k2 : Nat) ∧ ∀ bb, (bb = true ↔ (t = t2 ∧ n = n2 ∧ m = m2 ∧ k = k2)) → Q (.bl bb) H) ∨
   ∃ ty, TyX K H y (.type ty) ∧ PySem.W.kitOne K (.type ty) (.ref (SC K)) = some false ∧ Q (.bl false) H)
theorem ok_seq (T : Top K mg) {f : Addr} {fd : FuncData} (F : FunD K "__eq__" "Shape.__eq__" (defArgs s_Shape___eq__) (defBody s_Shape___eq__) (defScope s_Shape___eq__) [] [] f fd) : FnOk P w K mg base CX0 1 f fd P_Shape___eq__ (spSeq K) := by
  have cl_Shape := T.cl_Shape; have na_Shape_tokens := T.na_Shape_tokens; have na_Shape_width := T.na_Shape_width; have na_Shape_layers := T.na_Shape_layers; have na_Shape_heads := T.na_Shape_heads; have in_Shape := T.in_Shape; have ki_o_Shape_o_Shape := T.ki_o_Shape_o_Shape; have nf_Shape_o_Shape := T.nf_Shape_o_Shape; have ki_tuple_o_Shape := T.ki_tuple_o_Shape; have ki_list_o_Shape := T.ki_list_o_Shape; have ki_o_Shape_list := T.ki_o_Shape_list; have ki_o_Shape_tuple := T.ki_o_Shape_tuple
  refine F.ok sc_Shape___eq__ (fun vs H Q E h => ?_) (fun cdv A outer s H vs Q E hr h => ?_)
  · obtain ⟨p, y, t, n, m, k, rfl, _⟩ := h
    rfl
  · obtain ⟨p, y, t, n, m, k, rfl, ⟨dx, hp⟩, h⟩ := h
    refine ⟨_, PSs.nox (pss_one (ps_ret (pe_and (pe_callB (k_isi (K := K) (by rfl)) (by rfl) T.z_isinstance (by decide +kernel) (pa_cons (pv 1) (pa_cons (pe_glob (v := .ref (He.ga K "Shape")) (by rfl) T.g_Shape rfl) pa_nil))) (pe_and (pe_cmpR op_eq (k_fld (K := K) (by rfl) (pv 0) rfl) (k_fld (K := K) (by rfl) (pv 1) rfl) (nomark _)) (pe_and (pe_cmpR op_eq (k_fld (K := K) (by rfl) (pv 0) rfl) (k_fld (K := K) (by rfl) (pv 1) rfl) (nomark _)) (pe_and (pe_cmpR op_eq (k_fld (K := K) (by rfl) (pv 0) rfl) (k_fld (K := K) (by rfl) (pv 1) rfl) (nomark _)) (pe_one (pe_cmpR op_eq (k_fld (K := K) (by rfl) (pv 0) rfl) (k_fld (K := K) (by rfl) (pv 1) rfl) (nomark _))))))))), ?_⟩
    try simp only [cxK]
    rw [show L2.start N_Shape___eq__ [.ref p, y] = [some (.ref p), some y] from rfl]
    rcases h with ⟨q, t2, n2, m2, k2, rfl, ⟨dy, hq⟩, c⟩ | ⟨ty, ht, e, c⟩
    · walk_at "go"
      first
      | (refine g_isiO hq in_Shape cl_Shape ki_o_Shape_o_Shape ?_; walk_at "go")
      | skip
      have no : ∀ {b : Bool}, ¬ (t = t2 ∧ n = n2 ∧ m = m2 ∧ k = k2) → b = false → (b = true ↔ (t = t2 ∧ n = n2 ∧ m = m2 ∧ k = k2)) := fun h e => by rw [e]; exact ⟨fun z => (Bool.false_ne_true z).elim, fun z => (h z).elim⟩
      refine g_iteD (fun h1 => ?_) (fun h1 => c _ (no (fun z => h1 (by rw [z.1])) rfl))
      walk_at "go"
      refine g_iteD (fun h2 => ?_) (fun h2 => c _ (no (fun z => h2 (by rw [z.2.1])) rfl))
      walk_at "go"
      refine g_iteD (fun h3 => ?_) (fun h3 => c _ (no (fun z => h3 (by rw [z.2.2.1])) rfl))
      walk_at "go"
      refine c _ ⟨fun h4 => ?_, fun z => by rw [z.2.2.2]; exact decide_eq_true rfl⟩
      have h4 := of_decide_eq_true h4
      omega
    · walk_at "go"
      refine g_isiB ht e ?_
      walk_at "go"
      exact c
theorem m_seq (T : Top K mg) : MCal P w K mg base (SC K) "__eq__" 1 P_Shape___eq__ (spSeq K) := mcal_mk T.me_Shape___eq__ T.f_Shape___eq__ (ok_seq T) (fun F => F.bindsN fun _ _ _ _ _ _ us hl => match us, hl with | [_, _], _ => rfl)
end

set_option Elab.async false
set_option linter.all false
set_option maxRecDepth 100000
set_option maxHeartbeats 4000000
open PySem PySem.Spec L2





section
variable {P : Program} {w : World} {K : PySem.W.Frag} {mg : Str → Option Value} {base : Heap}
/-! the places of things -/
def spPln (K : PySem.W.Frag) : Sp := fun vs H Q _ => ∃ (S : Addr → Prop) (p : Addr) (t n m k : Nat) (ds : List PyData), vs = [.ref p] ∧ SplO K S H p t n m k ds ∧ ds.length ≤ 5 ∧ Q (.int (ds.length : Nat)) H
theorem ok_pln (T : Top K mg) {f : Addr} {fd : FuncData} (F : FunD K "__len__" "Split.__len__" (defArgs s_Split___len__) (defBody s_Split___len__) (defScope s_Split___len__) [] [] f fd) : FnOk P w K mg base CX0 1 f fd P_Split___len__ (spPln K) := by
  have cl_Split := T.cl_Split; have na_Split___bool__ := T.na_Split___bool__; have na_Split_shape := T.na_Split_shape; have na_Split_machines := T.na_Split_machines; have in_Split := T.in_Split; have ki_o_Split_o_Split := T.ki_o_Split_o_Split; have nf_Split_o_Split := T.nf_Split_o_Split; have ne_Split := T.ne_Split; have nf_Split_list := T.nf_Split_list; have nf_Split_NoneType := T.nf_Split_NoneType; have ki_list_o_Split := T.ki_list_o_Split; have ki_NoneType_o_Split := T.ki_NoneType_o_Split
  refine F.ok sc_Split___len__ (fun vs H Q E h => ?_) (fun cdv A outer s H vs Q E hr h => ?_)
  · obtain ⟨S, p, t, n, m, k, ds, rfl, _⟩ := h
    rfl
  · obtain ⟨S, p, t, n, m, k, ds, rfl, ⟨dx, sh, y1, hp, hsh, hy1⟩, d5, q⟩ := h
    refine ⟨_, PSs.nox (pss_one (ps_ret (pe_callB (k_len (K := K) (by rfl)) (by rfl) T.z_len (by decide +kernel) (pa_cons (k_fld (K := K) (by rfl) (pv 0) rfl) pa_nil)))), ?_⟩
    try simp only [cxK]
    rw [show L2.start N_Split___len__ [.ref p] = [some (.ref p)] from rfl]
    obtain ⟨b2, zs, rfl, hb2, hzs⟩ := hy1.tup_inv
    have ln : zs.length = ds.length := by rw [hzs.len, List.length_map]
    walk_at "go"
    rw [ln]
    exact q
theorem m_pln (T : Top K mg) : MCal P w K mg base (SpC K) "__len__" 1 P_Split___len__ (spPln K) := mcal_mk T.me_Split___len__ T.f_Split___len__ (ok_pln T) (fun F => F.bindsN fun _ _ _ _ _ _ us hl => match us, hl with | [_], _ => rfl)
end

set_option Elab.async false
set_option linter.all false
set_option maxRecDepth 100000
set_option maxHeartbeats 4000000
open PySem PySem.Spec L2

section
variable {P : Program} {w : World} {K : PySem.W.Frag} {mg : Str → Option Value} {base : Heap}
def spDraw (B : Int) : Sp := fun vs H Q _ => ∃ (a l : Addr) (size : Int), vs = [.ref a, .int size] ∧ Bag H a l ∧ 1 ≤ size ∧ size ≤ B ∧
  ∀ (r : Int) (H' : Hp), 0 ≤ r → r < size → Bag H' a l → Chg a H H' → Q (.int r) H'
theorem ok_draw1 {f : Addr} {fd : FuncData} (T : Top K mg) (F : FunD K "_law_draw" "_law_draw" (defArgs s__law_draw) (defBody s__law_draw) (defScope s__law_draw) [] [] f fd) :
    FnOk P w K mg base CX0 1 f fd P__law_draw (spDraw 1000000) := by
  refine F.ok sc__law_draw (fun vs H Q E h => ?_) (fun cdv A outer s H vs Q E hr h => ?_)
  · obtain ⟨a, l, size, rfl, _⟩ := h
    rfl
  · obtain ⟨a, l, size, rfl, ⟨ns, i, g, m, c, hB, hl, hla, hi, hg, hm, hm', hc⟩, h1, h2, q⟩ := h
    refine ⟨_, PSs.nox (C8.pss_cut (ps_asg (pe_op op_add (pe_ix (k_ix (K := K) (by rfl)) (pv 0) pe_int (fun _ _ => rfl)) pe_int) (pg_sub (pv 0) pe_int set_list))
    (C8.pss_cut (ps_if (PW.pt (pw_and (pt_cmpR op_eq (pe_ix (k_ix (K := K) (by rfl)) (pv 0) pe_int (fun _ _ => rfl)) pe_int (nomark _)) (pw_and1 (pt_cmpR op_lt (pe_ix (k_ix (K := K) (by rfl)) (pv 0) pe_int (fun _ _ => rfl)) (pe_callB (k_len (K := K) (by rfl)) (by rfl) T.z_len (by decide +kernel) (pa_cons (pe_ix (k_ix (K := K) (by rfl)) (pv 0) pe_int (fun _ _ => rfl)) pa_nil)) (nomark _)))))
    (pss_cons (ps_asg (pe_tup (pa_cons (pe_ix (k_ix (K := K) (by rfl)) (pe_ix (k_ix (K := K) (by rfl)) (pv 0) pe_int (fun _ _ => rfl)) (pe_ix (k_ix (K := K) (by rfl)) (pv 0) pe_int (fun _ _ => rfl)) (fun _ _ => rfl)) (pa_cons (pe_op op_add (pe_ix (k_ix (K := K) (by rfl)) (pv 0) pe_int (fun _ _ => rfl)) pe_int) pa_nil))) (k_pgt (K := K) (n := 2) (by rfl) (by rfl) (pgs_cons (pg_name (i := 2) sc__law_draw.nd rfl (by first | exact Or.inl rfl | exact Or.inr rfl)) (pgs_cons (pg_sub (pv 0) pe_int set_list) pgs_nil)) (by rfl) (by rfl)))
    (pss_one (ps_if (pt_cmpR op_ge (pv 2) (pe_op op_pow pe_int pe_int) (nomark _))
    (pss_one (ps_asg (pv 2) (pg_sub (pv 0) pe_int set_list)))
    (pss_one (ps_asg (pe_op op_mod (pe_callTy c_int (by rfl) T.z_int (by decide +kernel) (pa_cons (pe_op op_add (pe_op op_add (pe_op op_mul (pe_ix (k_ix (K := K) (by rfl)) (pv 0) pe_int (fun _ _ => rfl)) pe_int) (pe_op op_mul (pe_op op_mod (pe_callTy c_int (by rfl) T.z_int (by decide +kernel) (pa_cons (pv 2) pa_nil)) pe_int) pe_int)) pe_int) pa_nil)) pe_int) (pg_sub (pv 0) pe_int set_list))))))
    pss_nil)
    (pss_cons (ps_if (pt_cmpR op_gt (pe_ix (k_ix (K := K) (by rfl)) (pv 0) pe_int (fun _ _ => rfl)) pe_int (nomark _))
    (pss_cons (ps_asg (pe_tup (pa_cons (pe_op op_mod (pe_callTy c_int (by rfl) T.z_int (by decide +kernel) (pa_cons (pe_ix (k_ix (K := K) (by rfl)) (pv 0) pe_int (fun _ _ => rfl)) pa_nil)) (pv 1)) (pa_cons (pe_op op_fdivW (pe_ix (k_ix (K := K) (by rfl)) (pv 0) pe_int (fun _ _ => rfl)) (pv 1)) pa_nil))) (k_pgt (K := K) (n := 2) (by rfl) (by rfl) (pgs_cons (pg_name (i := 3) sc__law_draw.nd rfl (by first | exact Or.inl rfl | exact Or.inr rfl)) (pgs_cons (pg_sub (pv 0) pe_int set_list) pgs_nil)) (by rfl) (by rfl)))
    (pss_one (ps_ret (pv 3))))
    pss_nil)
    (pss_cons (ps_set (i := 4) sc__law_draw.nd rfl (by first | exact Or.inl rfl | exact Or.inr rfl) (pe_callTy c_int (by rfl) T.z_int (by decide +kernel) (pa_cons (pe_ix (k_ix (K := K) (by rfl)) (pv 0) pe_int (fun _ _ => rfl)) pa_nil)))
    (pss_cons (ps_asg (pe_op op_mod (pe_callTy c_int (by rfl) T.z_int (by decide +kernel) (pa_cons (pe_op op_add (pe_op op_add (pe_op op_add (pe_op op_pow (pv 4) pe_int) (pe_op op_mul (pv 4) pe_int)) (pe_op op_mul (pe_ix (k_ix (K := K) (by rfl)) (pv 0) pe_int (fun _ _ => rfl)) pe_int)) pe_int) pa_nil)) pe_int) (pg_sub (pv 0) pe_int set_list))
    (pss_one (ps_ret (pe_op op_mod (pe_callTy c_int (by rfl) T.z_int (by decide +kernel) (pa_cons (pe_op op_add (pe_op op_fdivW (pe_ix (k_ix (K := K) (by rfl)) (pv 0) pe_int (fun _ _ => rfl)) pe_int) (pe_op op_mul (pe_op op_mod (pe_callTy c_int (by rfl) T.z_int (by decide +kernel) (pa_cons (pe_ix (k_ix (K := K) (by rfl)) (pv 0) pe_int (fun _ _ => rfl)) pa_nil)) pe_int) pe_int)) pa_nil)) (pv 1))))))))), ?_⟩
    try simp only [cxK]
    rw [show L2.start N__law_draw [V.ref a, V.int size] = [some (.ref a), some (.int size), none, none, none] from rfl]
    refine g_cut (fun σ' H' => σ' = [some (.ref a), some (.int size), none, none, none] ∧ ∃ c', H' = upd H a (.lst [V.ref l, V.int i, V.int g, V.int m, V.int c']) ∧ 0 ≤ c') ?_ ?_
    · walk_at "go"
      exact ⟨rfl, _, rfl, by omega⟩
    rintro σ' H' ⟨rfl, c', rfl, hc'⟩
    refine g_cut (fun σ' H' => ∃ x2, σ' = [some (.ref a), some (.int size), x2, none, none] ∧ ∃ i' g' m', H' a = some (.lst [V.ref l, V.int i', V.int g', V.int m', V.int c']) ∧
      0 ≤ i' ∧ 0 ≤ g' ∧ 0 ≤ m' ∧ m' < 2147483648 ∧ Chg a H H') ?_ ?_
    · walk_at "go"
      refine g_iteD (fun h3 => ?_) (fun h3 => ?_)
      · walk_at "go"
        refine g_iteD (fun h4 => ?_) (fun h4 => ?_)
        · have e : atI (ns.map V.int) i = some (.int (ns.getD i.toNat 0)) := by
            have z := atI_nat (xs := ns.map V.int) (j := i.toNat) (v := .int (ns.getD i.toNat 0)) (by
              rw [List.getElem?_map, List.getD_eq_getElem?_getD, List.getElem?_eq_getElem (by rw [List.length_map] at h4; omega)]; rfl)
            rwa [Int.toNat_of_nonneg hi] at z
          walk_at "go"
          refine g_iteD (fun h5 => ?_) (fun h5 => ?_)
          · walk_at "go"
            exact ⟨_, rfl, _, _, _, by walk_at "h", by omega, by omega, hm, hm', by walk_at "chg"⟩
          · walk_at "go"
            exact ⟨_, rfl, _, _, _, by walk_at "h", by omega, by omega, by omega, by omega, by walk_at "chg"⟩
        · walk_at "go"
          exact ⟨_, rfl, i, g, m, by walk_at "h", hi, hg, hm, hm', by walk_at "chg"⟩
      · walk_at "go"
        exact ⟨_, rfl, i, g, m, by walk_at "h", hi, hg, hm, hm', by walk_at "chg"⟩
    rintro σ' H' ⟨x2, rfl, i', g', m', hB', hi', hg', hm1, hm2, ch⟩
    have hl' : H' l = some (HO.lst (List.map V.int ns)) := by walk_at "h"
    walk_at "go"
    refine g_iteD (fun h3 => ?_) (fun h3 => ?_)
    · have hs : 0 < size := by omega
      have hd : CDivW g' size := wide_div (b := 200) hs (Nat.lt_of_le_of_lt (m := 100000000000000000000000000000000000000000) (by omega) (by decide)) (by decide) (by decide)
      walk_at "go"
      exact q _ _ (Int.emod_nonneg _ (by omega)) (Int.emod_lt_of_pos _ (by omega))
        ⟨ns, _, _, _, _, by walk_at "h", by walk_at "h", hla, hi', Int.ediv_nonneg hg' (by omega), hm1, hm2, hc'⟩ (by walk_at "chg")
    · have hs : 0 < size := by omega
      walk_at "go"
      exact q _ _ (Int.emod_nonneg _ (by omega)) (Int.emod_lt_of_pos _ (by omega))
        ⟨ns, _, _, _, _, by walk_at "h", by walk_at "h", hla, hi', hg', by omega, by omega, hc'⟩ (by walk_at "chg")

theorem c_draw1 (T : Top K mg) : Cal P w K mg base "_law_draw" 1 P__law_draw (spDraw 1000000) := cal_mk T.f__law_draw (ok_draw1 T) (fun F => F.bindsN fun _ _ _ _ _ _ us hl => match us, hl with | [_, _], _ => rfl)
theorem g_drawB {B : Int} {a l : Addr} {size : Int} {H : Hp} {Q : VK} {E : XK} (hB : Bag H a l) (h1 : 1 ≤ size ∧ size ≤ B) (q : ∀ (r : Int) (H' : Hp), 0 ≤ r → r < size → Bag H' a l → Chg a H H' → Q (.int r) H') :
    spDraw B [.ref a, .int size] H Q E := ⟨a, l, size, rfl, hB, h1.1, h1.2, q⟩
/-! _law_pick -/
def spOf : Sp := fun vs H Q _ => ∃ (a l t : Addr) (xs : List V), vs = [.ref a, .ref t] ∧ Bag H a l ∧ H t = some (.lst xs) ∧ t ≠ a ∧ (1 ≤ xs.length ∧ xs.length ≤ 1000000) ∧
  ∀ (x : V) (H' : Hp), x ∈ xs → Bag H' a l → Chg a H H' → Q x H'
theorem g_of {a l t : Addr} {xs : List V} {H : Hp} {Q : VK} {E : XK} (hB : Bag H a l) (ht : H t = some (.lst xs)) (n : t ≠ a) (hl : 1 ≤ xs.length ∧ xs.length ≤ 1000000)
    (q : ∀ (x : V) (H' : Hp), x ∈ xs → Bag H' a l → Chg a H H' → Q x H') : spOf [.ref a, .ref t] H Q E := ⟨a, l, t, xs, rfl, hB, ht, n, hl, q⟩
theorem ok_of {f : Addr} {fd : FuncData} (T : Top K mg) (F : FnP K "_law_pick" s__law_pick f fd) : FnOk P w K mg base CX0 2 f fd P__law_pick spOf := by
  have C__law_draw : Cal P w K mg base "_law_draw" 1 P__law_draw (spDraw 1000000) := c_draw1 T
  refine F.ok sc__law_pick (fun vs H Q E h => ?_) (fun cdv A outer s H vs Q E hr h => ?_)
  · obtain ⟨a, l, t, xs, rfl, _⟩ := h
    rfl
  · obtain ⟨a, l, t, xs, rfl, hB, ht, hn, hl, q⟩ := h
    refine ⟨_, PSs.nox (pss_one (ps_ret (pe_ix (k_ix (K := K) (by rfl)) (pv 1) (pe_cal C__law_draw (hr.mono (by first | decide | omega)) (by rfl) (pa_cons (pv 0) (pa_cons (pe_callB (k_len (K := K) (by rfl)) (by rfl) T.z_len (by decide +kernel) (pa_cons (pv 1) pa_nil)) pa_nil))) (fun _ _ => rfl)))), ?_⟩
    try simp only [cxK]
    rw [show L2.start N__law_pick [V.ref a, V.ref t] = [some (.ref a), some (.ref t)] from rfl]
    walk_at "go"
    refine g_drawB hB ⟨by omega, by omega⟩ fun r H1 ra rb B1 ch1 => ?_
    have e : atI xs r = some (xs.getD r.toNat .non) := by
      have z := atI_nat (xs := xs) (j := r.toNat) (v := xs.getD r.toNat .non) (by
        rw [List.getD_eq_getElem?_getD, List.getElem?_eq_getElem (by omega)]; rfl)
      rwa [Int.toNat_of_nonneg ra] at z
    walk_at "go"
    refine q _ _ ?_ B1 ch1
    rw [List.getD_eq_getElem?_getD, List.getElem?_eq_getElem (by omega)]
    exact List.getElem_mem _
theorem c_of (T : Top K mg) : Cal P w K mg base "_law_pick" 2 P__law_pick spOf := cal_mk T.f__law_pick (ok_of T) (fun F => F.bindsN fun _ _ _ _ _ _ us hl => match us, hl with | [_, _], _ => rfl)
/-! _law_start -/
def spBag (K : PySem.W.Frag) : Sp := fun vs H Q _ => ∃ (a : Addr) (ns : List Int), vs = [.ref a] ∧ SqL K H a (ns.map V.int) ∧ ∀ (p l : Addr) (H' : Hp), Bag H' p l → H p = none → Same H H' → Q (.ref p) H'
theorem ok_bag {f : Addr} {fd : FuncData} (T : Top K mg) (F : FnP K "_law_start" s__law_start f fd) : FnOk P w K mg base CX0 1 f fd P__law_start (spBag K) := by
  refine F.ok sc__law_start (fun vs H Q E h => ?_) (fun cdv A outer s H vs Q E hr h => ?_)
  · obtain ⟨a, ns, rfl, _⟩ := h
    rfl
  · obtain ⟨a, ns, rfl, hS, q⟩ := h
    refine ⟨_, PSs.nox (pss_cons (ps_set (i := 1) sc__law_start.nd rfl (by first | exact Or.inl rfl | exact Or.inr rfl) pe_int)
    (pss_cons (ps_for PassesOwn.never rfl (k_pil (K := K) (by rfl) (pe_slice (k_sl (K := K) (by rfl)) (pv 0) po_none (po_some pe_int))) (pg_name (i := 2) sc__law_start.nd rfl (by first | exact Or.inl rfl | exact Or.inr rfl))
    (pss_one (ps_set (i := 1) sc__law_start.nd rfl (by first | exact Or.inl rfl | exact Or.inr rfl) (pe_op op_mod (pe_callTy c_int (by rfl) T.z_int (by decide +kernel) (pa_cons (pe_op op_add (pe_op op_add (pe_op op_mul (pv 1) pe_int) (pe_op op_mod (pe_callTy c_int (by rfl) T.z_int (by decide +kernel) (pa_cons (pv 2) pa_nil)) pe_int)) pe_int) pa_nil)) pe_int))))
    (pss_one (ps_ret (pe_lst (pa_cons (pe_callTy (k_list (K := K) (by rfl)) (by rfl) T.z_list (by decide +kernel) (pa_cons (pe_slice (k_sl (K := K) (by rfl)) (pv 0) po_none (po_some pe_int)) pa_nil)) (pa_cons pe_int (pa_cons pe_int (pa_cons (pv 1) (pa_cons pe_int pa_nil)))))))))), ?_⟩
    try simp only [cxK]
    rw [show L2.start N__law_start [V.ref a] = [some (.ref a), none, none] from rfl]
    walk_at "go"
    rename_i p hp
    have ec : cutV (ns.map V.int) none (some 63) = (ns.take 63).map V.int := by
      unfold cutV
      rw [HT.sIx_none, show HT.sIx (ns.map V.int).length (ns.map V.int).length (some 63) = min 63 (ns.map V.int).length from HT.sIx_nat _ _ 63]
      rw [List.drop_zero, Nat.sub_zero, ← List.map_take]
      congr 1
      rw [List.length_map]
      rcases Nat.le_total 63 ns.length with z | z
      · rw [Nat.min_eq_left z]
      · rw [Nat.min_eq_right z, List.take_length, List.take_of_length_le z]
    rw [ec]
    have s1 : Same H (upd H p (.lst ((ns.take 63).map V.int))) := same_new hp
    refine forL (xs := (ns.take 63).map V.int) ⟨fun i σ' H' => ∃ m y, σ' = [some (.ref a), some (.int m), y] ∧ 0 ≤ m ∧ m < 2147483648 ∧ H' = upd H p (.lst ((ns.take 63).map V.int)), ⟨_, _, rfl, by decide, by decide, rfl⟩, ?_, ?_, ?_⟩
    · rintro i σ' H' _ ⟨m, y, rfl, _, _, rfl⟩
      exact SqL.of upd_same
    · rintro i x σ' H' hx ⟨m, y, rfl, hm, hm', rfl⟩
      rw [List.getElem?_map, Option.map_eq_some_iff] at hx
      obtain ⟨n, _, rfl⟩ := hx
      walk_at "go"
      exact ⟨_, _, rfl, by omega, by omega, rfl⟩
    · rintro σ' H' ⟨m, y, rfl, hm, hm', rfl⟩
      have hS1 : SqL K (upd H p (.lst ((ns.take 63).map V.int))) a (ns.map V.int) := s1.seq hS
      walk_at "go"
      rename_i p2 hp2 p3 hp3 p1 hp1
      rw [ec] at *
      have s2 := same_new hp2 (o := .lst ((ns.take 63).map V.int))
      have s3 := same_new hp3 (o := .lst ((ns.take 63).map V.int))
      have s4 := same_new hp1 (o := .lst [V.ref p3, V.int 0, V.int 0, V.int m, V.int 0])
      refine q p1 p3 _ ⟨ns.take 63, 0, 0, m, 0, upd_same, s4 _ _ upd_same, ?_, by decide, by decide, hm, hm', by decide⟩ (((s1.trans s2).trans s3).free hp1) (((s1.trans s2).trans s3).trans s4)
      exact ne_of_none upd_same hp1
theorem c_bag (T : Top K mg) : Cal P w K mg base "_law_start" 1 P__law_start (spBag K) := cal_mk T.f__law_start (ok_bag T) (fun F => F.bindsN fun _ _ _ _ _ _ us hl => match us, hl with | [_], _ => rfl)
end

set_option Elab.async false
set_option linter.all false
set_option maxRecDepth 100000
set_option maxHeartbeats 4000000
open PySem PySem.Spec L2





section
variable {P : Program} {w : World} {K : PySem.W.Frag} {mg : Str → Option Value} {base : Heap}
theorem lcThG {g : TG} {tt : TT} {te : TE} {vs : List Nat} {σ σ0 : L2.St} {S : Addr → Prop} {H : Hp} {z : Str} {l n : Nat} {Q : VK} (al : Al S H) (hn : n ≤ 6) (hw : wipe σ vs = σ0)
    (turn : ∀ (j : Nat) (D : Addr) (H' : Hp) (N : Hp → Prop), j < n → (∀ p, H' p = none → TurnD D N (.ref p) (upd H' p (.tup [.str z, .int (l : Nat), .int (j : Nat)]))) → Turn1 g tt te vs σ0 D (.int (j : Nat)) H' N)
    (q : ∀ R ys H', H R = none → H' R = some (.lst ys) → DqAll K S H' ys (((List.range n).map fun j => ((z, l, j) : Th)).map dTh) → Same H H' → Q (.ref R) H') :
    LcG (Itr 0 n) g tt te vs σ Q H := by
  refine lcQR (K := K) (S := S) (os := (((List.range n).map fun j => ((z, l, j) : Th)).map dTh).map some) al (by simp; omega) (by simp) hw (fun i o ho => ?_) (fun R ys H2 hR hL hds s2 => ?_)
  · intro D H' N hD s al' tr kk _
    rw [List.getElem?_map, List.getElem?_map, List.getElem?_map] at ho
    have il : i < n := by
      rcases Nat.lt_or_ge i n with c | c
      · exact c
      · rw [List.getElem?_eq_none (by rw [List.length_range]; exact c)] at ho
        cases ho
    rw [List.getElem?_range il] at ho
    obtain rfl := Option.some.inj ho
    rw [Int.zero_add]
    exact turn i D H' N il fun p hp => kk _ rfl _ _ (dq_newT (al'.no hp) upd_same (.cons (.str _) (.cons (.int _) (.cons (.int _) .nil)))) (same_new hp)
  · refine q R ys H2 hR hL ?_ s2
    rw [fm_some] at hds
    exact hds
theorem dqAll4 {S : Addr → Prop} {H : Hp} {xs : List V} {a b c d : PyData} (h : DqAll K S H xs [a, b, c, d]) : ∃ u v w z, xs = [u, v, w, z] ∧ Dq K S H u a ∧ Dq K S H v b ∧ Dq K S H w c ∧ Dq K S H z d := by
  cases h with
  | cons h1 h =>
    cases h with
    | cons h2 h =>
      cases h with
      | cons h3 h =>
        cases h with
        | cons h4 h =>
          cases h
          exact ⟨_, _, _, _, rfl, h1, h2, h3, h4⟩
theorem dqAll4i {S : Addr → Prop} {H : Hp} {xs : List V} {a b c d : Int} (h : DqAll K S H xs [.int a, .int b, .int c, .int d]) : xs = [.int a, .int b, .int c, .int d] := by
  obtain ⟨_, _, _, _, rfl, h1, h2, h3, h4⟩ := dqAll4 h
  obtain rfl := h1.int_inv
  obtain rfl := h2.int_inv
  obtain rfl := h3.int_inv
  obtain rfl := h4.int_inv
  rfl
def spLTh (K : PySem.W.Frag) : Sp := fun vs H Q _ => ∃ (S : Addr → Prop) (y : V) (t n m k : Nat), vs = [y] ∧ Dq K S H y (.tuple [.int (t : Nat), .int (n : Nat), .int (m : Nat), .int (k : Nat)]) ∧ ShB t n m k ∧ Al S H ∧
  ∀ (z : V) (H' : Hp), Dq K S H' z (.list ((thM t n m k).map dTh)) → Same H H' → Q z H'
theorem ok_lth (T : Top K mg) {f : Addr} {fd : FuncData} (F : FnP K "_law_things" s__law_things f fd) : FnOk P w K mg base CX0 1 f fd P__law_things (spLTh K) := by
  refine F.ok sc__law_things (fun vs H Q E h => ?_) (fun cdv A outer s H vs Q E hr h => ?_)
  · obtain ⟨S, y, t, n, m, k, rfl, _⟩ := h
    rfl
  · obtain ⟨S, y, t, n, m, k, rfl, hy, b, al, q⟩ := h
    refine ⟨_, PSs.nox (pss_cons (ps_asg (pv 0) (k_pgt (K := K) (n := 4) (by rfl) (by rfl) (pgs_cons (pg_name (i := 1) sc__law_things.nd rfl (by first | exact Or.inl rfl | exact Or.inr rfl)) (pgs_cons (pg_name (i := 2) sc__law_things.nd rfl (by first | exact Or.inl rfl | exact Or.inr rfl)) (pgs_cons (pg_name (i := 3) sc__law_things.nd rfl (by first | exact Or.inl rfl | exact Or.inr rfl)) (pgs_cons (pg_name (i := 4) sc__law_things.nd rfl (by first | exact Or.inl rfl | exact Or.inr rfl)) pgs_nil)))) (by rfl) (by rfl)))
    (pss_cons (ps_set (i := 5) sc__law_things.nd rfl (by first | exact Or.inl rfl | exact Or.inr rfl) (pe_lst pa_nil))
    (pss_cons (ps_for PassesOwn.never rfl (pi_range1 (by rfl) T.z_range (pa_cons (pv 3) pa_nil)) (pg_name (i := 6) sc__law_things.nd rfl (by first | exact Or.inl rfl | exact Or.inr rfl))
    (pss_one (ps_set (i := 5) sc__law_things.nd rfl (by first | exact Or.inl rfl | exact Or.inr rfl) (pe_op op_cat (pe_op op_cat (pv 5) (pe_lc (own := [("_law_h", 7)]) (g := gName 7) (by rfl) sc__law_things.nd (pi_range1 (by rfl) T.z_range (pa_cons (pv 4) pa_nil)) (blkOk_by (own := [("_law_h", 7)]) (N := N__law_things) (sc := defScope s__law_things) (by decide +kernel)) (fun _ _ _ _ _ => pg_name (i := 7) sc__law_things.nd rfl (by first | exact Or.inl rfl | exact Or.inr rfl)) (fun _ _ _ _ _ => pts_nil) (fun _ _ _ _ _ => (pe_tup (pa_cons pe_str (pa_cons (pv 6) (pa_cons (pv 7) pa_nil))))))) (pe_lc (own := [("_law_j", 8)]) (g := gName 8) (by rfl) sc__law_things.nd (pi_range1 (by rfl) T.z_range (pa_cons (pv 2) pa_nil)) (blkOk_by (own := [("_law_j", 8)]) (N := N__law_things) (sc := defScope s__law_things) (by decide +kernel)) (fun _ _ _ _ _ => pg_name (i := 8) sc__law_things.nd rfl (by first | exact Or.inl rfl | exact Or.inr rfl)) (fun _ _ _ _ _ => pts_nil) (fun _ _ _ _ _ => (pe_tup (pa_cons pe_str (pa_cons (pv 6) (pa_cons (pv 8) pa_nil))))))))))
    (pss_one (ps_ret (pe_op op_cat (pv 5) (pe_lc (own := [("_law_a", 9)]) (g := gName 9) (by rfl) sc__law_things.nd (pi_range1 (by rfl) T.z_range (pa_cons (pv 1) pa_nil)) (blkOk_by (own := [("_law_a", 9)]) (N := N__law_things) (sc := defScope s__law_things) (by decide +kernel)) (fun _ _ _ _ _ => pg_name (i := 9) sc__law_things.nd rfl (by first | exact Or.inl rfl | exact Or.inr rfl)) (fun _ _ _ _ _ => pts_nil) (fun _ _ _ _ _ => (pe_tup (pa_cons pe_str (pa_cons pe_int (pa_cons (pv 9) pa_nil)))))))))))), ?_⟩
    try simp only [cxK]
    rw [show L2.start N__law_things [y] = [some y, none, none, none, none, none, none, none, none, none] from rfl]
    have bt := b.t; have bn := b.n; have bm := b.m; have bk := b.k
    obtain ⟨y0, xs, rfl, hs, hds⟩ := hy.tup_inv2
    obtain rfl := dqAll4i hds
    have hs0 := hs H ChgS.refl
    walk_at "go"
    rename_i D hD
    rw [Int.toNat_natCast]
    have mm : ∀ i : Nat, i ≤ m → ((List.range i).flatMap (thL n k)).length ≤ 18 := fun i hi => by
      rw [th_len]
      exact Nat.le_trans (Nat.mul_le_mul (show i ≤ 3 by omega) (show k + n ≤ 6 by omega)) (by decide)
    refine forR ⟨fun i σ' H' => ∃ D ys y2, σ' = [some (.ref y0), some (.int (t : Nat)), some (.int (n : Nat)), some (.int (m : Nat)), some (.int (k : Nat)), some (.ref D), y2, none, none, none] ∧ i ≤ m ∧ H' D = some (.lst ys) ∧ ¬ S D ∧ DqAll K S H' ys (((List.range i).flatMap (thL n k)).map dTh) ∧ Same H H', ⟨D, [], _, rfl, Nat.zero_le _, upd_same, al.no hD, .nil, same_new hD⟩, ?_, ?_⟩
    · rintro i σ' H' hi ⟨D, ys, y2, rfl, _, eD, nD, dD, s1⟩
      have mi := mm i (by omega)
      have ly := dD.len
      rw [List.length_map] at ly
      have al1 := al.sm s1
      rw [Int.zero_add]
      walk_at "go"
      rw [Int.toNat_natCast]
      refine lcThG (K := K) (z := Str.ofString "head") (l := i) al1 (by omega) (σ0 := [some (.ref y0), some (.int (t : Nat)), some (.int (n : Nat)), some (.int (m : Nat)), some (.int (k : Nat)), some (.ref D), some (.int (i : Nat)), none, none, none]) rfl (fun j D2 H2 N _ kk => by
        walk_at "go"
        rename_i p hp
        exact kk p hp) fun Rh yh HA hR eR dR sA => ?_
      have eDA := sA _ _ eD
      have lh := dR.len
      rw [List.length_map, List.length_map, List.length_range] at lh
      have lA : ys.length + yh.length ≤ 1000 := by omega
      walk_at "go"
      rename_i p hp
      have sB := same_new (o := .lst (ys ++ yh)) hp
      rw [Int.toNat_natCast]
      refine lcThG (K := K) (z := Str.ofString "unit") (l := i) ((al1.sm sA).sm sB) (by omega) (σ0 := [some (.ref y0), some (.int (t : Nat)), some (.int (n : Nat)), some (.int (m : Nat)), some (.int (k : Nat)), some (.ref D), some (.int (i : Nat)), none, none, none]) rfl (fun j D2 H2 N _ kk => by
        walk_at "go"
        rename_i p2 hp2
        exact kk p2 hp2) fun Ru yu HC hR2 eR2 dR2 sC => ?_
      have eDC := sC _ _ (upd_same (H := HA) (a := p) (o := .lst (ys ++ yh)))
      have lu := dR2.len
      rw [List.length_map, List.length_map, List.length_range] at lu
      have lB : (ys ++ yh).length + yu.length ≤ 1000 := by rw [List.length_append]; omega
      walk_at "go"
      rename_i p2 hp2
      have sD := same_new (o := .lst (ys ++ yh ++ yu)) hp2
      refine ⟨p2, _, _, rfl, by omega, upd_same, (((al1.sm sA).sm sB).sm sC).no hp2, ?_, (((s1.trans sA).trans sB).trans sC).trans sD⟩
      rw [List.range_succ, List.flatMap_append, List.map_append]
      have z : (List.flatMap (thL n k) [i]).map dTh = (((List.range k).map fun j => ((Str.ofString "head", i, j) : Th)).map dTh) ++ (((List.range n).map fun j => ((Str.ofString "unit", i, j) : Th)).map dTh) := by
        simp [thL]
      rw [z, ← List.append_assoc]
      exact (((((dD.sm sA).sm sB).sm sC).sm sD).app (((dR.sm sB).sm sC).sm sD)).app (dR2.sm sD)
    · rintro σ' H' ⟨D, ys, y2, rfl, _, eD, nD, dD, s1⟩
      have al1 := al.sm s1
      have ly := dD.len
      rw [List.length_map] at ly
      walk_at "go"
      rw [Int.toNat_natCast]
      have ml := mm m (Nat.le_refl _)
      refine lcThG (K := K) (z := Str.ofString "out") (l := 0) al1 (by omega) (σ0 := [some (.ref y0), some (.int (t : Nat)), some (.int (n : Nat)), some (.int (m : Nat)), some (.int (k : Nat)), some (.ref D), y2, none, none, none]) rfl (fun j D2 H2 N _ kk => by
        walk_at "go"
        rename_i p hp
        exact kk p hp) fun Ro yo HA hR eR dR sA => ?_
      have eDA := sA _ _ eD
      have lz := dR.len
      rw [List.length_map, List.length_map, List.length_range] at lz
      have lA : ys.length + yo.length ≤ 1000 := by omega
      walk_at "go"
      rename_i p hp
      have s3 := same_new (o := .lst (ys ++ yo)) hp
      refine q _ _ (dq_new ((al1.sm sA).no hp) upd_same ?_) ((s1.trans sA).trans s3)
      unfold thM
      rw [List.map_append]
      exact ((dD.sm sA).sm s3).app (dR.sm s3)
theorem c_lth (T : Top K mg) : Cal P w K mg base "_law_things" 1 P__law_things (spLTh K) := cal_mk T.f__law_things (ok_lth T) (fun F => F.bindsN fun _ _ _ _ _ _ us hl => match us, hl with | [_], _ => rfl)
/-! small data: what its text wants -/
structure Shw (k c : Nat) (d : PyData) : Prop where
  sh : d.showable = true
  nd : d.hasDict = false
  dp : d.depth ≤ k
  ln : d.shown.length ≤ c
theorem Shw.mono {k c k2 c2 : Nat} {d : PyData} (h : Shw k c d) (hk : k ≤ k2) (hc : c ≤ c2) : Shw k2 c2 d := ⟨h.sh, h.nd, Nat.le_trans h.dp hk, Nat.le_trans h.ln hc⟩
theorem shw_all {k c : Nat} : ∀ {ds : List PyData}, (∀ d ∈ ds, Shw k c d) → PyData.showableAll ds = true ∧ PyData.hasDictAll ds = false ∧ PyData.depthAll ds ≤ k ∧ ((PyData.shownAll ds).map fun x => x.length).sum ≤ ds.length * c ∧ (PyData.shownAll ds).length = ds.length
  | [], _ => ⟨rfl, rfl, Nat.zero_le _, Nat.zero_le _, rfl⟩
  | d :: ds, h => by
    have h0 := h d (List.mem_cons_self ..)
    obtain ⟨h1, h2, h3, h4, h5⟩ := shw_all (ds := ds) fun e he => h e (List.mem_cons_of_mem _ he)
    refine ⟨?_, ?_, ?_, ?_, ?_⟩
    · show (d.showable && PyData.showableAll ds) = true
      rw [h0.sh, h1]; rfl
    · show (d.hasDict || PyData.hasDictAll ds) = false
      rw [h0.nd, h2]; rfl
    · show max d.depth (PyData.depthAll ds) ≤ k
      exact Nat.max_le.mpr ⟨h0.dp, h3⟩
    · show d.shown.length + ((PyData.shownAll ds).map fun x => x.length).sum ≤ (ds.length + 1) * c
      have := h0.ln
      rw [Nat.succ_mul]
      omega
    · show (PyData.shownAll ds).length + 1 = ds.length + 1
      rw [h5]
theorem shw_list {k c n : Nat} {ds : List PyData} (h : ∀ d ∈ ds, Shw k c d) (l : ds.length ≤ n) : Shw (k + 1) (n * (c + 2) + 3) (.list ds) := by
  obtain ⟨h1, h2, h3, h4, h5⟩ := shw_all h
  refine ⟨h1, h2, ?_, ?_⟩
  · simp only [PyData.depth]
    omega
  · show (listText (PyData.shownAll ds)).length ≤ _
    have z := listText_len_le (PyData.shownAll ds)
    have m := Nat.mul_le_mul_right (c + 2) l
    rw [Nat.mul_add ds.length] at m
    omega
theorem shw_tup {k c n : Nat} {ds : List PyData} (h : ∀ d ∈ ds, Shw k c d) (l : ds.length ≤ n) : Shw (k + 1) (n * (c + 2) + 3) (.tuple ds) := by
  obtain ⟨h1, h2, h3, h4, h5⟩ := shw_all h
  refine ⟨h1, h2, ?_, ?_⟩
  · simp only [PyData.depth]
    omega
  · show (tupleText (PyData.shownAll ds)).length ≤ _
    have z := tupleText_len_le (PyData.shownAll ds)
    have m := Nat.mul_le_mul_right (c + 2) l
    rw [Nat.mul_add ds.length] at m
    omega
/-! _law_like -/
def spLikeG (K : PySem.W.Frag) : Sp := fun vs H Q _ => ∃ (x y : V) (d : PyData), vs = [x, y] ∧ Dp K H x d ∧ Dp K H y d ∧ Shw 60 1000000 d ∧ Q (.bl true) H
theorem g_likeG {x y : V} {d : PyData} {H : Hp} {Q : VK} {E : XK} (h1 : Dp K H x d) (h2 : Dp K H y d) (sw : Shw 60 1000000 d) (q : Q (.bl true) H) : spLikeG K [x, y] H Q E := ⟨x, y, d, rfl, h1, h2, sw, q⟩
theorem ok_likeG {f : Addr} {fd : FuncData} (T : Top K mg) (F : FnP K "_law_like" s__law_like f fd) : FnG P w K mg base CX0 1 f fd P__law_like (spLikeG K) := by
  refine FunD.okG F sc__law_like (fun vs H Q E h => ?_) (fun cdv A outer s H vs Q E hr hgd h => ?_)
  · obtain ⟨x, y, d, rfl, _⟩ := h
    rfl
  · obtain ⟨x, y, d, rfl, hx, hy, sw, q⟩ := h
    refine ⟨_, PSs.nox (pss_one (ps_ret (pe_cmpR op_eq (pe_callB (k_reprD (K := K) (by rfl) hgd hr.units) (by rfl) T.z_repr (by decide +kernel) (pa_cons (pv 0) pa_nil)) (pe_callB (k_reprD (K := K) (by rfl) hgd hr.units) (by rfl) T.z_repr (by decide +kernel) (pa_cons (pv 1) pa_nil)) (nomark _)))), ?_⟩
    try simp only [cxK]
    rw [show L2.start N__law_like [x, y] = [some x, some y] from rfl]
    walk_at "go"
    have sz : d.shown.length ≤ sizeLine := Nat.le_trans sw.ln (by decide)
    refine g_reprD hx sw.sh sw.nd sw.dp sz ?_
    walk_at "go"
    refine g_reprD hy sw.sh sw.nd sw.dp sz ?_
    walk_at "go"
    rw [decide_eq_true rfl]
    exact q
theorem c_likeG (T : Top K mg) : CalG P w K mg base "_law_like" 1 P__law_like (spLikeG K) := calg_mk T.f__law_like (ok_likeG T) (fun F => F.bindsN fun _ _ _ _ _ _ us hl => match us, hl with | [_, _], _ => rfl)
end

set_option Elab.async false
set_option linter.all false
set_option maxRecDepth 100000
set_option maxHeartbeats 4000000
open PySem PySem.Spec L2





section
variable {P : Program} {w : World} {K : PySem.W.Frag} {mg : Str → Option Value} {base : Heap}
mutual
def frzD : PyData → PyData
  | .list ds => .tuple (frzAll ds)
  | .tuple ds => .tuple (frzAll ds)
  | d => d
def frzAll : List PyData → List PyData
  | [] => []
  | d :: ds => frzD d :: frzAll ds
end
theorem frzAll_map : ∀ ds : List PyData, frzAll ds = ds.map frzD
  | [] => rfl
  | d :: ds => by rw [List.map_cons, ← frzAll_map ds]; rfl
/-! tuples stay when lists are written -/
theorem sqT_free {S A : Addr → Prop} {H : Hp} {b : Addr} {xs : List V} (hA : ∀ z, A z → ∃ ys, H z = some (.lst ys)) (h : ∀ H', ChgS S H H' → SqT K H' b xs) : ∀ H', ChgS (fun z => S z ∨ A z) H H' → SqT K H' b xs := by
  intro H' c
  classical
  have c2 : ChgS S H (fun z => if A z then H z else H' z) := fun z o n e => by
    by_cases a : A z
    · show (if A z then H z else H' z) = _
      rw [if_pos a]; exact e
    · show (if A z then H z else H' z) = _
      rw [if_neg a]; exact c z o (fun q => q.elim n a) e
  rcases h _ c2 with (r | ⟨o, r⟩) | k
  · by_cases a : A b
    · obtain ⟨ys, e⟩ := hA b a
      have r : (if A b then H b else H' b) = _ := r
      rw [if_pos a, e] at r
      cases r
    · have r : (if A b then H b else H' b) = _ := r
      rw [if_neg a] at r
      exact .inl (.inl r)
  · by_cases a : A b
    · obtain ⟨ys, e⟩ := hA b a
      have r : (if A b then H b else H' b) = _ := r
      rw [if_pos a, e] at r
      cases r
    · have r : (if A b then H b else H' b) = _ := r
      rw [if_neg a] at r
      exact .inl (.inr ⟨o, r⟩)
  · exact .inr k
mutual
theorem Dq.free {S A : Addr → Prop} {H : Hp} (hA : ∀ z, A z → ∃ ys, H z = some (.lst ys)) : ∀ {x : V} {d : PyData}, Dq K S H x d → frzD d = d → Dq K (fun z => S z ∨ A z) H x d
  | _, _, .non, _ => .non
  | _, _, .bl b, _ => .bl b
  | _, _, .int i, _ => .int i
  | _, _, .str z, _ => .str z
  | _, _, .lst _ _, e => by
    have e : PyData.tuple _ = PyData.list _ := e
    cases e
  | _, _, .tup (ds := ds) h hs, e => by
    have e : PyData.tuple (frzAll ds) = PyData.tuple ds := e
    injection e with e
    exact .tup (sqT_free hA h) (DqAll.free hA hs e)
theorem DqAll.free {S A : Addr → Prop} {H : Hp} (hA : ∀ z, A z → ∃ ys, H z = some (.lst ys)) : ∀ {xs : List V} {ds : List PyData}, DqAll K S H xs ds → frzAll ds = ds → DqAll K (fun z => S z ∨ A z) H xs ds
  | _, _, .nil, _ => .nil
  | _, _, .cons (d := d) (ds := ds) h hs, e => by
    have e : frzD d :: frzAll ds = d :: ds := e
    injection e with e1 e2
    exact .cons (Dq.free hA h e1) (DqAll.free hA hs e2)
end
/-- tuples stay through writes of lists -/
theorem Dq.past {S A : Addr → Prop} {H H' : Hp} {x : V} {d : PyData} (h : Dq K S H x d) (e : frzD d = d) (hA : ∀ z, A z → ∃ ys, H z = some (.lst ys)) (c : ∀ b o, ¬ S b → ¬ A b → H b = some o → H' b = some o) : Dq K S H' x d :=
  ((h.free hA e).chg (fun b o n e => c b o (fun z => n (.inl z)) (fun z => n (.inr z)) e)).tr fun H2 c2 b o n e => c2 b o (fun z => n (.inl z)) e

abbrev FS : Addr → Prop := fun _ => False
theorem al_F {H : Hp} : Al FS H := fun _ z => z.elim
/-- nothing but lists changes -/
def Kp (H H' : Hp) : Prop := ∀ b o, (∀ ys, o ≠ .lst ys) → H b = some o → H' b = some o
theorem Kp.refl {H : Hp} : Kp H H := fun _ _ _ e => e
theorem Kp.trans {H H1 H2 : Hp} (x : Kp H H1) (y : Kp H1 H2) : Kp H H2 := fun b o n e => y b o n (x b o n e)
theorem Kp.sm {H H' : Hp} (s : Same H H') : Kp H H' := fun b o _ e => s b o e
theorem Kp.put {H : Hp} {p : Addr} {xs ys : List V} (h : H p = some (.lst xs)) : Kp H (upd H p (.lst ys)) := fun b o n e => by
  rw [upd_ne (fun z => by rw [z, h] at e; injection e with e; exact n _ e.symm)]
  exact e
theorem Kp.bag {H H' : Hp} {a l : Addr} (B : Bag H a l) (c : Chg a H H') : Kp H H' := fun b o n e => by
  refine c b o (fun z => ?_) e
  obtain ⟨_, _, _, _, _, e1, _⟩ := B
  rw [z, e1] at e
  injection e with e
  exact n _ e.symm
theorem Dq.kp {H H' : Hp} {x : V} {d : PyData} (h : Dq K FS H x d) (e : frzD d = d) (k : Kp H H') : Dq K FS H' x d :=
  Dq.past (A := fun z => ∃ ys, H z = some (.lst ys)) h e (fun _ z => z) fun b o _ na e => k b o (fun ys z => na ⟨ys, by rw [e, z]⟩) e
theorem frz_th (z : Th) : frzD (dTh z) = dTh z := rfl
theorem frz_ths : ∀ zs : List Th, frzAll (zs.map dTh) = zs.map dTh
  | [] => rfl
  | z :: zs => by
    show frzD (dTh z) :: frzAll (zs.map dTh) = _
    rw [frz_th, frz_ths zs]
    rfl
theorem DqAll.kpT {H H' : Hp} (k : Kp H H') : ∀ {xs : List V} {zs : List Th}, DqAll K FS H xs (zs.map dTh) → DqAll K FS H' xs (zs.map dTh)
  | _, [], .nil => .nil
  | _, z :: zs, .cons h hs => .cons (h.kp (frz_th z) k) (DqAll.kpT k hs)
/-- the law's lots: lists of their own, each of things -/
structure Lots (K : PySem.W.Frag) (H : Hp) (cs : List Addr) (zss : List (List Th)) : Prop where
  nd : cs.Nodup
  ln : cs.length = zss.length
  at_ : ∀ (i : Nat) (c : Addr) (zs : List Th), cs[i]? = some c → zss[i]? = some zs → ∃ vs, H c = some (.lst vs) ∧ DqAll K FS H vs (zs.map dTh)
theorem Lots.go {H H' : Hp} {cs : List Addr} {zss : List (List Th)} (h : Lots K H cs zss) (k : Kp H H') (c : ∀ b ∈ cs, ∀ o, H b = some o → H' b = some o) : Lots K H' cs zss :=
  ⟨h.nd, h.ln, fun i a zs h1 h2 => by
    obtain ⟨vs, e, d⟩ := h.at_ i a zs h1 h2
    exact ⟨vs, c a (List.mem_of_getElem? h1) _ e, d.kpT k⟩⟩
/-- one of them is written -/
theorem Lots.put {H : Hp} {cs : List Addr} {zss : List (List Th)} (h : Lots K H cs zss) {i : Nat} {c : Addr} {xs vs : List V} {zs : List Th} (hi : cs[i]? = some c) (hx : H c = some (.lst xs)) (hv : DqAll K FS H vs (zs.map dTh)) :
    Lots K (upd H c (.lst vs)) cs (zss.set i zs) := by
  have k : Kp H (upd H c (.lst vs)) := Kp.put hx
  refine ⟨h.nd, by rw [List.length_set]; exact h.ln, fun j b ys h1 h2 => ?_⟩
  by_cases e : j = i
  · subst e
    obtain rfl := Option.some.inj (hi.symm.trans h1)
    have jl : j < zss.length := by rw [← h.ln]; exact (List.getElem?_eq_some_iff.mp h1).1
    rw [List.getElem?_set_self jl] at h2
    obtain rfl := Option.some.inj h2
    exact ⟨vs, upd_same, hv.kpT k⟩
  · rw [List.getElem?_set_ne (fun z => e z.symm)] at h2
    obtain ⟨ws, e1, d1⟩ := h.at_ j b ys h1 h2
    have nb : b ≠ c := fun z => by
      subst z
      have il := (List.getElem?_eq_some_iff.mp hi).1
      have jl := (List.getElem?_eq_some_iff.mp h1).1
      have eq := (List.getElem?_eq_some_iff.mp h1).2.trans (List.getElem?_eq_some_iff.mp hi).2.symm
      have pw := List.pairwise_iff_getElem.mp h.nd
      rcases Nat.lt_or_gt_of_ne e with z | z
      · exact pw j i jl il z eq
      · exact pw i j il jl z eq.symm
    exact ⟨ws, by rw [upd_ne nb]; exact e1, d1.kpT k⟩
theorem Lots.dq {H : Hp} {cs : List Addr} {zss : List (List Th)} (h : Lots K H cs zss) : DqAll K FS H (cs.map V.ref) (zss.map fun zs => .list (zs.map dTh)) := by
  have go : ∀ (cs : List Addr) (zss : List (List Th)), cs.length = zss.length → (∀ (i : Nat) (c : Addr) (zs : List Th), cs[i]? = some c → zss[i]? = some zs → ∃ vs, H c = some (.lst vs) ∧ DqAll K FS H vs (zs.map dTh)) → DqAll K FS H (cs.map V.ref) (zss.map fun zs => .list (zs.map dTh)) := by
    intro cs
    induction cs with
    | nil => intro zss l _; cases zss with | nil => exact .nil | cons _ _ => cases l
    | cons c cs ih =>
      intro zss l h
      cases zss with
      | nil => cases l
      | cons zs zss =>
        obtain ⟨vs, e, d⟩ := h 0 c zs rfl rfl
        exact .cons (dq_new (fun z => z) e d) (ih zss (Nat.succ.inj l) fun i c' zs' h1 h2 => h (i + 1) c' zs' h1 h2)
  exact go cs zss h.ln h.at_
/-! _law_figure -/
def spFig : Sp := fun vs H Q _ => ∃ (a l : Addr), vs = [.ref a] ∧ Bag H a l ∧ ∀ (p : Addr) (t n m k : Nat) (H' : Hp), ShB t n m k → H p = none → H' p = some (.tup [.int (t : Nat), .int (n : Nat), .int (m : Nat), .int (k : Nat)]) → Bag H' a l → Chg a H H' → Q (.ref p) H'
theorem ok_fig (T : Top K mg) {f : Addr} {fd : FuncData} (F : FnP K "_law_figure" s__law_figure f fd) : FnOk P w K mg base CX0 3 f fd P__law_figure spFig := by
  have C__law_draw := c_draw1 (P := P) (w := w) (base := base) T
  have C__law_pick := c_of (P := P) (w := w) (base := base) T
  refine F.ok sc__law_figure (fun vs H Q E h => ?_) (fun cdv A outer s H vs Q E hr h => ?_)
  · obtain ⟨a, l, rfl, _⟩ := h
    rfl
  · obtain ⟨a, l, rfl, B, q⟩ := h
    refine ⟨_, PSs.nox (pss_one (ps_ret (pe_tup (pa_cons (pe_op op_add pe_int (pe_cal C__law_draw (hr.mono (by first | decide | omega)) (by rfl) (pa_cons (pv 0) (pa_cons pe_int pa_nil)))) (pa_cons (pe_op op_add pe_int (pe_cal C__law_draw (hr.mono (by first | decide | omega)) (by rfl) (pa_cons (pv 0) (pa_cons pe_int pa_nil)))) (pa_cons (pe_cal C__law_pick (hr.mono (by first | decide | omega)) (by rfl) (pa_cons (pv 0) (pa_cons (pe_lst (pa_cons pe_int (pa_cons pe_int (pa_cons pe_int (pa_cons pe_int pa_nil))))) pa_nil))) (pa_cons (pe_op op_add pe_int (pe_cal C__law_draw (hr.mono (by first | decide | omega)) (by rfl) (pa_cons (pv 0) (pa_cons pe_int pa_nil)))) pa_nil))))))), ?_⟩
    try simp only [cxK]
    rw [show L2.start N__law_figure [.ref a] = [some (.ref a)] from rfl]
    walk_at "go"
    refine g_drawB B ⟨by omega, by omega⟩ fun r1 H1 a1 b1 B1 c1 => ?_
    walk_at "go"
    refine g_drawB B1 ⟨by omega, by omega⟩ fun r2 H2 a2 b2 B2 c2 => ?_
    walk_at "go"
    rename_i p hp
    obtain ⟨na, nl⟩ := bag_apart B2 hp
    refine g_of (bag_new B2 hp) upd_same na (by decide) fun x H3 hx B3 c3 => ?_
    obtain ⟨m, rfl, m1, m2⟩ : ∃ m : Nat, x = .int (m : Nat) ∧ 1 ≤ m ∧ m ≤ 3 := by
      simp only [List.mem_cons, List.not_mem_nil, or_false] at hx
      rcases hx with rfl | rfl | rfl | rfl
      · exact ⟨1, rfl, by omega, by omega⟩
      · exact ⟨2, rfl, by omega, by omega⟩
      · exact ⟨1, rfl, by omega, by omega⟩
      · exact ⟨3, rfl, by omega, by omega⟩
    walk_at "go"
    refine g_drawB B3 ⟨by omega, by omega⟩ fun r4 H4 a4 b4 B4 c4 => ?_
    walk_at "go"
    rename_i p2 hp2
    have e1 : (2 : Int) + r1 = ((2 + r1.toNat : Nat) : Int) := by omega
    have e2 : (1 : Int) + r2 = ((1 + r2.toNat : Nat) : Int) := by omega
    have e4 : (1 : Int) + r4 = ((1 + r4.toNat : Nat) : Int) := by omega
    rw [e1, e2, e4]
    have cc : Chg a H H4 := ((((c1.trans c2).trans (Chg.new hp)).trans c3).trans c4)
    refine q p2 _ _ m _ _ ⟨by omega, by omega, by omega, by omega⟩ ?_ upd_same (bag_new B4 hp2) (cc.trans (Chg.new hp2))
    cases h : H p2 with
    | none => rfl
    | some o =>
      by_cases z : p2 = a
      · obtain ⟨_, _, _, _, _, eB, _⟩ := B4
        rw [← z, hp2] at eB
        cases eB
      · have := cc p2 o z h
        rw [hp2] at this
        cases this
theorem c_fig (T : Top K mg) : Cal P w K mg base "_law_figure" 3 P__law_figure spFig := cal_mk T.f__law_figure (ok_fig T) (fun F => F.bindsN fun _ _ _ _ _ _ us hl => match us, hl with | [_], _ => rfl)
end

set_option Elab.async false
set_option linter.all false
set_option maxRecDepth 100000
set_option maxHeartbeats 4000000
open PySem PySem.Spec L2





section
variable {P : Program} {w : World} {K : PySem.W.Frag} {mg : Str → Option Value} {base : Heap}
/-! _law_dealt -/
theorem perm_set {zss : List (List Th)} {i : Nat} {zs ys : List Th} {z : Th} (h : zss[i]? = some zs) (p : ys.Perm (z :: zs)) : (zss.set i ys).flatten.Perm (z :: zss.flatten) := by
  induction zss generalizing i with
  | nil => simp at h
  | cons a l ih =>
    cases i with
    | zero =>
      obtain rfl := Option.some.inj h
      rw [List.set_cons_zero, List.flatten_cons, List.flatten_cons, ← List.cons_append]
      exact p.append_right _
    | succ i =>
      rw [List.set_cons_succ, List.flatten_cons, List.flatten_cons]
      exact ((ih (i := i) h).append_left a).trans List.perm_middle
theorem perm_ins {zs : List Th} {z : Th} {r : Nat} : (zs.take r ++ [z] ++ zs.drop r).Perm (z :: zs) := by
  have e : zs.take r ++ [z] ++ zs.drop r = zs.take r ++ z :: zs.drop r := by simp
  rw [e]
  refine List.perm_middle.trans ?_
  rw [List.take_append_drop]
theorem new_mem {H : Hp} {A : List Addr} (n : New H A) {b : Addr} {o : HO} (h : H b = some o) : b ∉ A := fun z => by
  have := n b z
  rw [h] at this
  cases this
def spDealt (K : PySem.W.Frag) : Sp := fun vs H Q _ => ∃ (a l pl : Addr) (ps : List V) (zs : List Th) (many : Nat), vs = [.ref a, .ref pl, .int (many : Nat)] ∧ Bag H a l ∧ H pl = some (.lst ps) ∧ pl ≠ a ∧ DqAll K FS H ps (zs.map dTh) ∧ zs.length ≤ 60 ∧ 1 ≤ many ∧ many ≤ 5 ∧
  ∀ (L : Addr) (cs : List Addr) (zss : List (List Th)) (H' : Hp), New H (L :: cs) → L ∉ cs → H' L = some (.lst (cs.map V.ref)) → Lots K H' cs zss → zss.length = many → zss.flatten.Perm zs → Bag H' a l → Chg a H H' → Q (.ref L) H'
theorem ok_dealt (T : Top K mg) {f : Addr} {fd : FuncData} (F : FnP K "_law_dealt" s__law_dealt f fd) : FnOk P w K mg base CX0 3 f fd P__law_dealt (spDealt K) := by
  have C__law_draw := c_draw1 (P := P) (w := w) (base := base) T
  have C__law_pick := c_of (P := P) (w := w) (base := base) T
  refine F.ok sc__law_dealt (fun vs H Q E h => ?_) (fun cdv A outer s H vs Q E hr h => ?_)
  · obtain ⟨a, l, pl, ps, zs, many, rfl, _⟩ := h
    rfl
  · obtain ⟨a, l, pl, ps, zs, many, rfl, B, hpl, npl, hps, z60, m1, m5, q⟩ := h
    refine ⟨_, PSs.nox (pss_cons (ps_setLc (i := 3) (own := [("_law_k", 4)]) (g := gName 4) (by rfl) sc__law_dealt.nd rfl rfl (sw_true rfl rfl rfl (by decide +kernel)) (pi_range1 (by rfl) T.z_range (pa_cons (pv 2) pa_nil)) (blkOk_by (own := [("_law_k", 4)]) (N := N__law_dealt) (sc := defScope s__law_dealt) (by decide +kernel)) (fun _ _ _ _ _ => pg_name (i := 4) sc__law_dealt.nd rfl (by first | exact Or.inl rfl | exact Or.inr rfl)) (fun _ _ _ _ _ => pts_nil) (fun _ _ _ _ _ => (pe_lst pa_nil)))
    (pss_cons (ps_for PassesOwn.never rfl (k_pil (K := K) (by rfl) (pv 1)) (pg_name (i := 5) sc__law_dealt.nd rfl (by first | exact Or.inl rfl | exact Or.inr rfl))
    (pss_cons (ps_set (i := 6) sc__law_dealt.nd rfl (by first | exact Or.inl rfl | exact Or.inr rfl) (pe_cal C__law_pick (hr.mono (by first | decide | omega)) (by rfl) (pa_cons (pv 0) (pa_cons (pv 3) pa_nil))))
    (pss_one (ps_expr (pe_bm PySem.F.plainAttrs_list PySem.F.slot_list_insert PySem.F.type_list_insert mt_insert (pv 6) (pa_cons (pe_cal C__law_draw (hr.mono (by first | decide | omega)) (by rfl) (pa_cons (pv 0) (pa_cons (pe_op op_add (pe_callB (k_len (K := K) (by rfl)) (by rfl) T.z_len (by decide +kernel) (pa_cons (pv 6) pa_nil)) pe_int) pa_nil))) (pa_cons (pv 5) pa_nil)))))))
    (pss_one (ps_ret (pv 3))))), ?_⟩
    try simp only [cxK]
    rw [show L2.start N__law_dealt [.ref a, .ref pl, .int (many : Nat)] = [some (.ref a), some (.ref pl), some (.int (many : Nat)), none, none, none, none] from rfl]
    have lps : ps.length = zs.length := by rw [hps.len, List.length_map]
    walk_at "go"
    rw [Int.toNat_natCast]
    refine lcR (σ0 := [some (.ref a), some (.ref pl), some (.int (many : Nat)), none, none, none, none]) rfl fun D hD => ⟨fun i H' => ∃ cs, H' D = some (.lst (cs.map V.ref)) ∧ cs.length = i ∧ cs.Nodup ∧ D ∉ cs ∧ (∀ c ∈ cs, H' c = some (.lst [])) ∧ New H cs ∧ Same H H', ⟨[], upd_same, rfl, .nil, List.not_mem_nil, fun c h => absurd h List.not_mem_nil, New.nil, same_new hD⟩, ?_, ?_⟩
    · rintro i H1 hi ⟨cs, e1, lc, nd, nD, hc, nc, s1⟩
      walk_at "go"
      rename_i p hp
      have pD : p ≠ D := fun z => by rw [z, e1] at hp; cases hp
      have pc : p ∉ cs := fun z => by rw [hc p z] at hp; cases hp
      refine g_turnD (acc := cs.map V.ref) (by rw [upd_ne pD.symm]; exact e1) (by rw [List.length_map]; omega) ⟨cs ++ [p], by rw [upd_same, List.map_append]; rfl, by simp [lc], ?_, ?_, ?_, ?_, ?_⟩
      · rw [List.nodup_append]
        exact ⟨nd, by simp, fun x hx y hy z => pc (by rw [List.mem_singleton.mp hy] at z; rw [← z]; exact hx)⟩
      · intro z
        rcases List.mem_append.mp z with z | z
        · exact nD z
        · exact pD (List.mem_singleton.mp z).symm
      · intro c hc2
        rcases List.mem_append.mp hc2 with z | z
        · rw [upd_ne (fun e => nD (by rw [← e]; exact z)), upd_ne (fun e => pc (by rw [← e]; exact z))]
          exact hc c z
        · rw [List.mem_singleton.mp z, upd_ne pD, upd_same]
      · exact nc.app (New.cons ((s1.trans fun _ _ e => e).free hp) New.nil)
      · exact fun b o e => by rw [upd_ne (ne_of_none e hD)]; exact same_new hp _ _ (s1 _ _ e)
    · rintro H1 ⟨cs, e1, lc, nd, nD, hc, nc, s1⟩
      walk_at "go"
      have nDc : New H (D :: cs) := New.cons hD nc
      have ac : a ∉ D :: cs := fun z => by
        obtain ⟨_, _, _, _, _, eB, _⟩ := B
        exact new_mem nDc eB z
      have plc : pl ∉ D :: cs := new_mem nDc hpl
      have lDc : l ∉ D :: cs := fun z => by
        obtain ⟨_, _, _, _, _, _, eL, _⟩ := B
        exact new_mem nDc eL z
      have L0 : Lots K H1 cs (List.replicate many []) := by
        refine ⟨nd, by rw [List.length_replicate]; exact lc, fun i c zs' h1 h2 => ⟨[], hc c (List.mem_of_getElem? h1), ?_⟩⟩
        obtain ⟨_, h2⟩ := List.getElem?_eq_some_iff.mp h2
        rw [List.getElem_replicate] at h2
        subst h2
        exact .nil
      have B1 : Bag H1 a l := bag_sm B s1
      refine forL (xs := ps) ⟨fun i σ' H' => ∃ zss y z, σ' = [some (.ref a), some (.ref pl), some (.int (many : Nat)), some (.ref D), none, y, z] ∧ i ≤ zs.length ∧ Lots K H' cs zss ∧ zss.length = many ∧ zss.flatten.Perm (zs.take i) ∧ Bag H' a l ∧ Chg a H H' ∧ H' D = some (.lst (cs.map V.ref)) ∧ H' pl = some (.lst ps) ∧ DqAll K FS H' ps (zs.map dTh),
        ⟨_, _, _, rfl, Nat.zero_le _, L0, List.length_replicate, by simp, B1, sm_chg s1, e1, s1 _ _ hpl, hps.sm s1⟩, ?_, ?_, ?_⟩
      · rintro i σ' H' _ ⟨zss, y, z, rfl, _, _, _, _, _, _, _, e, _⟩
        exact .of e
      · rintro i x σ' H' hx ⟨zss, y, z, rfl, _, lo, lz, pm, B2, c2, eD, ePl, dps⟩
        obtain ⟨d, hd, hq⟩ := dps.at hx
        rw [List.getElem?_map, Option.map_eq_some_iff] at hd
        obtain ⟨zt, hzt, rfl⟩ := hd
        have il := (List.getElem?_eq_some_iff.mp hzt).1
        walk_at "go"
        refine g_of B2 eD (fun z => ac (by rw [← z]; exact List.mem_cons_self)) (by rw [List.length_map]; omega) fun v H3 hv B3 c3 => ?_
        obtain ⟨c, hcm, rfl⟩ := List.mem_map.mp hv
        obtain ⟨j, hj⟩ := List.getElem?_of_mem hcm
        have jl := (List.getElem?_eq_some_iff.mp hj).1
        have hz2 : zss[j]? = some zss[j] := List.getElem?_eq_getElem (by omega)
        have kp3 : Kp H' H3 := Kp.bag B2 c3
        have ca : c ≠ a := fun z => ac (by rw [← z]; exact List.mem_cons_of_mem _ hcm)
        have lo3 : Lots K H3 cs zss := lo.go kp3 fun b hb o e => c3 b o (fun z => ac (by rw [← z]; exact List.mem_cons_of_mem _ hb)) e
        obtain ⟨ws, ec, dws⟩ := lo3.at_ j c _ hj hz2
        have lw : ws.length ≤ 60 := by
          rw [dws.len, List.length_map]
          have z1 : zss[j].length ≤ zss.flatten.length := (List.sublist_flatten_of_mem (List.getElem_mem _)).length_le
          rw [pm.length_eq, List.length_take] at z1
          omega
        walk_at "go"
        refine g_drawB B3 ⟨by omega, by omega⟩ fun r H4 a4 b4 B4 c4 => ?_
        walk_at "go"
        have kp4 : Kp H3 H4 := Kp.bag B3 c4
        have ec4 : H4 c = some (.lst ws) := c4 _ _ ca ec
        have lo4 : Lots K H4 cs zss := lo3.go kp4 fun b hb o e => c4 b o (fun z => ac (by rw [← z]; exact List.mem_cons_of_mem _ hb)) e
        have nca : ∀ b, b ∉ cs → b ≠ c := fun b nb z => nb (by rw [z]; exact hcm)
        refine ⟨c, ws, r, x, rfl, rfl, ec4, Nat.lt_of_le_of_lt lw (by decide), a4, by omega, ?_⟩
        have dv : DqAll K FS H4 (ws.take r.toNat ++ [x] ++ ws.drop r.toNat) (((zss[j].take r.toNat) ++ [zt] ++ zss[j].drop r.toNat).map dTh) := by
          rw [List.map_append, List.map_append, List.map_take, List.map_drop]
          exact (((dws.kpT kp4).take _).app (.cons ((hq.kp (frz_th zt) kp3).kp (frz_th zt) kp4) .nil)).app ((dws.kpT kp4).drop _)
        have kp5 : Kp H4 (upd H4 c (.lst (ws.take r.toNat ++ [x] ++ ws.drop r.toNat))) := Kp.put ec4
        have kk := (kp3.trans kp4).trans kp5
        walk_at "go"
        refine ⟨zss.set j (zss[j].take r.toNat ++ [zt] ++ zss[j].drop r.toNat), _, _, rfl, by omega, lo4.put hj ec4 dv, by rw [List.length_set]; exact lz, ?_, ?_, ?_, ?_, ?_, dps.kpT kk⟩
        · rw [List.take_add_one, hzt]
          refine (perm_set hz2 perm_ins).trans ?_
          exact (List.Perm.cons zt pm).trans (List.perm_append_comm (l₁ := [zt]))
        · exact bag_chg B4 ca fun z => lDc (by rw [← z]; exact List.mem_cons_of_mem _ hcm)
        · exact fun b o n e => by
            rw [upd_ne (nca b (fun z => new_mem nDc e (List.mem_cons_of_mem _ z)))]
            exact c4 _ _ n (c3 _ _ n (c2 _ _ n e))
        · rw [upd_ne (nca D nD)]
          exact c4 _ _ (fun z => ac (by rw [← z]; exact List.mem_cons_self)) (c3 _ _ (fun z => ac (by rw [← z]; exact List.mem_cons_self)) eD)
        · rw [upd_ne (nca pl (fun z => plc (List.mem_cons_of_mem _ z)))]
          exact c4 _ _ npl (c3 _ _ npl ePl)
      · rintro σ' H' ⟨zss, y, z, rfl, _, lo, lz, pm, B2, c2, eD, ePl, dps⟩
        walk_at "go"
        rw [lps, List.take_length] at pm
        exact q D cs zss H' nDc nD eD lo lz pm B2 c2
theorem c_dealt (T : Top K mg) : Cal P w K mg base "_law_dealt" 3 P__law_dealt (spDealt K) := cal_mk T.f__law_dealt (ok_dealt T) (fun F => F.bindsN fun _ _ _ _ _ _ us hl => match us, hl with | [_, _, _], _ => rfl)
end

set_option Elab.async false
set_option linter.all false
set_option maxRecDepth 100000
set_option maxHeartbeats 4000000
open PySem PySem.Spec L2





section
variable {P : Program} {w : World} {K : PySem.W.Frag} {mg : Str → Option Value} {base : Heap}
/-! copies of lots -/
theorem Lots.snoc {H : Hp} {cs : List Addr} {zss : List (List Th)} (h : Lots K H cs zss) {c : Addr} {vs : List V} {zs : List Th} (nc : c ∉ cs) (e : H c = some (.lst vs)) (d : DqAll K FS H vs (zs.map dTh)) : Lots K H (cs ++ [c]) (zss ++ [zs]) := by
  refine ⟨?_, by simp [h.ln], fun i b ys h1 h2 => ?_⟩
  · rw [List.nodup_append]
    exact ⟨h.nd, by simp, fun x hx y hy z => nc (by rw [List.mem_singleton.mp hy] at z; rw [← z]; exact hx)⟩
  · rcases Nat.lt_or_ge i cs.length with il | il
    · rw [List.getElem?_append_left il] at h1
      rw [List.getElem?_append_left (by rw [← h.ln]; exact il)] at h2
      exact h.at_ i b ys h1 h2
    · rw [List.getElem?_append_right il] at h1
      rw [List.getElem?_append_right (by rw [← h.ln]; exact il)] at h2
      have e0 : i - cs.length = 0 := by
        have := (List.getElem?_eq_some_iff.mp h1).1
        simpa using this
      rw [e0] at h1
      rw [← h.ln, e0] at h2
      obtain rfl := Option.some.inj h1
      obtain rfl := Option.some.inj h2
      exact ⟨vs, e, d⟩
theorem lcCopies {g : TG} {tt : TT} {te : TE} {vs : List Nat} {σ σ0 : L2.St} {H : Hp} {Q : VK} {L : Addr} {cs : List Addr} {zss : List (List Th)} (hL : H L = some (.lst (cs.map V.ref))) (lo : Lots K H cs zss) (hl : cs.length ≤ 1000) (hw : wipe σ vs = σ0)
    (step : ∀ (D c : Addr) (ws : List V) (zs : List Th) (H' : Hp) (N : Hp → Prop), zs ∈ zss → ws.length = zs.length → H' c = some (.lst ws) → (∀ p, H' p = none → TurnD D N (.ref p) (upd H' p (.lst ws))) → Turn1 g tt te vs σ0 D (.ref c) H' N)
    (done : ∀ (L' : Addr) (cs' : List Addr) (H' : Hp), New H (L' :: cs') → L' ∉ cs' → H' L' = some (.lst (cs'.map V.ref)) → Lots K H' cs' zss → Same H H' → Q (.ref L') H') : LcG (Itl K L) g tt te vs σ Q H := by
  refine lcL (xs := cs.map V.ref) hw fun D hD => ⟨fun i H' => ∃ cs', H' D = some (.lst (cs'.map V.ref)) ∧ D ∉ cs' ∧ New H cs' ∧ Lots K H' cs' (zss.take i) ∧ Same H H', ⟨[], upd_same, List.not_mem_nil, New.nil, ⟨.nil, rfl, fun i c zs h => by simp at h⟩, same_new hD⟩, ?_, ?_, ?_⟩
  · rintro i H' _ ⟨cs', _, _, _, _, s⟩
    exact .of (s _ _ hL)
  · rintro i x H' hx ⟨cs', eD, nD, nc, lo', s⟩
    rw [List.getElem?_map, Option.map_eq_some_iff] at hx
    obtain ⟨c, hc, rfl⟩ := hx
    have il := (List.getElem?_eq_some_iff.mp hc).1
    have il2 : i < zss.length := by rw [← lo.ln]; exact il
    have hz : zss[i]? = some zss[i] := List.getElem?_eq_getElem il2
    obtain ⟨ws, ec, dw⟩ := lo.at_ i c _ hc hz
    refine step D c ws zss[i] H' _ (List.getElem_mem _) (by rw [dw.len, List.length_map]) (s _ _ ec) fun p hp => ?_
    have pD : p ≠ D := fun z => by rw [z, eD] at hp; cases hp
    have pc : p ∉ cs' := fun z => by
      obtain ⟨j, hj⟩ := List.getElem?_of_mem z
      have jl := (List.getElem?_eq_some_iff.mp hj).1
      rw [lo'.ln] at jl
      obtain ⟨_, e, _⟩ := lo'.at_ j p _ hj (List.getElem?_eq_getElem jl)
      rw [hp] at e
      cases e
    have s2 := same_new hp (o := .lst ws)
    have lcs : cs'.length ≤ 1000 := by
      rw [lo'.ln, List.length_take]
      have := lo.ln
      omega
    have k1 : Kp H' (upd (upd H' p (.lst ws)) D (.lst ((cs' ++ [p]).map V.ref))) := (Kp.sm s2).trans (Kp.put (by rw [upd_ne pD.symm]; exact eD))
    have cD : ∀ b, b ≠ D → ∀ o, H' b = some o → (upd (upd H' p (.lst ws)) D (.lst ((cs' ++ [p]).map V.ref))) b = some o := fun b n o e => by rw [upd_ne n]; exact s2 _ _ e
    have ea : cs'.map V.ref ++ [V.ref p] = (cs' ++ [p]).map V.ref := by rw [List.map_append]; rfl
    refine g_turnD (acc := cs'.map V.ref) (by rw [upd_ne pD.symm]; exact eD) (by rw [List.length_map]; exact lcs) ?_
    rw [ea]
    refine ⟨cs' ++ [p], upd_same, ?_, nc.app (New.cons (s.free hp) New.nil), ?_, ?_⟩
    · intro z
      rcases List.mem_append.mp z with z | z
      · exact nD z
      · exact pD (List.mem_singleton.mp z).symm
    · rw [List.take_add_one, hz]
      exact (lo'.go k1 fun b hb o e => cD b (fun z => nD (by rw [← z]; exact hb)) o e).snoc pc (by rw [upd_ne pD, upd_same]) ((dw.sm s).kpT k1)
    · exact fun b o e => cD b (ne_of_none e hD) o (s _ _ e)
  · rintro H' ⟨cs', eD, nD, nc, lo', s⟩
    rw [List.length_map, lo.ln, List.take_length] at lo'
    exact done D cs' H' (New.cons hD nc) nD eD lo' s
def spCpy (K : PySem.W.Frag) : Sp := fun vs H Q _ => ∃ (L : Addr) (cs : List Addr) (zss : List (List Th)), vs = [.ref L] ∧ H L = some (.lst (cs.map V.ref)) ∧ Lots K H cs zss ∧ cs.length ≤ 1000 ∧ (∀ zs ∈ zss, zs.length ≤ 1000) ∧
  ∀ (L' : Addr) (cs' : List Addr) (H' : Hp), New H (L' :: cs') → L' ∉ cs' → H' L' = some (.lst (cs'.map V.ref)) → Lots K H' cs' zss → Same H H' → Q (.ref L') H'
theorem ok_cpy (T : Top K mg) {f : Addr} {fd : FuncData} (F : FnP K "_law_copies" s__law_copies f fd) : FnOk P w K mg base CX0 1 f fd P__law_copies (spCpy K) := by
  refine F.ok sc__law_copies (fun vs H Q E h => ?_) (fun cdv A outer s H vs Q E hr h => ?_)
  · obtain ⟨L, cs, zss, rfl, _⟩ := h
    rfl
  · obtain ⟨L, cs, zss, rfl, hL, lo, l1, l2, q⟩ := h
    refine ⟨_, PSs.nox (pss_one (ps_ret (pe_lc (own := [("_law_lot", 1)]) (g := gName 1) (by rfl) sc__law_copies.nd (k_pil (K := K) (by rfl) (pv 0)) (blkOk_by (own := [("_law_lot", 1)]) (N := N__law_copies) (sc := defScope s__law_copies) (by decide +kernel)) (fun _ _ _ _ _ => pg_name (i := 1) sc__law_copies.nd rfl (by first | exact Or.inl rfl | exact Or.inr rfl)) (fun _ _ _ _ _ => pts_nil) (fun _ _ _ _ _ => (pe_callTy (k_list (K := K) (by rfl)) (by rfl) T.z_list (by decide +kernel) (pa_cons (pv 1) pa_nil)))))), ?_⟩
    try simp only [cxK]
    rw [show L2.start N__law_copies [.ref L] = [some (.ref L), none] from rfl]
    walk_at "go"
    refine lcCopies (σ0 := [some (.ref L), none]) hL lo l1 rfl (fun D c ws zs H' N hz lw ec k => ?_) fun L' cs' H' h1 h2 h3 h4 h5 => ?_
    · have := l2 zs hz
      walk_at "go"
      exact k _ (by assumption)
    · walk_at "go"
      exact q L' cs' H' h1 h2 h3 h4 h5
theorem c_cpy (T : Top K mg) : Cal P w K mg base "_law_copies" 1 P__law_copies (spCpy K) := cal_mk T.f__law_copies (ok_cpy T) (fun F => F.bindsN fun _ _ _ _ _ _ us hl => match us, hl with | [_], _ => rfl)
theorem eqv_th (y z : Th) : PyData.eqv (dTh y) (dTh z) = decide (y = z) := by
  obtain ⟨a, b, c⟩ := y
  obtain ⟨a2, b2, c2⟩ := z
  have e : PyData.eqv (dTh (a, b, c)) (dTh (a2, b2, c2)) = ((a == a2) && (((b : Int) == (b2 : Int)) && (((c : Int) == (c2 : Int)) && true))) := by simp only [dTh, PyData.eqv, PyData.eqvAll]
  rw [e, Bool.eq_iff_iff]
  simp
  intro _
  omega
def ThOk (z : Th) : Prop := SeqAt.shaped (dTh z) = true
theorem th_ok {t n m k : Nat} {z : Th} (h : z ∈ thM t n m k) : ThOk z := by
  have h1 : z.1 = Str.ofString "head" ∨ z.1 = Str.ofString "unit" ∨ z.1 = Str.ofString "out" := by
    unfold thM thL at h
    rcases List.mem_append.mp h with h | h
    · obtain ⟨l, _, h⟩ := List.mem_flatMap.mp h
      rcases List.mem_append.mp h with h | h
      · obtain ⟨j, _, rfl⟩ := List.mem_map.mp h
        exact .inl rfl
      · obtain ⟨j, _, rfl⟩ := List.mem_map.mp h
        exact .inr (.inl rfl)
    · obtain ⟨j, _, rfl⟩ := List.mem_map.mp h
      exact .inr (.inr rfl)
  obtain ⟨a, b, c⟩ := z
  have sh : ∀ a : Str, PyData.strOk a = true → ThOk (a, b, c) := fun a ha => by
    unfold ThOk SeqAt.shaped
    simp [dTh, PyData.canLay0, PyData.canLayAll0, PyData.depth, PyData.depthAll, ha]
  rcases h1 with h1 | h1 | h1
  · obtain rfl : a = _ := h1
    exact sh _ (by decide +kernel)
  · obtain rfl : a = _ := h1
    exact sh _ (by decide +kernel)
  · obtain rfl : a = _ := h1
    exact sh _ (by decide +kernel)
theorem cnt_opt (z : Th) : ∀ zs : List Th, ((zs.map fun u => if u = z then some (dTh u) else none).filterMap id).length = zs.count z
  | [] => rfl
  | u :: us => by
    have ih := cnt_opt z us
    rw [List.map_cons, List.count_cons]
    by_cases h : u = z
    · rw [if_pos h, List.filterMap_cons_some (f := id) rfl, List.length_cons, ih, if_pos (by simpa using h)]
    · rw [if_neg h, List.filterMap_cons_none (f := id) rfl, ih, if_neg (by simpa using h)]
      rfl
theorem cnt_sum (z : Th) : ∀ zss : List (List Th), (zss.map fun zs => ((zs.count z : Nat) : Int)).sum = ((zss.flatten.count z : Nat) : Int)
  | [] => rfl
  | zs :: zss => by
    have ih := cnt_sum z zss
    rw [List.map_cons, List.sum_cons, ih, List.flatten_cons, List.count_append]
    omega
end

set_option Elab.async false
set_option linter.all false
set_option maxRecDepth 100000
set_option maxHeartbeats 4000000
open PySem PySem.Spec L2





section
variable {P : Program} {w : World} {K : PySem.W.Frag} {mg : Str → Option Value} {base : Heap}
/-! errors raised anywhere -/
abbrev SetE (K : PySem.W.Frag) : Addr := He.ga K "InvalidSetting"
abbrev ThE (K : PySem.W.Frag) : Addr := He.ga K "InvalidThing"
abbrev SplE (K : PySem.W.Frag) : Addr := He.ga K "InvalidSplit"
theorem fc_exs (T : Top K mg) {f : Addr} {fd : FuncData} (F : FunD K "__init__" "InvalidSetting.__init__" (defArgs s_InvalidSetting___init__) (defBody s_InvalidSetting___init__) (defScope s_InvalidSetting___init__) [] [] f fd) : FnC P w K mg base CX0 1 f fd P_InvalidSetting___init__ (spExI (SetE K) "field") := by
  refine FunD.okC F sc_InvalidSetting___init__ (fun vs H Q E h => ?_) (fun cdv A outer s H vs Q E hr h => ?_)
  · obtain ⟨a, y, rfl, _⟩ := h
    rfl
  · obtain ⟨a, y, rfl, ha, q⟩ := h
    refine ⟨_, (pss_one (ps_ost (pv 0) (pv 1))), ?_⟩
    try simp only [cxK]
    rw [show L2.start N_InvalidSetting___init__ [.ref a, y] = [some (.ref a), some y] from rfl]
    show tVar 1 _ H _
    refine g_v1 ?_
    show tVar 0 _ H _
    refine g_v0 ?_
    exact ⟨a, _, rfl, T.ox_InvalidSetting.ox, T.ox_InvalidSetting.no, .inl ⟨ha, q⟩⟩
theorem exw_InvalidSetting (T : Top K mg) : ExcW P w K mg base (SetE K) "field" 1 := excw_mk T.ox_InvalidSetting T.f_InvalidSetting___init__ (fc_exs T) (fun F => F.bindsN fun _ _ _ _ _ _ us hl => match us, hl with | [_, _], _ => rfl)
theorem fc_ext (T : Top K mg) {f : Addr} {fd : FuncData} (F : FunD K "__init__" "InvalidThing.__init__" (defArgs s_InvalidThing___init__) (defBody s_InvalidThing___init__) (defScope s_InvalidThing___init__) [] [] f fd) : FnC P w K mg base CX0 1 f fd P_InvalidThing___init__ (spExL (He.ga K "InvalidThing") ["machine", "at"]) := by
  refine FunD.okC F sc_InvalidThing___init__ (fun vs H Q E h => ?_) (fun cdv A outer s H vs Q E hr h => ?_)
  · obtain ⟨a, ys, rfl, ly, _⟩ := h
    show ys.length + 1 = 3
    rw [ly]
    rfl
  · obtain ⟨a, ys, rfl, ly, ha, q⟩ := h
    obtain ⟨y1, y2, rfl⟩ : ∃ y1 y2, ys = [y1, y2] := match ys, ly with
      | [y1, y2], _ => ⟨y1, y2, rfl⟩
    refine ⟨_, (pss_cons (ps_ost (pv 0) (pv 1))
    (pss_one (ps_ost (pv 0) (pv 2)))), ?_⟩
    try simp only [cxK]
    rw [show L2.start N_InvalidThing___init__ (.ref a :: [y1, y2]) = [some (.ref a), some y1, some y2] from rfl]
    try refine g_seq ?_
    show tVar 1 _ _ _
    refine g_v1 ?_
    show tVar 0 _ _ _
    refine g_v0 ?_
    refine ⟨a, _, rfl, T.ox_InvalidThing.ox, T.ox_InvalidThing.no, .inl ⟨ha, fun dx hd n => ?_⟩⟩
    dsimp only
    try refine g_seq ?_
    show tVar 2 _ _ _
    refine g_v2 ?_
    show tVar 0 _ _ _
    refine g_v0 ?_
    refine ⟨a, _, rfl, T.oxa_InvalidThing_at.ox, T.oxa_InvalidThing_at.no, .inr ⟨dx, _, upd_same, by rw [upd_ne n, upd_same], Nat.le_of_ble_eq_true rfl, ?_⟩⟩
    rw [ex_put n]
    exact q dx hd n
theorem exl_InvalidThing (T : Top K mg) : ExcL P w K mg base (He.ga K "InvalidThing") ["machine", "at"] 1 := excl_mk T.ox_InvalidThing T.f_InvalidThing___init__ (fc_ext T) (fun F => F.bindsN fun _ _ _ _ _ _ us hl => match us, hl with | [_, _, _], _ => rfl)
theorem fc_exp (T : Top K mg) {f : Addr} {fd : FuncData} (F : FunD K "__init__" "InvalidSplit.__init__" (defArgs s_InvalidSplit___init__) (defBody s_InvalidSplit___init__) (defScope s_InvalidSplit___init__) [] [] f fd) : FnC P w K mg base CX0 1 f fd P_InvalidSplit___init__ (spExL (He.ga K "InvalidSplit") ["kind", "layer", "number"]) := by
  refine FunD.okC F sc_InvalidSplit___init__ (fun vs H Q E h => ?_) (fun cdv A outer s H vs Q E hr h => ?_)
  · obtain ⟨a, ys, rfl, ly, _⟩ := h
    show ys.length + 1 = 4
    rw [ly]
    rfl
  · obtain ⟨a, ys, rfl, ly, ha, q⟩ := h
    obtain ⟨y1, y2, y3, rfl⟩ : ∃ y1 y2 y3, ys = [y1, y2, y3] := match ys, ly with
      | [y1, y2, y3], _ => ⟨y1, y2, y3, rfl⟩
    refine ⟨_, (pss_cons (ps_ost (pv 0) (pv 1))
    (pss_cons (ps_ost (pv 0) (pv 2))
    (pss_one (ps_ost (pv 0) (pv 3))))), ?_⟩
    try simp only [cxK]
    rw [show L2.start N_InvalidSplit___init__ (.ref a :: [y1, y2, y3]) = [some (.ref a), some y1, some y2, some y3] from rfl]
    try refine g_seq ?_
    show tVar 1 _ _ _
    refine g_v1 ?_
    show tVar 0 _ _ _
    refine g_v0 ?_
    refine ⟨a, _, rfl, T.ox_InvalidSplit.ox, T.ox_InvalidSplit.no, .inl ⟨ha, fun dx hd n => ?_⟩⟩
    dsimp only
    try refine g_seq ?_
    show tVar 2 _ _ _
    refine g_v2 ?_
    show tVar 0 _ _ _
    refine g_v0 ?_
    refine ⟨a, _, rfl, T.oxa_InvalidSplit_layer.ox, T.oxa_InvalidSplit_layer.no, .inr ⟨dx, _, upd_same, by rw [upd_ne n, upd_same], Nat.le_of_ble_eq_true rfl, ?_⟩⟩
    rw [ex_put n]
    dsimp only
    try refine g_seq ?_
    show tVar 3 _ _ _
    refine g_v3 ?_
    show tVar 0 _ _ _
    refine g_v0 ?_
    refine ⟨a, _, rfl, T.oxa_InvalidSplit_number.ox, T.oxa_InvalidSplit_number.no, .inr ⟨dx, _, upd_same, by rw [upd_ne n, upd_same], Nat.le_of_ble_eq_true rfl, ?_⟩⟩
    rw [ex_put n]
    exact q dx hd n
theorem exl_InvalidSplit (T : Top K mg) : ExcL P w K mg base (He.ga K "InvalidSplit") ["kind", "layer", "number"] 1 := excl_mk T.ox_InvalidSplit T.f_InvalidSplit___init__ (fc_exp T) (fun F => F.bindsN fun _ _ _ _ _ _ us hl => match us, hl with | [_, _, _, _], _ => rfl)
theorem g_mkS {C : Addr} {f : Str} {v : Str} {σ : L2.St} {H : Hp} {Q : XK} (h : ∀ d, H d = none → Q (.ref C) (some d) (upd H d (.xd [(f, .str v)]))) : tMkO C (spExI C f) [] (tCons (tC (.str v)) tNil) σ H Q :=
  g_mkO (show tCons (tC (.str v)) tNil σ H _ from ⟨_, rfl, h⟩) (fun f z => f _ _ z)
theorem g_mkL2 {C : Addr} {fs : List Str} {i j : Nat} {v u : V} {σ : L2.St} {H : Hp} {Q : XK} (hf : fs.length = 2) (hv : σ[i]? = some (some v)) (hu : σ[j]? = some (some u)) (h : ∀ d, H d = none → Q (.ref C) (some d) (upd H d (.xd (putL fs [v, u])))) : tMkO C (spExL C fs) [] (tCons (tVar i) (tCons (tVar j) tNil)) σ H Q :=
  g_mkOL (by omega) (show tCons (tVar i) (tCons (tVar j) tNil) σ H _ from ⟨v, hv, u, hu, hf.symm, h⟩) (fun f z => by obtain ⟨v, hv, u, hu, z⟩ := z; exact ⟨v, hv, u, hu, f _ _ z⟩)
theorem g_mkL3 {C : Addr} {fs : List Str} {i j l : Nat} {v u y : V} {σ : L2.St} {H : Hp} {Q : XK} (hf : fs.length = 3) (hv : σ[i]? = some (some v)) (hu : σ[j]? = some (some u)) (hy : σ[l]? = some (some y)) (h : ∀ d, H d = none → Q (.ref C) (some d) (upd H d (.xd (putL fs [v, u, y])))) : tMkO C (spExL C fs) [] (tCons (tVar i) (tCons (tVar j) (tCons (tVar l) tNil))) σ H Q :=
  g_mkOL (by omega) (show tCons (tVar i) (tCons (tVar j) (tCons (tVar l) tNil)) σ H _ from ⟨v, hv, u, hu, y, hy, hf.symm, h⟩) (fun f z => by obtain ⟨v, hv, u, hu, y, hy, z⟩ := z; exact ⟨v, hv, u, hu, y, hy, f _ _ z⟩)
end

set_option Elab.async false
set_option linter.all false
set_option maxRecDepth 100000
set_option maxHeartbeats 4000000
open PySem PySem.Spec L2





section
variable {P : Program} {w : World} {K : PySem.W.Frag} {mg : Str → Option Value} {base : Heap}
/-! what is wrong with machines -/
inductive FltK
  | ok
  | set
  | thing (i : Nat) (v : V)
  | split (z : Th)
def fltM (t n m k : Nat) (ds : List PyData) : FltK := if 1 ≤ ds.length ∧ ds.length ≤ 5 then (match ds.findIdx? (fun e => decide (wiV t n m k e ≠ .non)) with
  | some i => .thing i (wiV t n m k (nth ds i))
  | none => (match wrongM t n m k (.tuple ds) with
    | some z => .split z
    | none => .ok)) else .set
def FltE (K : PySem.W.Frag) (E : XK) (H : Hp) : FltK → Prop
  | .ok => True
  | .set => ∀ (d : Addr) (H1 : Hp), Same H H1 → H1 d = none → E (.ref (SetE K)) (some d) (upd H1 d (.xd [("field", .str "machines")]))
  | .thing i v => ∀ (d : Addr) (H1 : Hp), Same H H1 → H1 d = none → E (.ref (ThE K)) (some d) (upd H1 d (.xd [("at", v), ("machine", .int (i : Nat))]))
  | .split z => ∀ (d : Addr) (H1 : Hp), Same H H1 → H1 d = none → E (.ref (SplE K)) (some d) (upd H1 d (.xd [("number", .int (z.2.2 : Nat)), ("layer", .int (z.2.1 : Nat)), ("kind", .str z.1)]))
theorem wi_non {t n m k : Nat} {d : PyData} (h : wiV t n m k d = .non) : isSeqD d = true ∧ ∀ e ∈ itsD d, isThD t n m k e = true := by
  unfold wiV at h
  split at h
  · rename_i h1
    refine ⟨h1, fun e he => ?_⟩
    split at h
    · cases h
    · rename_i h2
      have := List.findIdx?_eq_none_iff.mp h2 e he
      simpa using this
  · cases h
theorem wi_mac {t n m k : Nat} {d : PyData} (h : wiV t n m k d = .non) (l : (itsD d).length ≤ 80) : MacD d := by
  obtain ⟨h1, h2⟩ := wi_non h
  refine ⟨h1, by omega, fun e he => ?_⟩
  have h3 := h2 e he
  unfold isThD at h3
  rw [Bool.and_eq_true] at h3
  refine ⟨h3.1, ?_⟩
  by_cases h4 : (itsD e).length = 3
  · omega
  · rw [isThL_no h4] at h3
    exact absurd h3.2 Bool.false_ne_true
theorem flt_set {t n m k : Nat} {ds : List PyData} (h : ¬ (1 ≤ ds.length ∧ ds.length ≤ 5)) : fltM t n m k ds = .set := if_neg h
theorem flt_thing {t n m k : Nat} {ds : List PyData} {i : Nat} {e : PyData} (h : 1 ≤ ds.length ∧ ds.length ≤ 5) (he : ds[i]? = some e) (hj : ∀ j e', j < i → ds[j]? = some e' → wiV t n m k e' = .non) (hi : wiV t n m k e ≠ .non) : fltM t n m k ds = .thing i (wiV t n m k e) := by
  obtain ⟨il, hie⟩ := List.getElem?_eq_some_iff.mp he
  have z : ds.findIdx? (fun e => decide (wiV t n m k e ≠ .non)) = some i := by
    rw [List.findIdx?_eq_some_iff_getElem]
    refine ⟨il, by rw [hie]; exact decide_eq_true hi, fun j hji => ?_⟩
    have := hj j _ hji (List.getElem?_eq_getElem (by omega))
    rw [decide_eq_true_eq]
    exact fun z => z this
  unfold fltM
  rw [if_pos h, z]
  show FltK.thing i (wiV t n m k (nth ds i)) = _
  rw [show nth ds i = e from by unfold nth; rw [he]; rfl]
theorem flt_none {t n m k : Nat} {ds : List PyData} (h : 1 ≤ ds.length ∧ ds.length ≤ 5) (hj : ∀ e ∈ ds, wiV t n m k e = .non) : fltM t n m k ds = (match wrongM t n m k (.tuple ds) with
    | some z => .split z
    | none => .ok) := by
  have z : ds.findIdx? (fun e => decide (wiV t n m k e ≠ .non)) = none := by
    rw [List.findIdx?_eq_none_iff]
    intro e he
    rw [hj e he]
    rfl
  unfold fltM
  rw [if_pos h, z]
/-- what may be handed in as machines -/
structure MasIn (ds : List PyData) : Prop where
  few : ds.length ≤ 6
  mac : ∀ e ∈ ds, (itsD e).length ≤ 80 ∧ ∀ z ∈ itsD e, z.depth ≤ 50
  pln : PyData.plainAll ds = true
def spSpX (K : PySem.W.Frag) : Sp := fun vs H Q E => ∃ (S : Addr → Prop) (p dx sh mt : Addr) (xs : List V) (t n m k : Nat) (ds : List PyData), vs = [.ref p, .ref sh, .ref mt] ∧ H p = some (.ins (SpC K) dx []) ∧ S p ∧ ¬ S mt ∧ ShO K H sh (t : Nat) (n : Nat) (m : Nat) (k : Nat) ∧ ShB t n m k ∧ Al S H ∧
  H mt = some (.tup xs) ∧ DqAll K S H xs ds ∧ MasIn ds ∧ FltE K E H (fltM t n m k ds) ∧ (fltM t n m k ds = .ok → ∀ (y : V) (H' : Hp), H' p = some (.ins (SpC K) dx (spF (.ref sh) y)) → Dq K S H' y (.tuple (ds.map tofD)) → Chg p H H' → Q .non H')
end

set_option Elab.async false
set_option linter.all false
set_option maxRecDepth 100000
set_option maxHeartbeats 4000000
open PySem PySem.Spec L2





section
variable {P : Program} {w : World} {K : PySem.W.Frag} {mg : Str → Option Value} {base : Heap}
/-! Split.__init__, raising -/
theorem ok_SpX (T : Top K mg) {f : Addr} {fd : FuncData} (F : FunD K "__init__" "Split.__init__" (defArgs s_Split___init__) (defBody s_Split___init__) (defScope s_Split___init__) [] [] f fd) : FnV P w K mg base (L2N.CX P w) 4 f fd P_Split___init__ (spSpX K) := by
  have cl_Split := T.cl_Split; have na_Split___bool__ := T.na_Split___bool__; have na_Split_shape := T.na_Split_shape; have na_Split_machines := T.na_Split_machines; have in_Split := T.in_Split; have ki_o_Split_o_Split := T.ki_o_Split_o_Split; have nf_Split_o_Split := T.nf_Split_o_Split; have ne_Split := T.ne_Split; have nf_Split_list := T.nf_Split_list; have nf_Split_NoneType := T.nf_Split_NoneType; have ki_list_o_Split := T.ki_list_o_Split; have ki_NoneType_o_Split := T.ki_NoneType_o_Split
  have C__wrong_item := c_wit (P := P) (w := w) (base := base) T
  have C__things_of := c_tof (P := P) (w := w) (base := base) T
  have C_wrong_thing := c_wth (P := P) (w := w) (base := base) T
  have EW_InvalidSetting := exw_InvalidSetting (P := P) (w := w) (base := base) T
  have EL_InvalidThing := exl_InvalidThing (P := P) (w := w) (base := base) T
  have EL_InvalidSplit := exl_InvalidSplit (P := P) (w := w) (base := base) T
  refine FunD.okV F sc_Split___init__ (fun vs H Q E h => ?_) (fun cdv A outer s H vs Q E hr h => ?_)
  · obtain ⟨S, p, dx, sh, mt, xs, t, n, m, k, ds, rfl, _⟩ := h
    rfl
  · obtain ⟨S, p, dx, sh, mt, xs, t, n, m, k, ds, rfl, hp, hSp, nmt, ⟨dxs, hsh⟩, hb, al, hmt, hs, ok, er, q⟩ := h
    refine ⟨_, (pss_cons (ps_if (pt_not (pt_chain op_le op_le pe_int (pe_callB (k_len (K := K) (by rfl)) (by rfl) T.z_len (by decide +kernel) (pa_cons (pv 2) pa_nil)) (C8.pe_gc (v := .int 5) (by rfl) T.k_MOST_MACHINES)))
    (pss_one (ps_raiseN rfl (L2N.takes_of rfl rfl rfl rfl) (pmk_w EW_InvalidSetting (roomW (hr.mono (by first | decide | omega))) (by rfl) T.g_InvalidSetting (pa_cons pe_str pa_nil))))
    pss_nil)
    (pss_cons (ps_for (by first | exact PassesOwn.never | exact passes_of rfl) rfl (k_en2 (K := K) (by rfl) (by rfl) T.z_enumerate (pa_cons (pv 2) pa_nil)) (k_pgt (K := K) (n := 2) (by rfl) (by rfl) (pgs_cons (pg_name (i := 3) sc_Split___init__.nd rfl (by first | exact Or.inl rfl | exact Or.inr rfl)) (pgs_cons (pg_name (i := 4) sc_Split___init__.nd rfl (by first | exact Or.inl rfl | exact Or.inr rfl)) pgs_nil)) (by rfl) (by rfl))
    (pss_cons (ps_set (i := 5) sc_Split___init__.nd rfl (by first | exact Or.inl rfl | exact Or.inr rfl) (pe_cal C__wrong_item (hr.mono (by first | decide | omega)) (by rfl) (pa_cons (pv 1) (pa_cons (pv 4) pa_nil))))
    (pss_one (ps_if (pt_cmpR op_notN (pv 5) pe_non (nomark _))
    (pss_one (ps_raiseN rfl (L2N.takes_of rfl rfl rfl rfl) (pmk_l EL_InvalidThing (roomW (hr.mono (by first | decide | omega))) (by rfl) T.g_InvalidThing (pa_cons (pv 3) (pa_cons (pv 5) pa_nil)))))
    pss_nil))))
    (pss_cons (ps_set (i := 6) sc_Split___init__.nd rfl (by first | exact Or.inl rfl | exact Or.inr rfl) (pe_cal C_wrong_thing (hr.mono (by first | decide | omega)) (by rfl) (pa_cons (pv 1) (pa_cons (pv 2) pa_nil))))
    (pss_cons (ps_if (pt_cmpR op_notN (pv 6) pe_non (nomark _))
    (pss_cons (ps_asg (pv 6) (k_pgt (K := K) (n := 3) (by rfl) (by rfl) (pgs_cons (pg_name (i := 7) sc_Split___init__.nd rfl (by first | exact Or.inl rfl | exact Or.inr rfl)) (pgs_cons (pg_name (i := 8) sc_Split___init__.nd rfl (by first | exact Or.inl rfl | exact Or.inr rfl)) (pgs_cons (pg_name (i := 9) sc_Split___init__.nd rfl (by first | exact Or.inl rfl | exact Or.inr rfl)) pgs_nil))) (by rfl) (by rfl)))
    (pss_one (ps_raiseN rfl (L2N.takes_of rfl rfl rfl rfl) (pmk_l EL_InvalidSplit (roomW (hr.mono (by first | decide | omega))) (by rfl) T.g_InvalidSplit (pa_cons (pv 7) (pa_cons (pv 8) (pa_cons (pv 9) pa_nil)))))))
    pss_nil)
    (pss_cons (k_sfld (K := K) (by rfl) (pv 0) (pv 1) rfl)
    (pss_one (k_sfld (K := K) (by rfl) (pv 0) (pe_callTy (k_tupleB (K := K) (by rfl)) (by rfl) T.z_tuple (by decide +kernel) (pa_cons (pe_lc (own := [("machine", 4)]) (g := gName 4) (by rfl) sc_Split___init__.nd (k_pit (K := K) (by rfl) (pv 2)) (blkOk_by (own := [("machine", 4)]) (N := N_Split___init__) (sc := defScope s_Split___init__) (by decide +kernel)) (fun _ _ _ _ _ => pg_name (i := 4) sc_Split___init__.nd rfl (by first | exact Or.inl rfl | exact Or.inr rfl)) (fun _ _ _ _ _ => pts_nil) (fun _ _ _ _ _ => (pe_cal C__things_of (hr.mono (by first | decide | omega)) (by rfl) (pa_cons (pv 4) pa_nil)))) pa_nil)) rfl))))))), ?_⟩
    try simp only [cxK]
    rw [show L2.start N_Split___init__ [.ref p, .ref sh, .ref mt] = [some (.ref p), some (.ref sh), some (.ref mt), none, none, none, none, none, none, none] from rfl]
    have ln := hs.len
    by_cases few : 1 ≤ ds.length ∧ ds.length ≤ 5
    rotate_left
    · rw [flt_set few] at er
      walk_at "go"
      refine g_iteD (fun h1 => ?_) (fun h1 => ?_)
      · walk_at "go"
        rw [if_pos (by rw [decide_eq_false (by omega)]; rfl)]
        refine g_mkS fun dd hdd => ?_
        exact er dd H (fun _ _ e => e) hdd
      · walk_at "go"
        refine g_mkS fun dd hdd => ?_
        exact er dd H (fun _ _ e => e) hdd
    walk_at "go"
    refine g_iteD (fun _ => ?_) (fun h => absurd (by omega) h)
    walk_at "go"
    rw [if_neg (by rw [decide_eq_true (by omega)]; decide)]
    walk_at "go"
    refine forEQB (xs := xs) (.inr (.of hmt)) ⟨fun i σ' H' => ∃ a b c, σ' = [some (.ref p), some (.ref sh), some (.ref mt), a, b, c, none, none, none, none] ∧ Same H H' ∧ (∀ j e', j < i → ds[j]? = some e' → wiV t n m k e' = .non), ⟨_, _, _, rfl, fun _ _ e => e, fun j e' h => absurd h (Nat.not_lt_zero _)⟩, fun i σ' H' ⟨_, _, _, _, s, _⟩ => s, ?_, ?_⟩
    · rintro i x T2 σ' H2 hx2 ⟨a, b, c, rfl, s2, sofar⟩ hT2
      obtain ⟨e, he, hq⟩ := hs.at hx2
      have s3 := same_new hT2 (o := .tup [.int (i : Nat), x])
      have sA := s2.trans s3
      obtain ⟨m80, m50⟩ := ok.mac e (List.mem_of_getElem? he)
      walk_at "go"
      refine ⟨S, sh, t, n, m, k, x, e, rfl, ⟨_, sA _ _ hsh⟩, hb, al.sm sA, hq.sm sA, Nat.le_trans m80 (by decide), plainAll_mem ok.pln (List.mem_of_getElem? he), m50, fun H4 s4 => ?_⟩
      by_cases mw : wiV t n m k e = .non
      · rw [mw]
        walk_at "go"
        refine ⟨rfl, ?_⟩
        show ∃ c, V.bl (!decide (V.non = V.non)) = V.bl c ∧ _
        rw [show decide (V.non = V.non) = true from decide_eq_true rfl]
        walk_at "go"
        refine ⟨_, _, _, rfl, sA.trans s4, fun j e' hj he' => ?_⟩
        rcases Nat.lt_or_ge j i with ji | ji
        · exact sofar j e' ji he'
        · obtain rfl : j = i := by omega
          obtain rfl := Option.some.inj (he.symm.trans he')
          exact mw
      · walk_at "go"
        refine ⟨rfl, ?_⟩
        rw [flt_thing few he sofar mw] at er
        generalize wiV t n m k e = vw at mw er ⊢
        show ∃ c, V.bl (!decide (vw = V.non)) = V.bl c ∧ _
        rw [decide_eq_false mw]
        walk_at "go"
        refine g_mkL2 rfl (by rfl) (by rfl) fun dd hdd => ?_
        exact er dd H4 (sA.trans s4) hdd
    · rintro σ' H' ⟨a, b, c, rfl, s2, sofar⟩
      have alln : ∀ e ∈ ds, wiV t n m k e = .non := fun e he => by
        obtain ⟨j, hj⟩ := List.getElem?_of_mem he
        have jl := (List.getElem?_eq_some_iff.mp hj).1
        exact sofar j e (by omega) hj
      have mac : ∀ e ∈ ds, MacD e := fun e he => wi_mac (alln e he) (ok.mac e he).1
      rw [flt_none few alln] at er q
      walk_at "go"
      have hm2 := s2 _ _ hmt
      have hd2 : Dq K S H' (.ref mt) (.tuple ds) := dq_newT nmt hm2 (hs.sm s2)
      refine ⟨S, sh, t, n, m, k, .ref mt, .tuple ds, rfl, ⟨_, s2 _ _ hsh⟩, hb, al.sm s2, hd2, ⟨rfl, Nat.le_trans few.2 (by decide), fun e he => ⟨mac e he, (ok.mac e he).1⟩, ok.pln⟩, fun y H4 hy s4 => ?_⟩
      have s5 := s2.trans s4
      have hp5 := s5 _ _ hp
      have hm5 := s5 _ _ hmt
      cases hwm : wrongM t n m k (.tuple ds) with
      | some z =>
        rw [hwm] at hy er
        obtain ⟨yb, zs, rfl, hyb, hzs⟩ := hy.tup_inv
        obtain ⟨v0, v1, v2, rfl, d0, d1, d2⟩ := dqAll_3 hzs
        obtain rfl := d0.str_inv
        obtain rfl := d1.int_inv
        obtain rfl := d2.int_inv
        walk_at "go"
        refine ⟨rfl, ?_⟩
        show ∃ c, V.bl (!decide (V.ref yb = V.non)) = V.bl c ∧ _
        rw [decide_eq_false (by intro z; cases z)]
        walk_at "go"
        refine g_mkL3 rfl (by rfl) (by rfl) (by rfl) fun dd hdd => ?_
        exact er dd H4 s5 hdd
      | none =>
      rw [hwm] at hy q
      have q := q rfl
      have hy := hy.non_inv
      subst hy
      walk_at "go"
      refine ⟨rfl, ?_⟩
      show ∃ c, V.bl (!decide (V.non = V.non)) = V.bl c ∧ _
      rw [show decide (V.non = V.non) = true from decide_eq_true rfl]
      walk_at "go"
      rw [show putF (Str.ofString "shape") (V.ref sh) [] = ([("shape", V.ref sh)] : List (Str × V)) from rfl]
      have cS : ChgS S H4 (upd H4 p (.ins (SpC K) dx [("shape", .ref sh)])) := fun b o n e => by rw [upd_ne (fun z => n (by rw [z]; exact hSp))]; exact e
      have cP : Chg p H (upd H4 p (.ins (SpC K) dx [("shape", .ref sh)])) := fun b o n e => by rw [upd_ne n]; exact s5 _ _ e
      have al6 : Al S (upd H4 p (.ins (SpC K) dx [("shape", .ref sh)])) := (al.sm s5).go (Go.put hSp)
      have hp6 : (upd H4 p (.ins (SpC K) dx [("shape", .ref sh)])) p = some (.ins (SpC K) dx [("shape", .ref sh)]) := upd_same
      have hm6 : (upd H4 p (.ins (SpC K) dx [("shape", .ref sh)])) mt = some (.tup xs) := by rw [upd_ne (fun z => nmt (by rw [z]; exact hSp))]; exact hm5
      generalize (upd H4 p (.ins (SpC K) dx [("shape", .ref sh)])) = H6 at cS cP al6 hp6 hm6 ⊢
      refine g_tupR (.of hm6) ?_
      refine lcFnT (f := tofD) (σ0 := [some (.ref p), some (.ref sh), some (.ref mt), a, none, c, some .non, none, none, none]) (.of hm6) ((hs.sm s5).chg cS) al6 (Nat.le_trans few.2 (by decide)) rfl (fun i x d D H' N hd hm hD s6 hal hq tr k => ?_) (fun R ys H7 hR eR hy7 s7 => ?_)
      · walk_at "go"
        exact ⟨_, x, d, rfl, hq, mac d hm, hal, fun y H8 hy8 s8 => k _ _ hy8 s8⟩
      · walk_at "go"
        refine g_tupBL (.of eR) fun tp htp => ?_
        have hp7 := s7 _ _ hp6
        walk_at "go"
        have al7 := al6.sm s7
        have ntp : tp ≠ p := fun z => al7.no htp (by rw [z]; exact hSp)
        have c9 : ChgS S (upd H7 tp (.tup ys)) (upd (upd H7 tp (.tup ys)) p (.ins (SpC K) dx (spF (.ref sh) (.ref tp)))) := fun b o n e => by rw [upd_ne (fun z => n (by rw [z]; exact hSp))]; exact e
        have eq2 : putF (Str.ofString "machines") (V.ref tp) [(Str.ofString "shape", V.ref sh)] = spF (.ref sh) (.ref tp) := rfl
        rw [eq2]
        refine q (.ref tp) _ upd_same (dq_newT (al7.no htp) (by rw [upd_ne ntp]; exact upd_same) ((hy7.sm (same_new htp)).chg c9)) fun b o n e => ?_
        rw [upd_ne n]
        exact same_new htp _ _ (s7 _ _ (cP _ _ n e))
theorem mk_Split (T : Top K mg) : MkV (L2N.CX P w) P w K mg base (SpC K) 4 1 P_Split___init__ (spSpX K) := mkv_mk T.mk_Split T.f_Split___init__ (ok_SpX T) (fun kV doc pm an cdv ct us ms hl => match us, hl, ms with | [_, _], _, [] => rfl | [_, _], _, _ :: _ => rfl)
end

set_option Elab.async false
set_option linter.all false
set_option maxRecDepth 100000
set_option maxHeartbeats 4000000
open PySem PySem.Spec L2





section
variable {P : Program} {w : World} {K : PySem.W.Frag} {mg : Str → Option Value} {base : Heap}
/-! _law_split -/
theorem FltE.sm {E : XK} {H H' : Hp} {f : FltK} (h : FltE K E H f) (s : Same H H') : FltE K E H' f := by
  cases f with
  | ok => trivial
  | set => exact fun d H1 s1 => h d H1 (s.trans s1)
  | thing i v => exact fun d H1 s1 => h d H1 (s.trans s1)
  | split z => exact fun d H1 s1 => h d H1 (s.trans s1)
def MkVX (C : Addr) (n : Nat) (sp : Sp) (E : XK) (Q : VK) (vs : List V) (H1 : Hp) : Prop := n ≤ vs.length ∧ (vs.drop n).length ≤ sizeLine ∧ ∀ x dx p, H1 x = none → H1 dx = none → H1 p = none → dx ≠ x → p ≠ x → p ≠ dx →
  sp (.ref x :: (vs.take n ++ [.ref p])) (upd (upd (upd H1 dx (.own x)) x (.ins C dx [])) p (.tup (vs.drop n))) (fun v H2 => v = .non ∧ Q (.ref x) H2) E
instance st_mkVX {C : Addr} {n : Nat} {sp : Sp} {E : XK} {ta : TA} {σ : L2.St} {H : Hp} {Q : VK} : Step (tMkV C n sp E ta σ H Q) (ta σ H fun vs H1 => MkVX C n sp E Q vs H1) := ⟨fun z => z⟩
theorem g_mkSplitX {S : Addr → Prop} {H : Hp} {Q : VK} {E : XK} {sh : Addr} {xs : List V} {ds : List PyData} {t n m k : Nat} (hsh : ShO K H sh (t : Nat) (n : Nat) (m : Nat) (k : Nat)) (hb : ShB t n m k) (al : Al S H) (hs : DqAll K S H xs ds) (ok : MasIn ds) (er : FltE K E H (fltM t n m k ds))
    (q : fltM t n m k ds = .ok → ∀ (x : Addr) (H' : Hp), H x = none → SplO K S H' x t n m k ds → Same H H' → Q (.ref x) H') : MkVX (SpC K) 1 (spSpX K) E Q (.ref sh :: xs) H := by
  have ln := hs.len
  have few := ok.few
  refine ⟨by simp, ?_, fun x dx p h1 h2 h3 n1 n2 n3 => ?_⟩
  · show xs.length ≤ sizeLine
    exact Nat.le_trans (show xs.length ≤ 6 by omega) (by decide)
  · have sA : Same H (upd H dx (.own x)) := same_new h2
    have sB : Same H (upd (upd H dx (.own x)) x (.ins (SpC K) dx [])) := sA.trans (same_new (by rw [upd_ne n1.symm]; exact h1))
    have sC : Same H (upd (upd (upd H dx (.own x)) x (.ins (SpC K) dx [])) p (.tup xs)) := sB.trans (same_new (by rw [upd_ne n2, upd_ne n3]; exact h3))
    have e1 : (upd (upd (upd H dx (.own x)) x (.ins (SpC K) dx [])) p (.tup xs)) x = some (.ins (SpC K) dx []) := by rw [upd_ne n2.symm, upd_same]
    have e2 : (upd (upd (upd H dx (.own x)) x (.ins (SpC K) dx [])) p (.tup xs)) p = some (.tup xs) := upd_same
    show spSpX K [.ref x, .ref sh, .ref p] (upd (upd (upd H dx (.own x)) x (.ins (SpC K) dx [])) p (.tup xs)) _ _
    generalize (upd (upd (upd H dx (.own x)) x (.ins (SpC K) dx [])) p (.tup xs)) = H3 at sC e1 e2 ⊢
    obtain ⟨dxs, hsh⟩ := hsh
    refine ⟨SD S x, x, dx, sh, p, xs, t, n, m, k, ds, rfl, e1, .inr rfl, fun z => z.elim (fun z => al.no h3 z) n2, ⟨_, sC _ _ hsh⟩, hb, al_sd (al.sm sC) (by rw [e1]; exact fun z => by cases z), e2, hs.in h1 fun b o _ _ e => sC b o e, ok, er.sm sC, fun hk y H4 hp hy c => ⟨rfl, ?_⟩⟩
    have s4 : Same H H4 := fun b o e => c b o (ne_of_none e h1) (sC b o e)
    exact q hk x H4 h1 ⟨dx, sh, y, hp, ⟨_, s4 _ _ hsh⟩, hy.out⟩ s4
def spLsX (K : PySem.W.Frag) : Sp := fun vs H Q E => ∃ (S : Addr → Prop) (sh L : Addr) (xs : List V) (ds : List PyData) (t n m k : Nat), vs = [.ref sh, .ref L] ∧ ShO K H sh (t : Nat) (n : Nat) (m : Nat) (k : Nat) ∧ ShB t n m k ∧ Al S H ∧ H L = some (.lst xs) ∧ DqAll K S H xs ds ∧ MasIn ds ∧ FltE K E H (fltM t n m k ds) ∧
  (fltM t n m k ds = .ok → ∀ (x : Addr) (H' : Hp), H x = none → SplO K S H' x t n m k ds → Same H H' → Q (.ref x) H')
theorem ok_lsx (T : Top K mg) {f : Addr} {fd : FuncData} (F : FnP K "_law_split" s__law_split f fd) : FnOk P w K mg base (L2N.CX P w) 6 f fd P__law_split (spLsX K) := by
  have MK_Split := mk_Split (P := P) (w := w) (base := base) T
  refine F.ok sc__law_split (fun vs H Q E h => ?_) (fun cdv A outer s H vs Q E hr h => ?_)
  · obtain ⟨S, sh, L, xs, ds, t, n, m, k, rfl, _⟩ := h
    rfl
  · obtain ⟨S, sh, L, xs, ds, t, n, m, k, rfl, hsh, hb, al, hL, hs, ok, er, q⟩ := h
    refine ⟨_, (pss_cons (ps_if (pt_cmpR op_lt (pe_callB (k_len (K := K) (by rfl)) (by rfl) T.z_len (by decide +kernel) (pa_cons (pv 1) pa_nil)) pe_int (nomark _))
    (pss_one (ps_ret (pe_ifExp (pt_cmpR op_eq (pe_callB (k_len (K := K) (by rfl)) (by rfl) T.z_len (by decide +kernel) (pa_cons (pv 1) pa_nil)) pe_int (nomark _)) (pe_mkV T.g_Split MK_Split (hr.mono (by first | decide | omega)) (passE (L2N.takes_of rfl rfl rfl rfl) (fun _ _ _ _ z => z)) (by rfl) (pa_cons (pv 0) (pa_cons (pe_ix (k_ix (K := K) (by rfl)) (pv 1) pe_int (fun _ _ => rfl)) pa_nil))) (pe_mkV T.g_Split MK_Split (hr.mono (by first | decide | omega)) (passE (L2N.takes_of rfl rfl rfl rfl) (fun _ _ _ _ z => z)) (by rfl) (pa_cons (pv 0) pa_nil)))))
    pss_nil)
    (pss_cons (ps_if (pt_cmpR op_lt (pe_callB (k_len (K := K) (by rfl)) (by rfl) T.z_len (by decide +kernel) (pa_cons (pv 1) pa_nil)) pe_int (nomark _))
    (pss_one (ps_ret (pe_ifExp (pt_cmpR op_eq (pe_callB (k_len (K := K) (by rfl)) (by rfl) T.z_len (by decide +kernel) (pa_cons (pv 1) pa_nil)) pe_int (nomark _)) (pe_mkV T.g_Split MK_Split (hr.mono (by first | decide | omega)) (passE (L2N.takes_of rfl rfl rfl rfl) (fun _ _ _ _ z => z)) (by rfl) (pa_cons (pv 0) (pa_cons (pe_ix (k_ix (K := K) (by rfl)) (pv 1) pe_int (fun _ _ => rfl)) (pa_cons (pe_ix (k_ix (K := K) (by rfl)) (pv 1) pe_int (fun _ _ => rfl)) pa_nil)))) (pe_mkV T.g_Split MK_Split (hr.mono (by first | decide | omega)) (passE (L2N.takes_of rfl rfl rfl rfl) (fun _ _ _ _ z => z)) (by rfl) (pa_cons (pv 0) (pa_cons (pe_ix (k_ix (K := K) (by rfl)) (pv 1) pe_int (fun _ _ => rfl)) (pa_cons (pe_ix (k_ix (K := K) (by rfl)) (pv 1) pe_int (fun _ _ => rfl)) (pa_cons (pe_ix (k_ix (K := K) (by rfl)) (pv 1) pe_int (fun _ _ => rfl)) pa_nil))))))))
    pss_nil)
    (pss_cons (ps_if (pt_cmpR op_eq (pe_callB (k_len (K := K) (by rfl)) (by rfl) T.z_len (by decide +kernel) (pa_cons (pv 1) pa_nil)) pe_int (nomark _))
    (pss_one (ps_ret (pe_mkV T.g_Split MK_Split (hr.mono (by first | decide | omega)) (passE (L2N.takes_of rfl rfl rfl rfl) (fun _ _ _ _ z => z)) (by rfl) (pa_cons (pv 0) (pa_cons (pe_ix (k_ix (K := K) (by rfl)) (pv 1) pe_int (fun _ _ => rfl)) (pa_cons (pe_ix (k_ix (K := K) (by rfl)) (pv 1) pe_int (fun _ _ => rfl)) (pa_cons (pe_ix (k_ix (K := K) (by rfl)) (pv 1) pe_int (fun _ _ => rfl)) (pa_cons (pe_ix (k_ix (K := K) (by rfl)) (pv 1) pe_int (fun _ _ => rfl)) pa_nil))))))))
    pss_nil)
    (pss_cons (ps_if (pt_cmpR op_eq (pe_callB (k_len (K := K) (by rfl)) (by rfl) T.z_len (by decide +kernel) (pa_cons (pv 1) pa_nil)) pe_int (nomark _))
    (pss_one (ps_ret (pe_mkV T.g_Split MK_Split (hr.mono (by first | decide | omega)) (passE (L2N.takes_of rfl rfl rfl rfl) (fun _ _ _ _ z => z)) (by rfl) (pa_cons (pv 0) (pa_cons (pe_ix (k_ix (K := K) (by rfl)) (pv 1) pe_int (fun _ _ => rfl)) (pa_cons (pe_ix (k_ix (K := K) (by rfl)) (pv 1) pe_int (fun _ _ => rfl)) (pa_cons (pe_ix (k_ix (K := K) (by rfl)) (pv 1) pe_int (fun _ _ => rfl)) (pa_cons (pe_ix (k_ix (K := K) (by rfl)) (pv 1) pe_int (fun _ _ => rfl)) (pa_cons (pe_ix (k_ix (K := K) (by rfl)) (pv 1) pe_int (fun _ _ => rfl)) pa_nil)))))))))
    pss_nil)
    (pss_one (ps_ret (pe_mkV T.g_Split MK_Split (hr.mono (by first | decide | omega)) (passE (L2N.takes_of rfl rfl rfl rfl) (fun _ _ _ _ z => z)) (by rfl) (pa_cons (pv 0) (pa_cons (pe_ix (k_ix (K := K) (by rfl)) (pv 1) pe_int (fun _ _ => rfl)) (pa_cons (pe_ix (k_ix (K := K) (by rfl)) (pv 1) pe_int (fun _ _ => rfl)) (pa_cons (pe_ix (k_ix (K := K) (by rfl)) (pv 1) pe_int (fun _ _ => rfl)) (pa_cons (pe_ix (k_ix (K := K) (by rfl)) (pv 1) pe_int (fun _ _ => rfl)) (pa_cons (pe_ix (k_ix (K := K) (by rfl)) (pv 1) pe_int (fun _ _ => rfl)) (pa_cons (pe_ix (k_ix (K := K) (by rfl)) (pv 1) pe_int (fun _ _ => rfl)) pa_nil)))))))))))))), ?_⟩
    try simp only [cxK]
    rw [show L2.start N__law_split [.ref sh, .ref L] = [some (.ref sh), some (.ref L)] from rfl]
    have ln := hs.len
    have few := ok.few
    rcases xs with _ | ⟨x0, _ | ⟨x1, _ | ⟨x2, _ | ⟨x3, _ | ⟨x4, _ | ⟨x5, _ | ⟨x6, r⟩⟩⟩⟩⟩⟩⟩
    · walk_at "go"
      exact g_mkSplitX hsh hb al hs ok er q
    · walk_at "go"
      rw [if_pos (by simp)]
      walk_at "go"
      rw [if_pos (by simp)]
      walk_at "go"
      exact g_mkSplitX hsh hb al hs ok er q
    · walk_at "go"
      rw [if_neg (by simp)]
      walk_at "go"
      rw [if_pos (by simp)]
      walk_at "go"
      rw [if_pos (by simp)]
      walk_at "go"
      exact g_mkSplitX hsh hb al hs ok er q
    · walk_at "go"
      rw [if_neg (by simp)]
      walk_at "go"
      rw [if_pos (by simp)]
      walk_at "go"
      rw [if_neg (by simp)]
      walk_at "go"
      exact g_mkSplitX hsh hb al hs ok er q
    · walk_at "go"
      rw [if_neg (by simp)]
      walk_at "go"
      rw [if_neg (by simp)]
      walk_at "go"
      rw [if_pos (by simp)]
      walk_at "go"
      exact g_mkSplitX hsh hb al hs ok er q
    · walk_at "go"
      rw [if_neg (by simp)]
      walk_at "go"
      rw [if_neg (by simp)]
      walk_at "go"
      rw [if_neg (by simp)]
      walk_at "go"
      rw [if_pos (by simp)]
      walk_at "go"
      exact g_mkSplitX hsh hb al hs ok er q
    · walk_at "go"
      rw [if_neg (by simp)]
      walk_at "go"
      rw [if_neg (by simp)]
      walk_at "go"
      rw [if_neg (by simp)]
      walk_at "go"
      rw [if_neg (by simp)]
      walk_at "go"
      exact g_mkSplitX hsh hb al hs ok er q
    · simp at ln; omega
theorem c_lsx (T : Top K mg) : CalX (L2N.CX P w) P w K mg base "_law_split" 6 P__law_split (spLsX K) := calx_mk T.f__law_split (ok_lsx T) (fun F => F.bindsN fun _ _ _ _ _ _ us hl => match us, hl with | [_, _], _ => rfl)
end

set_option Elab.async false
set_option linter.all false
set_option maxRecDepth 100000
set_option maxHeartbeats 4000000
open PySem PySem.Spec L2





section
variable {P : Program} {w : World} {K : PySem.W.Frag} {mg : Str → Option Value} {base : Heap}
/-! _law_plain_error -/
/-- what is known of the three errors -/
structure Plain (K : PySem.W.Frag) (C : Addr) : Prop where
  ins : ExcC K C
  ie : PySem.W.kitOne K (.ref C) (.ref (He.ga K "InvalidError")) = some true
  ve : PySem.W.kitOne K (.ref C) (.type "ValueError") = some true
  no : PySem.W.kitAny K (.ref C) [.ref (He.ga K "UnknownError"), .ref (He.ga K "StateError")] = some false
theorem kit_any2 {c : Value} {u v : Value} (h1 : PySem.W.kitOne K c u = some false) (h2 : PySem.W.kitOne K c v = some false) : PySem.W.kitAny K c [u, v] = some false := by
  simp [PySem.W.kitAny, h1, h2]
theorem plain_set (T : Top K mg) : Plain K (SetE K) := ⟨T.ox_InvalidSetting.ins, T.ki_o_InvalidSetting_o_InvalidError, T.ki_o_InvalidSetting_ValueError, kit_any2 T.ki_o_InvalidSetting_o_UnknownError T.ki_o_InvalidSetting_o_StateError⟩
theorem plain_thing (T : Top K mg) : Plain K (ThE K) := ⟨T.ox_InvalidThing.ins, T.ki_o_InvalidThing_o_InvalidError, T.ki_o_InvalidThing_ValueError, kit_any2 T.ki_o_InvalidThing_o_UnknownError T.ki_o_InvalidThing_o_StateError⟩
theorem plain_split (T : Top K mg) : Plain K (SplE K) := ⟨T.ox_InvalidSplit.ins, T.ki_o_InvalidSplit_o_InvalidError, T.ki_o_InvalidSplit_ValueError, kit_any2 T.ki_o_InvalidSplit_o_UnknownError T.ki_o_InvalidSplit_o_StateError⟩
def spPE (K : PySem.W.Frag) (base : Heap) : Sp := fun vs H Q _ => ∃ (a C : Addr) (fs : List (Str × V)), vs = [.ref a] ∧ ExV base H a C fs ∧ Plain K C ∧ ∀ H', Same H H' → Q (.bl true) H'
theorem fc_pe (T : Top K mg) {f : Addr} {fd : FuncData} (F : FnP K "_law_plain_error" s__law_plain_error f fd) : FnC P w K mg base CX0 1 f fd P__law_plain_error (spPE K base) := by
  refine FunD.okC F sc__law_plain_error (fun vs H Q E h => ?_) (fun cdv A outer s H vs Q E hr h => ?_)
  · obtain ⟨a, C, fs, rfl, _⟩ := h
    rfl
  · obtain ⟨a, C, fs, rfl, hE, pl, q⟩ := h
    refine ⟨_, (pss_one (ps_ret (pe_and (pe_callB (k_isE (K := K) (base := base) (by rfl) (by rfl)) (by rfl) T.z_isinstance (by decide +kernel) (pa_cons (pv 0) (pa_cons (pe_glob (v := .ref (He.ga K "InvalidError")) (by rfl) T.g_InvalidError rfl) pa_nil))) (pe_and (pe_callB (k_isE (K := K) (base := base) (by rfl) (by rfl)) (by rfl) T.z_isinstance (by decide +kernel) (pa_cons (pv 0) (pa_cons (pe_bltn (v := .ty "ValueError") (u := .type "ValueError") (by rfl) T.z_ValueError (by decide +kernel) rfl) pa_nil))) (pe_one (pe_not (pe_callB (k_isET (K := K) (base := base) (by rfl) (by rfl)) (by rfl) T.z_isinstance (by decide +kernel) (pa_cons (pv 0) (pa_cons (pe_tup (pa_cons (pe_glob (v := .ref (He.ga K "UnknownError")) (by rfl) T.g_UnknownError rfl) (pa_cons (pe_glob (v := .ref (He.ga K "StateError")) (by rfl) T.g_StateError rfl) pa_nil))) pa_nil))))))))), ?_⟩
    try simp only [cxK]
    rw [show L2.start N__law_plain_error [.ref a] = [some (.ref a)] from rfl]
    walk_at "go"
    refine g_isE hE pl.ins (.own _) pl.ie ?_
    walk_at "go"
    refine g_isE hE pl.ins (.ty _) pl.ve ?_
    walk_at "go"
    rename_i R hR
    refine g_isET (hE.sm (same_new hR)) pl.ins upd_same (.cons (.own _) (.cons (.own _) .nil)) pl.no ?_
    refine ⟨_, rfl, ?_⟩
    exact q _ (same_new hR)
theorem cw_pe (T : Top K mg) : CalW P w K mg base "_law_plain_error" 1 P__law_plain_error (spPE K base) := calw_mk T.f__law_plain_error (fc_pe T) (fun F => F.bindsN fun _ _ _ _ _ _ us hl => match us, hl with | [_], _ => rfl)
end

set_option Elab.async false
set_option linter.all false
set_option maxRecDepth 100000
set_option maxHeartbeats 4000000
open PySem PySem.Spec L2





section
variable {P : Program} {w : World} {K : PySem.W.Frag} {mg : Str → Option Value} {base : Heap}
/-! _law_told -/
def tvD : V → PyData
  | .int j => .int j
  | _ => .none
theorem wi_cases {t n m k : Nat} {d : PyData} : wiV t n m k d = .non ∨ ∃ j, wiV t n m k d = .int j := by
  unfold wiV
  split
  · split
    · exact .inr ⟨_, rfl⟩
    · exact .inl rfl
  · exact .inr ⟨_, rfl⟩
theorem flt_thing_inv {t n m k : Nat} {ds : List PyData} {i : Nat} {v : V} (h : fltM t n m k ds = .thing i v) : v = .non ∨ ∃ j, v = .int j := by
  unfold fltM at h
  split at h
  · split at h
    · injection h with h1 h2
      rw [← h2]
      exact wi_cases
    · split at h <;> cases h
  · cases h
theorem flt_few {t n m k : Nat} {ds : List PyData} (h : fltM t n m k ds = .ok) : 1 ≤ ds.length ∧ ds.length ≤ 5 := by
  by_cases few : 1 ≤ ds.length ∧ ds.length ≤ 5
  · exact few
  · rw [flt_set few] at h
    cases h
def toldF : FltK → PyData
  | .ok => .none
  | .set => .tuple [.str (Str.ofString "setting"), .str (Str.ofString "machines")]
  | .thing i v => .tuple [.str (Str.ofString "thing"), .int (i : Nat), tvD v]
  | .split z => .tuple [.str (Str.ofString "split"), dTh z]
def spTold (K : PySem.W.Frag) : Sp := fun vs H Q _ => ∃ (S : Addr → Prop) (sh L : Addr) (xs : List V) (ds : List PyData) (t n m k : Nat), vs = [.ref sh, .ref L] ∧ ShO K H sh (t : Nat) (n : Nat) (m : Nat) (k : Nat) ∧ ShB t n m k ∧ Al S H ∧ H L = some (.lst xs) ∧ DqAll K S H xs ds ∧ MasIn ds ∧
  ∀ (y : V) (H' : Hp), Dq K S H' y (toldF (fltM t n m k ds)) → Same H H' → Q y H'
theorem ok_told (T : Top K mg) {f : Addr} {fd : FuncData} (F : FnP K "_law_told" s__law_told f fd) : FnOk P w K mg base CX0 7 f fd P__law_told (spTold K) := by
  have cl_Split := T.cl_Split; have na_Split___bool__ := T.na_Split___bool__; have na_Split_shape := T.na_Split_shape; have na_Split_machines := T.na_Split_machines; have in_Split := T.in_Split; have ki_o_Split_o_Split := T.ki_o_Split_o_Split; have nf_Split_o_Split := T.nf_Split_o_Split; have ne_Split := T.ne_Split; have nf_Split_list := T.nf_Split_list; have nf_Split_NoneType := T.nf_Split_NoneType; have ki_list_o_Split := T.ki_list_o_Split; have ki_NoneType_o_Split := T.ki_NoneType_o_Split
  have C__law_split := c_lsx (P := P) (w := w) (base := base) T
  have CW__law_plain_error := cw_pe (P := P) (w := w) (base := base) T
  have MC_Split___len__ := m_pln (P := P) (w := w) (base := base) T
  refine F.ok sc__law_told (fun vs H Q E h => ?_) (fun cdv A outer s H vs Q E hr h => ?_)
  · obtain ⟨S, sh, L, xs, ds, t, n, m, k, rfl, _⟩ := h
    rfl
  · obtain ⟨S, sh, L, xs, ds, t, n, m, k, rfl, hsh, hb, al, hL, hs, ok, q⟩ := h
    refine ⟨_, PSs.nox (pss_cons (ps_try_manyA (Wo := fun _ _ _ _ => False) rfl rfl sc__law_told.nd takes0
    (fun W pn xe tk _ => (pss_one (ps_set (i := 2) sc__law_told.nd rfl (by first | exact Or.inl rfl | exact Or.inr rfl) (pe_calX C__law_split (hr.mono (by first | decide | omega)) (fun σ => passAtN tk σ) (by rfl) (pa_cons (pv 0) (pa_cons (pv 1) pa_nil))))))
    (HdsA.cons (k := ⟨.ref (He.ga K "InvalidSetting"), 3, _⟩) rfl rfl ⟨rfl, by decide, Or.inl T.g_InvalidSetting⟩
    (fun a oe cls d pn hz hf => (pss_one (ps_ret (pe_ifExp (pt_val (pe_calZ CW__law_plain_error hz hf (roomS (hr.mono (by first | decide | omega)) _) (by rfl) (pa_cons (pv 3) pa_nil))) (pe_tup (pa_cons pe_str (pa_cons (pe_xf (C := He.ga K "InvalidSetting") T.ox_InvalidSetting.xf T.ox_InvalidSetting.no hz hf (pv 3)) pa_nil))) pe_str)))) (HdsA.cons (k := ⟨.ref (He.ga K "InvalidThing"), 3, _⟩) rfl rfl ⟨rfl, by decide, Or.inl T.g_InvalidThing⟩
    (fun a oe cls d pn hz hf => (pss_one (ps_ret (pe_ifExp (pt_val (pe_calZ CW__law_plain_error hz hf (roomS (hr.mono (by first | decide | omega)) _) (by rfl) (pa_cons (pv 3) pa_nil))) (pe_tup (pa_cons pe_str (pa_cons (pe_xf (C := He.ga K "InvalidThing") T.ox_InvalidThing.xf T.ox_InvalidThing.no hz hf (pv 3)) (pa_cons (pe_xf (C := He.ga K "InvalidThing") T.oxa_InvalidThing_at.xf T.oxa_InvalidThing_at.no hz hf (pv 3)) pa_nil)))) pe_str)))) (HdsA.cons (k := ⟨.ref (He.ga K "InvalidSplit"), 3, _⟩) rfl rfl ⟨rfl, by decide, Or.inl T.g_InvalidSplit⟩
    (fun a oe cls d pn hz hf => (pss_one (ps_ret (pe_ifExp (pt_val (pe_calZ CW__law_plain_error hz hf (roomS (hr.mono (by first | decide | omega)) _) (by rfl) (pa_cons (pv 3) pa_nil))) (pe_tup (pa_cons pe_str (pa_cons (pe_tup (pa_cons (pe_xf (C := He.ga K "InvalidSplit") T.ox_InvalidSplit.xf T.ox_InvalidSplit.no hz hf (pv 3)) (pa_cons (pe_xf (C := He.ga K "InvalidSplit") T.oxa_InvalidSplit_layer.xf T.oxa_InvalidSplit_layer.no hz hf (pv 3)) (pa_cons (pe_xf (C := He.ga K "InvalidSplit") T.oxa_InvalidSplit_number.xf T.oxa_InvalidSplit_number.no hz hf (pv 3)) pa_nil)))) pa_nil))) pe_str)))) HdsA.nil))))
    (pss_one (ps_ret (pe_ifExp (PW.pt (pw_and (pt_val (pe_callB (k_isi (K := K) (by rfl)) (by rfl) T.z_isinstance (by decide +kernel) (pa_cons (pv 2) (pa_cons (pe_glob (v := .ref (He.ga K "Split")) (by rfl) T.g_Split rfl) pa_nil)))) (pw_and1 (pt_cmpR op_eq (pe_callB (call_ownLen MC_Split___len__ (hr.mono (by first | decide | omega))) (by rfl) T.z_len (by decide +kernel) (pa_cons (pv 2) pa_nil)) (pe_callB (k_len (K := K) (by rfl)) (by rfl) T.z_len (by decide +kernel) (pa_cons (pv 1) pa_nil)) (nomark _))))) pe_non pe_str)))), ?_⟩
    try simp only [cxK]
    rw [show L2.start N__law_told [.ref sh, .ref L] = [some (.ref sh), some (.ref L), none, none] from rfl]
    walk_at "go"
    unfold tCallS
    walk_at "go"
    refine ⟨S, sh, L, xs, ds, t, n, m, k, rfl, hsh, hb, al, hL, hs, ok, ?_, fun hk x H' hx hS s' => ?_⟩
    · cases hf : fltM t n m k ds with
      | ok => trivial
      | set =>
        rw [hf] at q
        intro dd H1 s1 hdd
        refine ⟨true, T.xm_InvalidSetting_InvalidSetting, fun _ ae hae => ?_, fun h => by cases h⟩
        have sH : Same H (upd H1 dd (.xd [(Str.ofString "field", .str (Str.ofString "machines"))])) := s1.trans (same_new hdd)
        have nda : dd ≠ ae := fun y => by rw [← y, upd_same] at hae; cases hae
        have hx2 : upd H1 dd (.xd [(Str.ofString "field", .str (Str.ofString "machines"))]) dd = some (.xd [(Str.ofString "field", .str (Str.ofString "machines"))]) := upd_same
        generalize upd H1 dd (.xd [(Str.ofString "field", .str (Str.ofString "machines"))]) = H2 at sH hae hx2 ⊢
        have alH := al.sm sH
        have fin : ∀ (H7 : Hp), Same H2 H7 → tTup (tCons (tC (.str (Str.ofString "setting"))) (tCons (tXf ae (Value.ref (He.ga K "InvalidSetting")) (some dd) (He.ga K "InvalidSetting") (Str.ofString "field") (tVar 3)) tNil)) [some (.ref sh), some (.ref L), none, some (.ref ae)] H7 Q := fun H7 s7 => by
          have hx7 := s7 _ _ hx2
          have al7 := alH.sm s7
          walk_at "go"
          refine ⟨.ref ae, rfl, rfl, rfl, dd, _, _, rfl, hx7, rfl, ?_⟩
          walk_at "go"
          rename_i R hR
          exact q _ _ (dq_newT (al7.no hR) upd_same (.cons (.str _) (.cons (.str _) .nil))) (sH.trans (s7.trans (same_new hR)))
        refine ⟨.ref ae, rfl, fun oe hzc hf => ⟨fun na => ?_, fun hbase => ?_⟩⟩
        · exact ⟨ae, He.ga K "InvalidSetting", _, rfl, exV_in hzc hf nda hx2, plain_set T, fun H5 s5 => ⟨true, rfl, fin _ (same_del na s5)⟩⟩
        · exact ⟨ae, He.ga K "InvalidSetting", _, rfl, exV_base hzc hf hbase hx2, plain_set T, fun H5 s5 => ⟨true, rfl, fin _ s5⟩⟩
      | thing i v =>
        rw [hf] at q
        intro dd H1 s1 hdd
        have hv := flt_thing_inv hf
        refine ⟨false, T.xm_InvalidThing_InvalidSetting, fun h => (by cases h), fun _ => ⟨true, T.xm_InvalidThing_InvalidThing, fun _ ae hae => ?_, fun h => by cases h⟩⟩
        have sH : Same H (upd H1 dd (.xd [(Str.ofString "at", v), (Str.ofString "machine", .int (i : Nat))])) := s1.trans (same_new hdd)
        have nda : dd ≠ ae := fun y => by rw [← y, upd_same] at hae; cases hae
        have hx2 : upd H1 dd (.xd [(Str.ofString "at", v), (Str.ofString "machine", .int (i : Nat))]) dd = some (.xd [(Str.ofString "at", v), (Str.ofString "machine", .int (i : Nat))]) := upd_same
        generalize upd H1 dd (.xd [(Str.ofString "at", v), (Str.ofString "machine", .int (i : Nat))]) = H2 at sH hae hx2 ⊢
        have alH := al.sm sH
        have fin : ∀ (H7 : Hp), Same H2 H7 → tTup (tCons (tC (.str (Str.ofString "thing"))) (tCons (tXf ae (Value.ref (He.ga K "InvalidThing")) (some dd) (He.ga K "InvalidThing") (Str.ofString "machine") (tVar 3)) (tCons (tXf ae (Value.ref (He.ga K "InvalidThing")) (some dd) (He.ga K "InvalidThing") (Str.ofString "at") (tVar 3)) tNil))) [some (.ref sh), some (.ref L), none, some (.ref ae)] H7 Q := fun H7 s7 => by
          have hx7 := s7 _ _ hx2
          have al7 := alH.sm s7
          walk_at "go"
          refine ⟨.ref ae, rfl, rfl, rfl, dd, _, _, rfl, hx7, rfl, ?_⟩
          walk_at "go"
          refine ⟨.ref ae, rfl, rfl, rfl, dd, _, _, rfl, hx7, rfl, ?_⟩
          walk_at "go"
          rename_i R hR
          have dv : Dq K S (upd H7 R (.tup [.str (Str.ofString "thing"), .int (i : Nat), v])) v (tvD v) := by
            rcases hv with rfl | ⟨j, rfl⟩
            · exact .non
            · exact .int _
          exact q _ _ (dq_newT (al7.no hR) upd_same (.cons (.str _) (.cons (.int _) (.cons dv .nil)))) (sH.trans (s7.trans (same_new hR)))
        refine ⟨.ref ae, rfl, fun oe hzc hf => ⟨fun na => ?_, fun hbase => ?_⟩⟩
        · exact ⟨ae, He.ga K "InvalidThing", _, rfl, exV_in hzc hf nda hx2, plain_thing T, fun H5 s5 => ⟨true, rfl, fin _ (same_del na s5)⟩⟩
        · exact ⟨ae, He.ga K "InvalidThing", _, rfl, exV_base hzc hf hbase hx2, plain_thing T, fun H5 s5 => ⟨true, rfl, fin _ s5⟩⟩
      | split z =>
        rw [hf] at q
        intro dd H1 s1 hdd
        refine ⟨false, T.xm_InvalidSplit_InvalidSetting, fun h => (by cases h), fun _ => ⟨false, T.xm_InvalidSplit_InvalidThing, fun h => (by cases h), fun _ => ⟨true, T.xm_InvalidSplit_InvalidSplit, fun _ ae hae => ?_, fun h => by cases h⟩⟩⟩
        have sH : Same H (upd H1 dd (.xd [(Str.ofString "number", .int (z.2.2 : Nat)), (Str.ofString "layer", .int (z.2.1 : Nat)), (Str.ofString "kind", .str z.1)])) := s1.trans (same_new hdd)
        have nda : dd ≠ ae := fun y => by rw [← y, upd_same] at hae; cases hae
        have hx2 : upd H1 dd (.xd [(Str.ofString "number", .int (z.2.2 : Nat)), (Str.ofString "layer", .int (z.2.1 : Nat)), (Str.ofString "kind", .str z.1)]) dd = some (.xd [(Str.ofString "number", .int (z.2.2 : Nat)), (Str.ofString "layer", .int (z.2.1 : Nat)), (Str.ofString "kind", .str z.1)]) := upd_same
        generalize upd H1 dd (.xd [(Str.ofString "number", .int (z.2.2 : Nat)), (Str.ofString "layer", .int (z.2.1 : Nat)), (Str.ofString "kind", .str z.1)]) = H2 at sH hae hx2 ⊢
        have alH := al.sm sH
        have fin : ∀ (H7 : Hp), Same H2 H7 → tTup (tCons (tC (.str (Str.ofString "split"))) (tCons (tTup (tCons (tXf ae (Value.ref (He.ga K "InvalidSplit")) (some dd) (He.ga K "InvalidSplit") (Str.ofString "kind") (tVar 3)) (tCons (tXf ae (Value.ref (He.ga K "InvalidSplit")) (some dd) (He.ga K "InvalidSplit") (Str.ofString "layer") (tVar 3)) (tCons (tXf ae (Value.ref (He.ga K "InvalidSplit")) (some dd) (He.ga K "InvalidSplit") (Str.ofString "number") (tVar 3)) tNil)))) tNil)) [some (.ref sh), some (.ref L), none, some (.ref ae)] H7 Q := fun H7 s7 => by
          have hx7 := s7 _ _ hx2
          have al7 := alH.sm s7
          walk_at "go"
          refine ⟨.ref ae, rfl, rfl, rfl, dd, _, _, rfl, hx7, rfl, ?_⟩
          walk_at "go"
          refine ⟨.ref ae, rfl, rfl, rfl, dd, _, _, rfl, hx7, rfl, ?_⟩
          walk_at "go"
          refine ⟨.ref ae, rfl, rfl, rfl, dd, _, _, rfl, hx7, rfl, ?_⟩
          walk_at "go"
          rename_i R1 hR1 R2 hR2
          have sA := same_new hR1 (o := .tup [.str z.1, .int (z.2.1 : Nat), .int (z.2.2 : Nat)])
          have sB := same_new hR2 (o := .tup [.str (Str.ofString "split"), .ref R1])
          have eR1 := sB _ _ (upd_same (H := H7) (a := R1) (o := .tup [.str z.1, .int (z.2.1 : Nat), .int (z.2.2 : Nat)]))
          exact q _ _ (dq_newT ((al7.sm sA).no hR2) upd_same (.cons (.str _) (.cons (dq_newT (al7.no hR1) eR1 (.cons (.str _) (.cons (.int _) (.cons (.int _) .nil)))) .nil))) (sH.trans (s7.trans (sA.trans sB)))
        refine ⟨.ref ae, rfl, fun oe hzc hf => ⟨fun na => ?_, fun hbase => ?_⟩⟩
        · exact ⟨ae, He.ga K "InvalidSplit", _, rfl, exV_in hzc hf nda hx2, plain_split T, fun H5 s5 => ⟨true, rfl, fin _ (same_del na s5)⟩⟩
        · exact ⟨ae, He.ga K "InvalidSplit", _, rfl, exV_base hzc hf hbase hx2, plain_split T, fun H5 s5 => ⟨true, rfl, fin _ s5⟩⟩
    · have few := flt_few hk
      have hS0 := hS
      obtain ⟨dx, shx, y1, hp, hsh2, hy1⟩ := hS
      have hL2 := s' _ _ hL
      walk_at "go"
      refine g_ownLen hp ⟨S, x, t, n, m, k, ds, rfl, ⟨⟨dx, shx, y1, hp, hsh2, hy1⟩⟩, few.2, (ds.length : Nat), rfl, by omega, by omega, ?_⟩
      walk_at "go"
      have ln := hs.len
      rw [if_pos (decide_eq_true (by omega))]
      exact q _ _ (by rw [hk]; exact .non) s'
theorem c_told (T : Top K mg) : Cal P w K mg base "_law_told" 7 P__law_told (spTold K) := cal_mk T.f__law_told (ok_told T) (fun F => F.bindsN fun _ _ _ _ _ _ us hl => match us, hl with | [_, _], _ => rfl)
end

set_option Elab.async false
set_option linter.all false
set_option maxRecDepth 100000
set_option maxHeartbeats 4000000
open PySem PySem.Spec L2





section
variable {P : Program} {w : World} {K : PySem.W.Frag} {mg : Str → Option Value} {base : Heap}
/-! _law_caught -/
theorem kit_any3 {c : Value} {u v x : Value} {a b d : Bool} (h1 : PySem.W.kitOne K c u = some a) (h2 : PySem.W.kitOne K c v = some b) (h3 : PySem.W.kitOne K c x = some d) (hh : (a || (b || d)) = true) : PySem.W.kitAny K c [u, v, x] = some true := by
  cases a <;> cases b <;> cases d <;> simp [PySem.W.kitAny, h1, h2, h3] at hh ⊢
def spCau (K : PySem.W.Frag) : Sp := fun vs H Q _ => ∃ (S : Addr → Prop) (sh L : Addr) (xs : List V) (ds : List PyData) (t n m k : Nat), vs = [.ref sh, .ref L] ∧ ShO K H sh (t : Nat) (n : Nat) (m : Nat) (k : Nat) ∧ ShB t n m k ∧ Al S H ∧ H L = some (.lst xs) ∧ DqAll K S H xs ds ∧ MasIn ds ∧ fltM t n m k ds ≠ .ok ∧
  ∀ (H' : Hp), Same H H' → Q (.bl true) H'
theorem ok_cau (T : Top K mg) {f : Addr} {fd : FuncData} (F : FnP K "_law_caught" s__law_caught f fd) : FnOk P w K mg base CX0 7 f fd P__law_caught (spCau K) := by
  have C__law_split := c_lsx (P := P) (w := w) (base := base) T
  refine F.ok sc__law_caught (fun vs H Q E h => ?_) (fun cdv A outer s H vs Q E hr h => ?_)
  · obtain ⟨S, sh, L, xs, ds, t, n, m, k, rfl, _⟩ := h
    rfl
  · obtain ⟨S, sh, L, xs, ds, t, n, m, k, rfl, hsh, hb, al, hL, hs, ok, nok, q⟩ := h
    refine ⟨_, PSs.nox (pss_cons (ps_try_as (i := 2) (Wout := fun _ _ _ _ => False) rfl rfl sc__law_caught.nd rfl rfl ⟨rfl, by decide, Or.inl T.g_InvalidError⟩ takes0
    (fun W pn xe tk _ => (pss_one (ps_expr (pe_calX C__law_split (hr.mono (by first | decide | omega)) (fun σ => passAtN tk σ) (by rfl) (pa_cons (pv 0) (pa_cons (pv 1) pa_nil))))))
    (fun a oe cls d pn hz hf => (pss_one (ps_ret (pe_callB (k_isDT (K := K) (by rfl) hz hf) (by rfl) T.z_isinstance (by decide +kernel) (pa_cons (pv 2) (pa_cons (pe_tup (pa_cons (pe_glob (v := .ref (He.ga K "InvalidSetting")) (by rfl) T.g_InvalidSetting rfl) (pa_cons (pe_glob (v := .ref (He.ga K "InvalidThing")) (by rfl) T.g_InvalidThing rfl) (pa_cons (pe_glob (v := .ref (He.ga K "InvalidSplit")) (by rfl) T.g_InvalidSplit rfl) pa_nil)))) pa_nil)))))))
    (pss_one (ps_ret pe_bl))), ?_⟩
    try simp only [cxK]
    rw [show L2.start N__law_caught [.ref sh, .ref L] = [some (.ref sh), some (.ref L), none] from rfl]
    walk_at "go"
    unfold tCallS
    walk_at "go"
    refine ⟨S, sh, L, xs, ds, t, n, m, k, rfl, hsh, hb, al, hL, hs, ok, ?_, fun hk x H' hx hS s' => absurd hk nok⟩
    cases hf : fltM t n m k ds with
    | ok => trivial
    | set =>
      intro dd H1 s1 hdd
      have sH := s1.trans (same_new hdd (o := .xd [(Str.ofString "field", .str (Str.ofString "machines"))]))
      refine ⟨true, T.xm_InvalidSetting_InvalidError, fun _ ae hae => ?_, fun h => by cases h⟩
      show tVar 2 [some (.ref sh), some (.ref L), some (.ref ae)] _ _
      walk_at "go"
      refine ⟨Nat.le_of_ble_eq_true rfl, fun R hR => ?_⟩
      show rIsDT K ae _ _ [.ref ae, .ref R] _ _
      refine g_isDT T.ox_InvalidSetting.ins (same_new hR _ _ upd_same) upd_same (.cons (.own _) (.cons (.own _) (.cons (.own _) .nil))) (kit_any3 T.ki_o_InvalidSetting_o_InvalidSetting T.ki_o_InvalidSetting_o_InvalidThing T.ki_o_InvalidSetting_o_InvalidSplit rfl) ?_
      exact q _ (sH.trans (same_new hR))
    | thing i v =>
      intro dd H1 s1 hdd
      have sH := s1.trans (same_new hdd (o := .xd [(Str.ofString "at", v), (Str.ofString "machine", .int (i : Nat))]))
      refine ⟨true, T.xm_InvalidThing_InvalidError, fun _ ae hae => ?_, fun h => by cases h⟩
      show tVar 2 [some (.ref sh), some (.ref L), some (.ref ae)] _ _
      walk_at "go"
      refine ⟨Nat.le_of_ble_eq_true rfl, fun R hR => ?_⟩
      show rIsDT K ae _ _ [.ref ae, .ref R] _ _
      refine g_isDT T.ox_InvalidThing.ins (same_new hR _ _ upd_same) upd_same (.cons (.own _) (.cons (.own _) (.cons (.own _) .nil))) (kit_any3 T.ki_o_InvalidThing_o_InvalidSetting T.ki_o_InvalidThing_o_InvalidThing T.ki_o_InvalidThing_o_InvalidSplit rfl) ?_
      exact q _ (sH.trans (same_new hR))
    | split z =>
      intro dd H1 s1 hdd
      have sH := s1.trans (same_new hdd (o := .xd [(Str.ofString "number", .int (z.2.2 : Nat)), (Str.ofString "layer", .int (z.2.1 : Nat)), (Str.ofString "kind", .str z.1)]))
      refine ⟨true, T.xm_InvalidSplit_InvalidError, fun _ ae hae => ?_, fun h => by cases h⟩
      show tVar 2 [some (.ref sh), some (.ref L), some (.ref ae)] _ _
      walk_at "go"
      refine ⟨Nat.le_of_ble_eq_true rfl, fun R hR => ?_⟩
      show rIsDT K ae _ _ [.ref ae, .ref R] _ _
      refine g_isDT T.ox_InvalidSplit.ins (same_new hR _ _ upd_same) upd_same (.cons (.own _) (.cons (.own _) (.cons (.own _) .nil))) (kit_any3 T.ki_o_InvalidSplit_o_InvalidSetting T.ki_o_InvalidSplit_o_InvalidThing T.ki_o_InvalidSplit_o_InvalidSplit rfl) ?_
      exact q _ (sH.trans (same_new hR))
theorem c_cau (T : Top K mg) : Cal P w K mg base "_law_caught" 7 P__law_caught (spCau K) := cal_mk T.f__law_caught (ok_cau T) (fun F => F.bindsN fun _ _ _ _ _ _ us hl => match us, hl with | [_, _], _ => rfl)
end

set_option Elab.async false
set_option linter.all false
set_option maxRecDepth 100000
set_option maxHeartbeats 4000000
open PySem PySem.Spec L2





section
variable {P : Program} {w : World} {K : PySem.W.Frag} {mg : Str → Option Value} {base : Heap}
/-! what is no thing -/
theorem mem_th {t n m k : Nat} {z : Th} (h : z ∈ thM t n m k) : (z.1 = Str.ofString "head" ∧ z.2.1 < m ∧ z.2.2 < k) ∨ (z.1 = Str.ofString "unit" ∧ z.2.1 < m ∧ z.2.2 < n) ∨ (z.1 = Str.ofString "out" ∧ z.2.1 = 0 ∧ z.2.2 < t) := by
  unfold thM thL at h
  rcases List.mem_append.mp h with h | h
  · obtain ⟨l, hl, h⟩ := List.mem_flatMap.mp h
    rcases List.mem_append.mp h with h | h
    · obtain ⟨j, hj, rfl⟩ := List.mem_map.mp h
      exact .inl ⟨rfl, List.mem_range.mp hl, List.mem_range.mp hj⟩
    · obtain ⟨j, hj, rfl⟩ := List.mem_map.mp h
      exact .inr (.inl ⟨rfl, List.mem_range.mp hl, List.mem_range.mp hj⟩)
  · obtain ⟨j, hj, rfl⟩ := List.mem_map.mp h
    exact .inr (.inr ⟨rfl, rfl, List.mem_range.mp hj⟩)
theorem bad_no {t n m k : Nat} {ds : List PyData} (h : ds.length ≠ 3) : isThX t n m k (some (.tuple ds)) = false ∧ isThX t n m k (some (.list ds)) = false := ⟨isThL_no h, isThL_no h⟩
theorem bad_num {t n m k : Nat} {a b c : PyData} (h : numD b 0 2 = false ∨ numD c 0 5 = false) : isThX t n m k (some (.tuple [a, b, c])) = false ∧ isThX t n m k (some (.list [a, b, c])) = false := by
  have e : isThL t n m k [a, b, c] = false := by
    rw [isThL_3]
    rcases h with h | h
    · rw [h, Bool.false_and]
    · rw [h, Bool.false_and, Bool.and_false]
  exact ⟨e, e⟩
theorem bad_kind {t n m k : Nat} {a b c : PyData} (h : ∀ s : Str, PyData.eqv (.str s) a = false) : isThX t n m k (some (.tuple [a, b, c])) = false ∧ isThX t n m k (some (.list [a, b, c])) = false := by
  have e : isThL t n m k [a, b, c] = false := by
    rw [isThL_3]
    have z : ((thM t n m k).map dTh).any (fun z => PyData.eqv z (.tuple [a, b, c])) = false := by
      rw [List.any_eq_false]
      intro y hy
      obtain ⟨z, _, rfl⟩ := List.mem_map.mp hy
      have e2 : PyData.eqv (dTh z) (.tuple [a, b, c]) = (PyData.eqv (.str z.1) a && (PyData.eqv (.int (z.2.1 : Nat)) b && (PyData.eqv (.int (z.2.2 : Nat)) c && true))) := by
        show PyData.eqv (.tuple [.str z.1, .int (z.2.1 : Nat), .int (z.2.2 : Nat)]) (.tuple [a, b, c]) = _
        rw [PyData.eqv, PyData.eqvAll, PyData.eqvAll, PyData.eqvAll, PyData.eqvAll]
      rw [e2, h, Bool.false_and]
      exact Bool.false_ne_true
    rw [z, Bool.and_false, Bool.and_false]
  exact ⟨e, e⟩
theorem bad_at {t n m k : Nat} {s : Str} {i j : Int} (h : ¬ ((s = Str.ofString "head" ∧ 0 ≤ i ∧ i < m ∧ 0 ≤ j ∧ j < k) ∨ (s = Str.ofString "unit" ∧ 0 ≤ i ∧ i < m ∧ 0 ≤ j ∧ j < n) ∨ (s = Str.ofString "out" ∧ i = 0 ∧ 0 ≤ j ∧ j < t))) :
    isThX t n m k (some (.tuple [.str s, .int i, .int j])) = false ∧ isThX t n m k (some (.list [.str s, .int i, .int j])) = false := by
  have e : isThL t n m k [.str s, .int i, .int j] = false := by
    rw [isThL_3]
    have z : ((thM t n m k).map dTh).any (fun z => PyData.eqv z (.tuple [.str s, .int i, .int j])) = false := by
      rw [List.any_eq_false]
      intro y hy
      obtain ⟨⟨a, b, c⟩, hz, rfl⟩ := List.mem_map.mp hy
      intro e
      have e2 : PyData.eqv (dTh (a, b, c)) (.tuple [.str s, .int i, .int j]) = ((a == s) && (((b : Int) == i) && (((c : Int) == j) && true))) := by simp only [dTh, PyData.eqv, PyData.eqvAll]
      rw [e2] at e
      simp at e
      obtain ⟨rfl, rfl, rfl⟩ := e
      apply h
      rcases mem_th hz with ⟨h1, h2, h3⟩ | ⟨h1, h2, h3⟩ | ⟨h1, h2, h3⟩
      · exact .inl ⟨h1, by simp, by simpa using h2, by simp, by simpa using h3⟩
      · exact .inr (.inl ⟨h1, by simp, by simpa using h2, by simp, by simpa using h3⟩)
      · exact .inr (.inr ⟨h1, by simpa using h2, by simp, by simpa using h3⟩)
    rw [z, Bool.and_false, Bool.and_false]
  exact ⟨e, e⟩
end

set_option Elab.async false
set_option linter.all false
set_option maxRecDepth 100000
set_option maxHeartbeats 4000000
open PySem PySem.Spec L2
/-! what is no thing shows otherwise than every thing -/
def wrdD (z : Th) : List PyData := [dTh z, .list (itsD (dTh z))]
/-- the strangers that no figure tells -/
def cstL (far : Nat) : List PyData := [.tuple [.str (Str.ofString "out"), .int 1, .int 0], .tuple [.str (Str.ofString "head"), .int 0, .int (-1)], .tuple [.str (Str.ofString "unit"), .int (-1 - (far : Int)), .int 0], .tuple [.str (Str.ofString "out"), .int 0, .bool true],
  .tuple [.str (Str.ofString "head"), .bool false, .int 0], .list [.str (Str.ofString "unit"), .int 0, .bool false], .none, .bool true, .int (far : Int), .str (Str.ofString "out"), .tuple [], .tuple [.str (Str.ofString "out"), .int 0], .list [.str (Str.ofString "out"), .int 0, .int 0, .int 0],
  .tuple [.int 0, .int 0, .str (Str.ofString "out")], .tuple [.str (Str.ofString "outs"), .int 0, .int 0], .tuple [.str (Str.ofString "out"), .int 0, .str (Str.ofString "0")], .tuple [.str (Str.ofString "unit"), .none, .int 0], .tuple [.str (Str.ofString "head"), .tuple [.int 0], .int 0],
  .list [.list [.str (Str.ofString "head"), .int 0, .int 0]], .tuple [.str (Str.ofString "Unit"), .int 0, .int 0], .tuple [.str (Str.ofString "unit"), .int 0, .list [.int 0]]]
def cstB : Bool := [0, 1, 7].all fun far => (cstL far).all fun d => (thM 6 4 3 2).all fun z => (wrdD z).all fun e => !(d.shown == e.shown)
theorem cst_ok : cstB = true := by decide +kernel
/-- the strangers that a figure tells -/
def figB : Bool := [0, 1, 7].all fun far => (thM 6 4 3 2).all fun z => (wrdD z).all fun e =>
  ([1, 2, 3].all fun m => !(decide (z.2.1 < m) && (PyData.tuple [.str (Str.ofString "head"), .int ((m + far : Nat) : Int), .int 0]).shown == e.shown)) &&
  ([1, 2].all fun k => !((!(z.1 == Str.ofString "head") || decide (z.2.2 < k)) && (PyData.tuple [.str (Str.ofString "head"), .int 0, .int ((k + far : Nat) : Int)]).shown == e.shown)) &&
  ([1, 2, 3, 4].all fun n => !((!(z.1 == Str.ofString "unit") || decide (z.2.2 < n)) && (PyData.tuple [.str (Str.ofString "unit"), .int 0, .int ((n + far : Nat) : Int)]).shown == e.shown)) &&
  ([2, 3, 4, 5, 6].all fun t => !((!(z.1 == Str.ofString "out") || decide (z.2.2 < t)) && (PyData.tuple [.str (Str.ofString "out"), .int 0, .int ((t + far : Nat) : Int)]).shown == e.shown))
theorem fig_ok : figB = true := by decide +kernel
/-- a figure's things are among the most things -/
theorem th_uni {t n m k : Nat} (h1 : t ≤ 6) (h2 : n ≤ 4) (h3 : m ≤ 3) (h4 : k ≤ 2) {z : Th} (h : z ∈ thM t n m k) : z ∈ thM 6 4 3 2 := by
  unfold thM thL at h ⊢
  rcases List.mem_append.mp h with h | h
  · obtain ⟨l, hl, h⟩ := List.mem_flatMap.mp h
    refine List.mem_append.mpr (.inl (List.mem_flatMap.mpr ⟨l, List.mem_range.mpr (Nat.lt_of_lt_of_le (List.mem_range.mp hl) h3), ?_⟩))
    rcases List.mem_append.mp h with h | h
    · obtain ⟨j, hj, rfl⟩ := List.mem_map.mp h
      exact List.mem_append.mpr (.inl (List.mem_map.mpr ⟨j, List.mem_range.mpr (Nat.lt_of_lt_of_le (List.mem_range.mp hj) h4), rfl⟩))
    · obtain ⟨j, hj, rfl⟩ := List.mem_map.mp h
      exact List.mem_append.mpr (.inr (List.mem_map.mpr ⟨j, List.mem_range.mpr (Nat.lt_of_lt_of_le (List.mem_range.mp hj) h2), rfl⟩))
  · obtain ⟨j, hj, rfl⟩ := List.mem_map.mp h
    exact List.mem_append.mpr (.inr (List.mem_map.mpr ⟨j, List.mem_range.mpr (Nat.lt_of_lt_of_le (List.mem_range.mp hj) h1), rfl⟩))
theorem cst_no {far : Nat} (hf : far = 0 ∨ far = 1 ∨ far = 7) {d : PyData} (hd : d ∈ cstL far) {z : Th} (hz : z ∈ thM 6 4 3 2) {e : PyData} (he : e ∈ wrdD z) : d.shown ≠ e.shown := by
  have h := cst_ok
  unfold cstB at h
  have h1 := List.all_eq_true.mp h far (by rcases hf with rfl | rfl | rfl <;> simp)
  have h2 := List.all_eq_true.mp (List.all_eq_true.mp (List.all_eq_true.mp h1 d hd) z hz) e he
  intro q
  rw [q] at h2
  simp at h2
theorem fig_no {t n m k far : Nat} (h1 : 2 ≤ t ∧ t ≤ 6) (h2 : 1 ≤ n ∧ n ≤ 4) (h3 : 1 ≤ m ∧ m ≤ 3) (h4 : 1 ≤ k ∧ k ≤ 2) (hf : far = 0 ∨ far = 1 ∨ far = 7) {z : Th} (hz : z ∈ thM t n m k) {e : PyData} (he : e ∈ wrdD z) :
    (PyData.tuple [.str (Str.ofString "head"), .int ((m + far : Nat) : Int), .int 0]).shown ≠ e.shown ∧ (PyData.tuple [.str (Str.ofString "head"), .int 0, .int ((k + far : Nat) : Int)]).shown ≠ e.shown ∧
    (PyData.tuple [.str (Str.ofString "unit"), .int 0, .int ((n + far : Nat) : Int)]).shown ≠ e.shown ∧ (PyData.tuple [.str (Str.ofString "out"), .int 0, .int ((t + far : Nat) : Int)]).shown ≠ e.shown := by
  have h := fig_ok
  unfold figB at h
  have g1 := List.all_eq_true.mp h far (by rcases hf with rfl | rfl | rfl <;> simp)
  have g2 := List.all_eq_true.mp (List.all_eq_true.mp g1 z (th_uni h1.2 h2.2 h3.2 h4.2 hz)) e he
  rw [Bool.and_eq_true, Bool.and_eq_true, Bool.and_eq_true] at g2
  obtain ⟨⟨⟨a1, a2⟩, a3⟩, a4⟩ := g2
  have b1 := List.all_eq_true.mp a1 m (by have := h3.1; have := h3.2; simp; omega)
  have b2 := List.all_eq_true.mp a2 k (by have := h4.1; have := h4.2; simp; omega)
  have b3 := List.all_eq_true.mp a3 n (by have := h2.1; have := h2.2; simp; omega)
  have b4 := List.all_eq_true.mp a4 t (by have := h1.1; have := h1.2; simp; omega)
  have hm := mem_th hz
  have dist1 : Str.ofString "unit" ≠ Str.ofString "head" := by decide +kernel
  have dist2 : Str.ofString "out" ≠ Str.ofString "head" := by decide +kernel
  have dist3 : Str.ofString "out" ≠ Str.ofString "unit" := by decide +kernel
  have c1 : z.2.1 < m := by rcases hm with ⟨_, q, _⟩ | ⟨_, q, _⟩ | ⟨_, q, _⟩ <;> omega
  have c2 : z.1 = Str.ofString "head" → z.2.2 < k := fun q => by
    rcases hm with ⟨_, _, r⟩ | ⟨p, _, r⟩ | ⟨p, _, r⟩
    · exact r
    · exact absurd (p.symm.trans q) dist1
    · exact absurd (p.symm.trans q) dist2
  have c3 : z.1 = Str.ofString "unit" → z.2.2 < n := fun q => by
    rcases hm with ⟨p, _, r⟩ | ⟨p, _, r⟩ | ⟨p, _, r⟩
    · exact absurd (q.symm.trans p) dist1
    · exact r
    · exact absurd (p.symm.trans q) dist3
  have c4 : z.1 = Str.ofString "out" → z.2.2 < t := fun q => by
    rcases hm with ⟨p, _, r⟩ | ⟨p, _, r⟩ | ⟨p, _, r⟩
    · exact absurd (q.symm.trans p) dist2
    · exact absurd (q.symm.trans p) dist3
    · exact r
  have imp : ∀ {p : Bool} {x y : Str}, (!(p && x == y)) = true → p = true → x ≠ y := fun {p x y} q hp e => by
    rw [hp, e, Bool.true_and, beq_self_eq_true] at q
    cases q
  have orT : ∀ {s : Str} {a b : Nat}, (z.1 = s → a < b) → (!(z.1 == s) || decide (a < b)) = true := fun {s a b} q => by
    by_cases e : z.1 = s
    · rw [decide_eq_true (q e), Bool.or_true]
    · rw [beq_eq_false_iff_ne.mpr e]
      rfl
  exact ⟨imp b1 (decide_eq_true c1), imp b2 (orT c2), imp b3 (orT c3), imp b4 (orT c4)⟩

set_option Elab.async false
set_option linter.all false
set_option maxRecDepth 100000
set_option maxHeartbeats 4000000
open PySem PySem.Spec L2
/-! strangers are no things -/
/-- all of them -/
def strL (t n m k far : Nat) : List PyData := [.tuple [.str (Str.ofString "head"), .int ((m + far : Nat) : Int), .int 0], .tuple [.str (Str.ofString "head"), .int 0, .int ((k + far : Nat) : Int)], .tuple [.str (Str.ofString "unit"), .int 0, .int ((n + far : Nat) : Int)], .tuple [.str (Str.ofString "out"), .int 0, .int ((t + far : Nat) : Int)]] ++ cstL far
theorem str_bad {t n m k far : Nat} : ∀ d ∈ strL t n m k far, isThD t n m k d = false := by
  unfold strL cstL
  simp only [List.cons_append, List.nil_append, List.forall_mem_cons]
  have at_ : ∀ {s : Str} {i j : Int}, ¬ ((s = Str.ofString "head" ∧ 0 ≤ i ∧ i < m ∧ 0 ≤ j ∧ j < k) ∨ (s = Str.ofString "unit" ∧ 0 ≤ i ∧ i < m ∧ 0 ≤ j ∧ j < n) ∨ (s = Str.ofString "out" ∧ i = 0 ∧ 0 ≤ j ∧ j < t)) → isThD t n m k (.tuple [.str s, .int i, .int j]) = false := fun h => (bad_at h).1
  refine ⟨at_ ?_, at_ ?_, at_ ?_, at_ ?_, at_ ?_, at_ ?_, at_ ?_, (bad_num (.inr rfl)).1, (bad_num (.inl rfl)).1, (bad_num (.inr rfl)).2, rfl, rfl, rfl, rfl, (bad_no (by decide)).1, (bad_no (by simp)).1, (bad_no (by simp)).2, (bad_num (.inr rfl)).1, at_ ?_, (bad_num (.inr rfl)).1, (bad_num (.inl rfl)).1, (bad_num (.inl rfl)).1, (bad_no (by simp)).2, at_ ?_, (bad_num (.inr rfl)).1, fun _ h => absurd h List.not_mem_nil⟩
  all_goals (rintro (⟨h, h1⟩ | ⟨h, h1⟩ | ⟨h, h1⟩) <;> first | omega | (revert h; decide +kernel))
/-- none shows as a thing does, be it a tuple or a list -/
theorem str_shown {t n m k far : Nat} (hb : ShB t n m k) (hf : far = 0 ∨ far = 1 ∨ far = 7) {d : PyData} (hd : d ∈ strL t n m k far) {z : Th} (hz : z ∈ thM t n m k) {e : PyData} (he : e ∈ wrdD z) : d.shown ≠ e.shown := by
  unfold strL at hd
  rcases List.mem_append.mp hd with h | h
  · obtain ⟨f1, f2, f3, f4⟩ := fig_no hb.t hb.n hb.m hb.k hf hz he
    simp only [List.mem_cons, List.not_mem_nil, or_false] at h
    rcases h with rfl | rfl | rfl | rfl
    · exact f1
    · exact f2
    · exact f3
    · exact f4
  · exact cst_no hf h (th_uni hb.t.2 hb.n.2 hb.m.2 hb.k.2 hz) he

set_option Elab.async false
set_option linter.all false
set_option maxRecDepth 100000
set_option maxHeartbeats 4000000
open PySem PySem.Spec L2





section
variable {P : Program} {w : World} {K : PySem.W.Frag} {mg : Str → Option Value} {base : Heap}
/-! _law_stranger -/
def spStg (K : PySem.W.Frag) : Sp := fun vs H Q _ => ∃ (S : Addr → Prop) (a l : Addr) (fg : V) (t n m k : Nat), vs = [.ref a, fg] ∧ Bag H a l ∧ S a ∧ Al S H ∧ Dq K S H fg (.tuple [.int (t : Nat), .int (n : Nat), .int (m : Nat), .int (k : Nat)]) ∧ ShB t n m k ∧
  ∀ (far : Nat) (y : V) (d : PyData) (H' : Hp), (far = 0 ∨ far = 1 ∨ far = 7) → d ∈ strL t n m k far → Dq K S H' y d → Bag H' a l → Chg a H H' → Q y H'
theorem ok_stg (T : Top K mg) {f : Addr} {fd : FuncData} (F : FnP K "_law_stranger" s__law_stranger f fd) : FnOk P w K mg base CX0 3 f fd P__law_stranger (spStg K) := by
  have C__law_pick := c_of (P := P) (w := w) (base := base) T
  refine F.ok sc__law_stranger (fun vs H Q E h => ?_) (fun cdv A outer s H vs Q E hr h => ?_)
  · obtain ⟨S, a, l, fg, t, n, m, k, rfl, _⟩ := h
    rfl
  · obtain ⟨S, a, l, fg, t, n, m, k, rfl, B, sa, al, hf, hb, q⟩ := h
    refine ⟨_, PSs.nox (pss_cons (ps_asg (pv 1) (k_pgt (K := K) (n := 4) (by rfl) (by rfl) (pgs_cons (pg_name (i := 2) sc__law_stranger.nd rfl (by first | exact Or.inl rfl | exact Or.inr rfl)) (pgs_cons (pg_name (i := 3) sc__law_stranger.nd rfl (by first | exact Or.inl rfl | exact Or.inr rfl)) (pgs_cons (pg_name (i := 4) sc__law_stranger.nd rfl (by first | exact Or.inl rfl | exact Or.inr rfl)) (pgs_cons (pg_name (i := 5) sc__law_stranger.nd rfl (by first | exact Or.inl rfl | exact Or.inr rfl)) pgs_nil)))) (by rfl) (by rfl)))
    (pss_cons (ps_set (i := 6) sc__law_stranger.nd rfl (by first | exact Or.inl rfl | exact Or.inr rfl) (pe_cal C__law_pick (hr.mono (by first | decide | omega)) (by rfl) (pa_cons (pv 0) (pa_cons (pe_lst (pa_cons pe_int (pa_cons pe_int (pa_cons pe_int pa_nil)))) pa_nil))))
    (pss_cons (ps_set (i := 7) sc__law_stranger.nd rfl (by first | exact Or.inl rfl | exact Or.inr rfl) (pe_lst (pa_cons (pe_tup (pa_cons pe_str (pa_cons (pe_op op_add (pv 4) (pv 6)) (pa_cons pe_int pa_nil)))) (pa_cons (pe_tup (pa_cons pe_str (pa_cons pe_int (pa_cons (pe_op op_add (pv 5) (pv 6)) pa_nil)))) (pa_cons (pe_tup (pa_cons pe_str (pa_cons pe_int (pa_cons (pe_op op_add (pv 3) (pv 6)) pa_nil)))) (pa_cons (pe_tup (pa_cons pe_str (pa_cons pe_int (pa_cons (pe_op op_add (pv 2) (pv 6)) pa_nil)))) (pa_cons (pe_tup (pa_cons pe_str (pa_cons pe_int (pa_cons pe_int pa_nil)))) pa_nil)))))))
    (pss_cons (ps_set (i := 7) sc__law_stranger.nd rfl (by first | exact Or.inl rfl | exact Or.inr rfl) (pe_op op_cat (pv 7) (pe_lst (pa_cons (pe_tup (pa_cons pe_str (pa_cons pe_int (pa_cons (pe_un un_neg pe_int) pa_nil)))) (pa_cons (pe_tup (pa_cons pe_str (pa_cons (pe_op op_sub (pe_un un_neg pe_int) (pv 6)) (pa_cons pe_int pa_nil)))) (pa_cons (pe_tup (pa_cons pe_str (pa_cons pe_int (pa_cons pe_bl pa_nil)))) (pa_cons (pe_tup (pa_cons pe_str (pa_cons pe_bl (pa_cons pe_int pa_nil)))) (pa_cons (pe_lst (pa_cons pe_str (pa_cons pe_int (pa_cons pe_bl pa_nil)))) pa_nil))))))))
    (pss_cons (ps_set (i := 7) sc__law_stranger.nd rfl (by first | exact Or.inl rfl | exact Or.inr rfl) (pe_op op_cat (pv 7) (pe_lst (pa_cons pe_non (pa_cons pe_bl (pa_cons (pv 6) (pa_cons pe_str (pa_cons (pe_tup pa_nil) (pa_cons (pe_tup (pa_cons pe_str (pa_cons pe_int pa_nil))) (pa_cons (pe_lst (pa_cons pe_str (pa_cons pe_int (pa_cons pe_int (pa_cons pe_int pa_nil))))) (pa_cons (pe_tup (pa_cons pe_int (pa_cons pe_int (pa_cons pe_str pa_nil)))) (pa_cons (pe_tup (pa_cons pe_str (pa_cons pe_int (pa_cons pe_int pa_nil)))) (pa_cons (pe_tup (pa_cons pe_str (pa_cons pe_int (pa_cons pe_str pa_nil)))) pa_nil)))))))))))))
    (pss_one (ps_ret (pe_cal C__law_pick (hr.mono (by first | decide | omega)) (by rfl) (pa_cons (pv 0) (pa_cons (pe_op op_cat (pv 7) (pe_lst (pa_cons (pe_tup (pa_cons pe_str (pa_cons pe_non (pa_cons pe_int pa_nil)))) (pa_cons (pe_tup (pa_cons pe_str (pa_cons (pe_tup (pa_cons pe_int pa_nil)) (pa_cons pe_int pa_nil)))) (pa_cons (pe_lst (pa_cons (pe_lst (pa_cons pe_str (pa_cons pe_int (pa_cons pe_int pa_nil)))) pa_nil)) (pa_cons (pe_tup (pa_cons pe_str (pa_cons pe_int (pa_cons pe_int pa_nil)))) (pa_cons (pe_tup (pa_cons pe_str (pa_cons pe_int (pa_cons (pe_lst (pa_cons pe_int pa_nil)) pa_nil)))) pa_nil))))))) pa_nil)))))))))), ?_⟩
    try simp only [cxK]
    have bt := hb.t; have bn := hb.n; have bm := hb.m; have bk := hb.k
    obtain ⟨f0, xs, rfl, hf0, hds⟩ := hf.tup_inv
    obtain rfl := dqAll4i hds
    rw [show L2.start N__law_stranger [.ref a, .ref f0] = some (.ref a) :: some (.ref f0) :: List.replicate (N__law_stranger.length - 2) none from rfl]
    simp only [N__law_stranger, List.length_cons, List.length_nil, List.replicate]
    walk_at "go"
    rename_i R hR
    have na : R ≠ a := fun z => by
      obtain ⟨_, _, _, _, _, eB, _⟩ := B
      rw [z, eB] at hR
      cases hR
    refine g_of (bag_sm B (same_new hR)) upd_same na (by decide) fun v H2 hv B2 c2 => ?_
    obtain ⟨far, hfar, rfl⟩ : ∃ far : Nat, (far = 0 ∨ far = 1 ∨ far = 7) ∧ v = .int (far : Int) := by
      simp only [List.mem_cons, List.not_mem_nil, or_false] at hv
      rcases hv with rfl | rfl | rfl
      · exact ⟨0, .inl rfl, rfl⟩
      · exact ⟨1, .inr (.inl rfl), rfl⟩
      · exact ⟨7, .inr (.inr rfl), rfl⟩
    have c02 : Chg a H H2 := fun b o n e => c2 b o n (same_new hR _ _ e)
    have al2 : Al S H2 := fun b sb hn => by
      by_cases e : b = a
      · obtain ⟨_, _, _, _, _, eB, _⟩ := B2
        rw [e, eB] at hn
        cases hn
      · cases hh : H b with
        | none => exact al b sb hh
        | some u => rw [c02 b u e hh] at hn; cases hn
    iterate 3 (first | with_reducible refine' Step.imp ?_ | walk_at "s")
    refine g_litL (K := K) (S := S) (ds := (strL t n m k far).take 5) ?k1 (Nat.le_of_ble_eq_true rfl) al2 fun p1 ys1 H3 s3 hp1 e3 d3 => ?k2
    case k1 =>
      repeat (first | exact LitA.nil | refine LitA.cons ?_ ?_ | refine LitD.tup ?_ (Nat.le_of_ble_eq_true rfl) | refine LitD.lst ?_ (Nat.le_of_ble_eq_true rfl) | exact LitD.c fun _ => .str _ | exact LitD.c fun _ => .int _ | exact LitD.c fun _ => .bl _ | exact LitD.c fun _ => .non | (refine fun H Q al q => ?_; walk_at "go"; exact q _ _ (fun _ _ e => e) (.int _)))
    iterate 4 (first | with_reducible refine' Step.imp ?_ | walk_at "s")
    refine g_v7 ?_
    refine g_litL (K := K) (S := S) (ds := ((strL t n m k far).drop 5).take 5) ?k3 (Nat.le_of_ble_eq_true rfl) (al2.sm s3) fun p2 ys2 H4 s4 hp2 e4 d4 => ?k4
    case k3 =>
      repeat (first | exact LitA.nil | refine LitA.cons ?_ ?_ | refine LitD.tup ?_ (Nat.le_of_ble_eq_true rfl) | refine LitD.lst ?_ (Nat.le_of_ble_eq_true rfl) | exact LitD.c fun _ => .str _ | exact LitD.c fun _ => .int _ | exact LitD.c fun _ => .bl _ | exact LitD.c fun _ => .non | (refine fun H Q al q => ?_; walk_at "go"; exact q _ _ (fun _ _ e => e) (.int _)))
    refine g_cat (s4 _ _ e3) e4 (by rw [d3.len, d4.len]; exact Nat.le_of_ble_eq_true rfl) fun p3 hp3 => ?_
    have s5 := same_new hp3 (o := .lst (ys1 ++ ys2))
    have d5 := (d3.sm (s4.trans s5)).app (d4.sm s5)
    have e5 : (upd H4 p3 (.lst (ys1 ++ ys2))) p3 = some (.lst (ys1 ++ ys2)) := upd_same
    have s35 := s3.trans (s4.trans s5)
    generalize (upd H4 p3 (.lst (ys1 ++ ys2))) = H5 at s5 d5 e5 s35 ⊢
    iterate 4 (first | with_reducible refine' Step.imp ?_ | walk_at "s")
    refine g_v7 ?_
    refine g_litL (K := K) (S := S) (ds := ((strL t n m k far).drop 10).take 10) ?k5 (Nat.le_of_ble_eq_true rfl) (al2.sm s35) fun p4 ys4 H6 s6 hp4 e6 d6 => ?k6
    case k5 =>
      repeat (first | exact LitA.nil | refine LitA.cons ?_ ?_ | refine LitD.tup ?_ (Nat.le_of_ble_eq_true rfl) | refine LitD.lst ?_ (Nat.le_of_ble_eq_true rfl) | exact LitD.c fun _ => .str _ | exact LitD.c fun _ => .int _ | exact LitD.c fun _ => .bl _ | exact LitD.c fun _ => .non | (refine fun H Q al q => ?_; walk_at "go"; exact q _ _ (fun _ _ e => e) (.int _)))
    refine g_cat (s6 _ _ e5) e6 (by rw [d5.len, d6.len]; exact Nat.le_of_ble_eq_true rfl) fun p5 hp5 => ?_
    have s7 := same_new hp5 (o := .lst ((ys1 ++ ys2) ++ ys4))
    have d7 := (d5.sm (s6.trans s7)).app (d6.sm s7)
    have e7 : (upd H6 p5 (.lst ((ys1 ++ ys2) ++ ys4))) p5 = some (.lst ((ys1 ++ ys2) ++ ys4)) := upd_same
    have s37 := s35.trans (s6.trans s7)
    generalize (upd H6 p5 (.lst ((ys1 ++ ys2) ++ ys4))) = H7 at s7 d7 e7 s37 ⊢
    iterate 5 (first | with_reducible refine' Step.imp ?_ | walk_at "s")
    iterate 2 (first | with_reducible refine' Step.imp ?_ | walk_at "s")
    refine g_v7 ?_
    refine g_litL (K := K) (S := S) (ds := (strL t n m k far).drop 20) ?k7 (Nat.le_of_ble_eq_true rfl) (al2.sm s37) fun p6 ys6 H8 s8 hp6 e8 d8 => ?k8
    case k7 =>
      repeat (first | exact LitA.nil | refine LitA.cons ?_ ?_ | refine LitD.tup ?_ (Nat.le_of_ble_eq_true rfl) | refine LitD.lst ?_ (Nat.le_of_ble_eq_true rfl) | exact LitD.c fun _ => .str _ | exact LitD.c fun _ => .int _ | exact LitD.c fun _ => .bl _ | exact LitD.c fun _ => .non | (refine fun H Q al q => ?_; walk_at "go"; exact q _ _ (fun _ _ e => e) (.int _)))
    refine g_cat (s8 _ _ e7) e8 (by rw [d7.len, d8.len]; exact Nat.le_of_ble_eq_true rfl) fun p7 hp7 => ?_
    have s9 := same_new hp7 (o := .lst (((ys1 ++ ys2) ++ ys4) ++ ys6))
    have d9 := (d7.sm (s8.trans s9)).app (d8.sm s9)
    have e9 : (upd H8 p7 (.lst (((ys1 ++ ys2) ++ ys4) ++ ys6))) p7 = some (.lst (((ys1 ++ ys2) ++ ys4) ++ ys6)) := upd_same
    have s29 := s37.trans (s8.trans s9)
    have na7 : p7 ≠ a := fun z => by
      obtain ⟨_, _, _, _, _, eB, _⟩ := bag_sm B2 (s37.trans s8)
      rw [z, eB] at hp7
      cases hp7
    generalize (upd H8 p7 (.lst (((ys1 ++ ys2) ++ ys4) ++ ys6))) = H9 at s9 d9 e9 s29 ⊢
    have B9 := bag_sm B2 s29
    have l9 := d9.len
    refine g_of (E := E0) B9 e9 na7 ⟨by rw [l9]; exact Nat.le_of_ble_eq_true rfl, by rw [l9]; exact Nat.le_of_ble_eq_true rfl⟩ fun v HA hv9 BA cA => ?_
    obtain ⟨j, hj⟩ := List.getElem?_of_mem hv9
    obtain ⟨d, hd, hq⟩ := d9.at hj
    have cS : ChgS S H9 HA := fun b o nb e => cA b o (fun z => nb (by rw [z]; exact sa)) e
    refine q far v d HA hfar ?_ (hq.chg cS) BA (fun b o nb e => cA b o nb (s29 _ _ (c02 b o nb e)))
    exact List.mem_of_getElem? (show (strL t n m k far)[j]? = some d from hd)
theorem c_stg (T : Top K mg) : Cal P w K mg base "_law_stranger" 3 P__law_stranger (spStg K) := cal_mk T.f__law_stranger (ok_stg T) (fun F => F.bindsN fun _ _ _ _ _ _ us hl => match us, hl with | [_, _], _ => rfl)
end

set_option Elab.async false
set_option linter.all false
set_option maxRecDepth 100000
set_option maxHeartbeats 4000000
open PySem PySem.Spec L2
section
variable {K : PySem.W.Frag}
/-! spoilt machines: what they are -/
/-- an item of a spoilt machine: a thing or a stranger -/
def ItO (t n m k : Nat) (e : PyData) : Prop := e ∈ (thM t n m k).map dTh ∨ ∃ far, (far = 0 ∨ far = 1 ∨ far = 7) ∧ e ∈ strL t n m k far
def plain7 : List PyData := [.none, .int 0, .str (Str.ofString "head"), .bool true, .int 7, .str (Str.ofString ""), .tuple []]
def smlB (e : PyData) : Bool := e.plain && (PyData.canLay0 e && (decide (e.depth ≤ 4) && (e.showable && (!e.hasDict && decide (e.shown.length ≤ 100)))))
structure Sml (e : PyData) : Prop where
  pl : e.plain = true
  cl : PyData.canLay0 e = true
  sw : Shw 4 100 e
theorem sml_of {e : PyData} (h : smlB e = true) : Sml e := by
  unfold smlB at h
  simp only [Bool.and_eq_true, decide_eq_true_eq, Bool.not_eq_true'] at h
  obtain ⟨h1, h2, h3, h4, h5, h6⟩ := h
  exact ⟨h1, h2, h4, h5, h3, h6⟩
def smlA : List PyData := cstL 0 ++ cstL 1 ++ cstL 7 ++ (List.range 14).flatMap (fun (j : Nat) => [.tuple [.str (Str.ofString "head"), .int (j : Nat), .int 0], .tuple [.str (Str.ofString "head"), .int 0, .int (j : Nat)], .tuple [.str (Str.ofString "unit"), .int 0, .int (j : Nat)], .tuple [.str (Str.ofString "out"), .int 0, .int (j : Nat)]]) ++ (thM 6 4 3 2).map dTh ++ plain7
theorem sml_ok : smlA.all smlB = true := by decide +kernel
theorem sml_mem {e : PyData} (h : e ∈ smlA) : Sml e := sml_of (List.all_eq_true.mp sml_ok e h)
theorem sml_it {t n m k : Nat} (hb : ShB t n m k) {e : PyData} (h : ItO t n m k e) : Sml e := by
  have bt := hb.t; have bn := hb.n; have bm := hb.m; have bk := hb.k
  rcases h with h | ⟨far, hf, h⟩
  · obtain ⟨z, hz, rfl⟩ := List.mem_map.mp h
    refine sml_mem ?_
    unfold smlA
    exact List.mem_append_left _ (List.mem_append_right _ (List.mem_map.mpr ⟨z, th_uni bt.2 bn.2 bm.2 bk.2 hz, rfl⟩))
  · unfold strL at h
    rcases List.mem_append.mp h with h | h
    · have fl : far ≤ 7 := by omega
      have key : ∀ (j : Nat) (e : PyData), j < 14 → e ∈ ([.tuple [.str (Str.ofString "head"), .int (j : Nat), .int 0], .tuple [.str (Str.ofString "head"), .int 0, .int (j : Nat)], .tuple [.str (Str.ofString "unit"), .int 0, .int (j : Nat)], .tuple [.str (Str.ofString "out"), .int 0, .int (j : Nat)]] : List PyData) → Sml e := fun j e hj he => by
        refine sml_mem ?_
        unfold smlA
        exact List.mem_append_left _ (List.mem_append_left _ (List.mem_append_right _ (List.mem_flatMap.mpr ⟨j, List.mem_range.mpr hj, he⟩)))
      simp only [List.mem_cons, List.not_mem_nil, or_false] at h
      rcases h with rfl | rfl | rfl | rfl
      · exact key (m + far) _ (by omega) (by simp)
      · exact key (k + far) _ (by omega) (by simp)
      · exact key (n + far) _ (by omega) (by simp)
      · exact key (t + far) _ (by omega) (by simp)
    · refine sml_mem ?_
      unfold smlA
      refine List.mem_append_left _ (List.mem_append_left _ (List.mem_append_left _ ?_))
      rcases hf with rfl | rfl | rfl
      · exact List.mem_append_left _ (List.mem_append_left _ h)
      · exact List.mem_append_left _ (List.mem_append_right _ h)
      · exact List.mem_append_right _ h
theorem sml_7 {e : PyData} (h : e ∈ plain7) : Sml e := sml_mem (by
  unfold smlA
  exact List.mem_append_right _ h)
theorem lay_all : ∀ {ds : List PyData}, (∀ e ∈ ds, PyData.canLay0 e = true) → PyData.canLayAll0 ds = true
  | [], _ => rfl
  | d :: ds, h => by
    show (PyData.canLay0 d && PyData.canLayAll0 ds) = true
    rw [h d List.mem_cons_self, lay_all fun e he => h e (List.mem_cons_of_mem _ he)]
    rfl
/-- a list of small data -/
theorem sml_list {ds : List PyData} (h : ∀ e ∈ ds, Sml e) (l : ds.length ≤ 30) : PyData.plain (.list ds) = true ∧ PyData.canLay0 (.list ds) = true ∧ Shw 5 3063 (.list ds) :=
  ⟨plainAll_of fun e he => (h e he).pl, lay_all fun e he => (h e he).cl, shw_list (fun e he => (h e he).sw) l⟩
/-- a machine: a list of its own or a plain datum -/
inductive Mc
  | l (c : Addr) (es : List PyData)
  | p (d : PyData)
def Mc.ad : Mc → Option Addr
  | .l c _ => some c
  | .p _ => none
def Mc.da : Mc → PyData
  | .l _ es => .list es
  | .p d => d
def McAt (K : PySem.W.Frag) (S : Addr → Prop) (H : Hp) (x : V) : Mc → Prop
  | .l c es => x = .ref c ∧ S c ∧ ∃ ws, H c = some (.lst ws) ∧ DqAll K S H ws es
  | .p d => Dq K S H x d
def McO (t n m k b : Nat) : Mc → Prop
  | .l _ es => es.length ≤ b ∧ ∀ e ∈ es, ItO t n m k e
  | .p d => d ∈ plain7
structure MB (K : PySem.W.Frag) (S : Addr → Prop) (H : Hp) (xs : List V) (ms : List Mc) : Prop where
  ln : xs.length = ms.length
  nd : (ms.filterMap Mc.ad).Nodup
  at_ : ∀ (i : Nat) (x : V) (q : Mc), xs[i]? = some x → ms[i]? = some q → McAt K S H x q
/-- what spoilt machines may be -/
def BenD (t n m k : Nat) (ds : List PyData) : Prop := ds.length ≤ 6 ∧ ∀ d ∈ ds, (∃ es, d = .list es ∧ es.length ≤ 30 ∧ ∀ e ∈ es, ItO t n m k e) ∨ d ∈ plain7
theorem ben_of {t n m k b : Nat} {ms : List Mc} (hb : b ≤ 30) (l : ms.length ≤ 6) (h : ∀ q ∈ ms, McO t n m k b q) : BenD t n m k (ms.map Mc.da) := by
  refine ⟨by rw [List.length_map]; exact l, fun d hd => ?_⟩
  obtain ⟨q, hq, rfl⟩ := List.mem_map.mp hd
  have := h q hq
  cases q with
  | l c es => exact .inl ⟨es, rfl, Nat.le_trans this.1 hb, this.2⟩
  | p d => exact .inr this
/-- one machine's data: plain, laid, shown -/
theorem ben_1 {t n m k : Nat} (hb : ShB t n m k) {d : PyData} (h : (∃ es, d = .list es ∧ es.length ≤ 30 ∧ ∀ e ∈ es, ItO t n m k e) ∨ d ∈ plain7) : d.plain = true ∧ PyData.canLay0 d = true ∧ Shw 5 3063 d := by
  rcases h with ⟨es, rfl, l, h⟩ | h
  · exact sml_list (fun e he => sml_it hb (h e he)) l
  · have s := sml_7 h
    exact ⟨s.pl, s.cl, s.sw.mono (by decide) (by decide)⟩
theorem shaped_list {ds : List PyData} {k c : Nat} (h1 : ∀ d ∈ ds, PyData.canLay0 d = true) (h2 : ∀ d ∈ ds, Shw k c d) (hk : k ≤ 20) : SeqAt.shaped (.list ds) = true := by
  have a := lay_all h1
  have b := (shw_all h2).2.2.1
  unfold SeqAt.shaped
  simp only [PyData.canLay0, PyData.depth, a]
  simp
  omega
end

set_option Elab.async false
set_option linter.all false
set_option maxRecDepth 100000
set_option maxHeartbeats 4000000
open PySem PySem.Spec L2
section
variable {K : PySem.W.Frag}
/-! spoilt machines: what is done to them -/
theorem McAt.tr {S S2 : Addr → Prop} {H H2 : Hp} (c : ∀ H', ChgS S2 H2 H' → ChgS S H H') (ss : ∀ b, S b → S2 b) {x : V} {q : Mc} (h : McAt K S H x q) (k : ∀ b es, q = .l b es → ∀ o, H b = some o → H2 b = some o) : McAt K S2 H2 x q := by
  cases q with
  | l b es =>
    obtain ⟨h1, h2, ws, h3, h4⟩ := h
    exact ⟨h1, ss _ h2, ws, k b es rfl _ h3, h4.tr c⟩
  | p d => exact Dq.tr c h
theorem MB.tr {S S2 : Addr → Prop} {H H2 : Hp} {xs : List V} {ms : List Mc} (h : MB K S H xs ms) (c : ∀ H', ChgS S2 H2 H' → ChgS S H H') (ss : ∀ b, S b → S2 b) (k : ∀ b ∈ ms.filterMap Mc.ad, ∀ o, H b = some o → H2 b = some o) : MB K S2 H2 xs ms :=
  ⟨h.ln, h.nd, fun i x q hx hq => (h.at_ i x q hx hq).tr c ss fun b es e o z => k b (List.mem_filterMap.mpr ⟨q, List.mem_of_getElem? hq, by rw [e]; rfl⟩) o z⟩
theorem MB.chg {S : Addr → Prop} {H H2 : Hp} {xs : List V} {ms : List Mc} (h : MB K S H xs ms) (c : ChgS S H H2) (k : ∀ b ∈ ms.filterMap Mc.ad, ∀ o, H b = some o → H2 b = some o) : MB K S H2 xs ms := h.tr (fun _ c2 => c.trans c2) (fun _ z => z) k
theorem fm_l {c : Addr} {es : List PyData} {ms : List Mc} : (Mc.l c es :: ms).filterMap Mc.ad = c :: ms.filterMap Mc.ad := rfl
theorem fm_p {d : PyData} {ms : List Mc} : (Mc.p d :: ms).filterMap Mc.ad = ms.filterMap Mc.ad := rfl
theorem MB.nil {S : Addr → Prop} {H : Hp} : MB K S H [] [] := ⟨rfl, .nil, fun i x q h => by simp at h⟩
theorem ins_perm {α : Type} {l : List α} {x : α} {r : Nat} : (l.take r ++ [x] ++ l.drop r).Perm (x :: l) := by
  have e : l.take r ++ [x] ++ l.drop r = l.take r ++ x :: l.drop r := by simp
  rw [e]
  refine List.perm_middle.trans ?_
  rw [List.take_append_drop]
theorem ins_at {α : Type} {l : List α} {y : α} {r i : Nat} (hr : r ≤ l.length) {x : α} (h : (l.take r ++ [y] ++ l.drop r)[i]? = some x) : (i < r ∧ l[i]? = some x) ∨ (i = r ∧ x = y) ∨ (r < i ∧ l[i - 1]? = some x) := by
  have lt : (l.take r).length = r := by rw [List.length_take]; omega
  rw [List.append_assoc] at h
  rcases Nat.lt_trichotomy i r with c | c | c
  · rw [List.getElem?_append_left (by omega), List.getElem?_take_of_lt c] at h
    exact .inl ⟨c, h⟩
  · subst c
    rw [List.getElem?_append_right (by omega), lt, Nat.sub_self] at h
    exact .inr (.inl ⟨rfl, (Option.some.inj h).symm⟩)
  · rw [List.getElem?_append_right (by omega), lt, List.getElem?_append_right (by simp; omega), List.getElem?_drop] at h
    have e : r + (i - r - [y].length) = i - 1 := by simp; omega
    rw [e] at h
    exact .inr (.inr ⟨c, h⟩)
/-- one more at a place -/
theorem MB.ins {S : Addr → Prop} {H : Hp} {xs : List V} {ms : List Mc} (h : MB K S H xs ms) {r : Nat} (hr : r ≤ ms.length) {y : V} {u : Mc} (hu : McAt K S H y u) (nu : ∀ c, u.ad = some c → c ∉ ms.filterMap Mc.ad) :
    MB K S H (xs.take r ++ [y] ++ xs.drop r) (ms.take r ++ [u] ++ ms.drop r) := by
  have hr2 : r ≤ xs.length := by rw [h.ln]; exact hr
  refine ⟨by simp [h.ln], ?_, fun i x q hx hq => ?_⟩
  · have p : ((ms.take r ++ [u] ++ ms.drop r).filterMap Mc.ad).Perm ((u :: ms).filterMap Mc.ad) := ins_perm.filterMap _
    rw [p.nodup_iff]
    cases hc : u.ad with
    | none => rw [List.filterMap_cons_none hc]; exact h.nd
    | some c => rw [List.filterMap_cons_some hc, List.nodup_cons]; exact ⟨nu c hc, h.nd⟩
  · rcases ins_at hr2 hx with ⟨c, hx⟩ | ⟨c, rfl⟩ | ⟨c, hx⟩ <;> rcases ins_at hr hq with ⟨c2, hq⟩ | ⟨c2, rfl⟩ | ⟨c2, hq⟩ <;> first | (exfalso; omega) | exact hu | exact h.at_ _ _ _ hx hq
theorem set_sub : ∀ {ms : List Mc} {j : Nat} {d : PyData}, ((ms.set j (.p d)).filterMap Mc.ad).Sublist (ms.filterMap Mc.ad)
  | [], _, _ => .slnil
  | q :: ms, 0, d => by
    rw [List.set_cons_zero, fm_p]
    cases hc : q.ad with
    | none => rw [List.filterMap_cons_none hc]; exact .refl _
    | some c => rw [List.filterMap_cons_some hc]; exact .cons _ (.refl _)
  | q :: ms, j + 1, d => by
    rw [List.set_cons_succ]
    cases hc : q.ad with
    | none => rw [List.filterMap_cons_none hc, List.filterMap_cons_none hc]; exact set_sub
    | some c => rw [List.filterMap_cons_some hc, List.filterMap_cons_some hc]; exact set_sub.cons₂ _
/-- a plain datum in the place of one -/
theorem MB.pl {S : Addr → Prop} {H : Hp} {xs : List V} {ms : List Mc} (h : MB K S H xs ms) {j : Nat} {y : V} {d : PyData} (hd : Dq K S H y d) : MB K S H (xs.set j y) (ms.set j (.p d)) := by
  refine ⟨by simp [h.ln], set_sub.nodup h.nd, fun i x q hx hq => ?_⟩
  by_cases e : i = j
  · subst e
    have i1 := (List.getElem?_eq_some_iff.mp hx).1
    have i2 := (List.getElem?_eq_some_iff.mp hq).1
    rw [List.length_set] at i1 i2
    rw [List.getElem?_set_self i1] at hx
    rw [List.getElem?_set_self i2] at hq
    obtain rfl := Option.some.inj hx
    obtain rfl := Option.some.inj hq
    exact hd
  · rw [List.getElem?_set_ne (fun z => e z.symm)] at hx hq
    exact h.at_ _ _ _ hx hq
theorem ad_set : ∀ {ms : List Mc} {j : Nat} {c : Addr} {es es' : List PyData}, ms[j]? = some (.l c es) → (ms.set j (.l c es')).filterMap Mc.ad = ms.filterMap Mc.ad
  | [], _, _, _, _, h => by simp at h
  | q :: ms, 0, c, es, es', h => by
    obtain rfl := Option.some.inj h
    rw [List.set_cons_zero, fm_l, fm_l]
  | q :: ms, j + 1, c, es, es', h => by
    have h : ms[j]? = _ := h
    rw [List.set_cons_succ]
    cases hc : q.ad with
    | none => rw [List.filterMap_cons_none hc, List.filterMap_cons_none hc]; exact ad_set h
    | some c2 => rw [List.filterMap_cons_some hc, List.filterMap_cons_some hc, ad_set h]
theorem ad_one : ∀ {ms : List Mc} {i j : Nat} {c : Addr} {e1 e2 : List PyData}, (ms.filterMap Mc.ad).Nodup → ms[i]? = some (.l c e1) → ms[j]? = some (.l c e2) → i = j
  | [], _, _, _, _, _, _, h, _ => by simp at h
  | q :: ms, 0, 0, c, e1, e2, _, _, _ => rfl
  | q :: ms, 0, j + 1, c, e1, e2, nd, h1, h2 => by
    obtain rfl := Option.some.inj h1
    have h2 : ms[j]? = _ := h2
    rw [fm_l, List.nodup_cons] at nd
    exact absurd (List.mem_filterMap.mpr ⟨_, List.mem_of_getElem? h2, (rfl : Mc.ad (.l c e2) = some c)⟩) nd.1
  | q :: ms, i + 1, 0, c, e1, e2, nd, h1, h2 => by
    obtain rfl := Option.some.inj h2
    have h1 : ms[i]? = _ := h1
    rw [fm_l, List.nodup_cons] at nd
    exact absurd (List.mem_filterMap.mpr ⟨_, List.mem_of_getElem? h1, (rfl : Mc.ad (.l c e1) = some c)⟩) nd.1
  | q :: ms, i + 1, j + 1, c, e1, e2, nd, h1, h2 => by
    have nd2 : (ms.filterMap Mc.ad).Nodup := by
      cases hc : q.ad with
      | none => rwa [List.filterMap_cons_none hc] at nd
      | some c2 => rw [List.filterMap_cons_some hc, List.nodup_cons] at nd; exact nd.2
    rw [ad_one nd2 (i := i) (j := j) h1 h2]
/-- a machine that is a list is written -/
theorem MB.wr {S : Addr → Prop} {H : Hp} {xs : List V} {ms : List Mc} (h : MB K S H xs ms) {j : Nat} {c : Addr} {es es' : List PyData} (hj : ms[j]? = some (.l c es)) (sc : S c) {ws : List V} (hw : DqAll K S H ws es') : MB K S (upd H c (.lst ws)) xs (ms.set j (.l c es')) := by
  have cS : ChgS S H (upd H c (.lst ws)) := fun b o n e => by rw [upd_ne (fun z => n (by rw [z]; exact sc))]; exact e
  refine ⟨by rw [List.length_set]; exact h.ln, by rw [ad_set hj]; exact h.nd, fun i x q hx hq => ?_⟩
  by_cases e : i = j
  · subst e
    have i2 := (List.getElem?_eq_some_iff.mp hj).1
    rw [List.getElem?_set_self i2] at hq
    obtain rfl := Option.some.inj hq
    obtain ⟨h1, h2, _⟩ := h.at_ _ _ _ hx hj
    exact ⟨h1, h2, ws, upd_same, hw.chg cS⟩
  · rw [List.getElem?_set_ne (fun z => e z.symm)] at hq
    refine (h.at_ _ _ _ hx hq).tr (fun _ c2 => cS.trans c2) (fun _ z => z) fun b es2 eq o hb => ?_
    subst eq
    rw [upd_ne (fun z => e (by subst z; exact ad_one h.nd hq hj))]
    exact hb
/-- all of them as data -/
theorem MB.dq {S S2 : Addr → Prop} {H : Hp} {xs : List V} {ms : List Mc} (h : MB K S H xs ms) (ss : ∀ b, S2 b → S b) (nc : ∀ c ∈ ms.filterMap Mc.ad, ¬ S2 c) : DqAll K S2 H xs (ms.map Mc.da) := by
  obtain ⟨ln, nd, at_⟩ := h
  clear nd
  induction xs generalizing ms with
  | nil =>
    cases ms with
    | nil => exact .nil
    | cons q ms => cases ln
  | cons x xs ih =>
    cases ms with
    | nil => cases ln
    | cons q ms =>
      have h0 : McAt K S H x q := at_ 0 x q rfl rfl
      have tr : ∀ H', ChgS S2 H H' → ChgS S H H' := fun H' c b o n e => c b o (fun z => n (ss _ z)) e
      refine .cons ?_ (ih (fun c hc => nc c ?_) (by simpa using ln) fun i y u hx hu => at_ (i + 1) y u hx hu)
      · cases q with
        | l c es =>
          obtain ⟨rfl, sc, ws, e, d⟩ := h0
          exact .lst (fun H2 c2 => c2 _ _ (nc c (by rw [fm_l]; exact List.mem_cons_self)) e) (d.tr tr)
        | p d => exact Dq.tr tr h0
      · obtain ⟨u, hu, e⟩ := List.mem_filterMap.mp hc
        exact List.mem_filterMap.mpr ⟨u, List.mem_cons_of_mem _ hu, e⟩
theorem MB.dqF {S : Addr → Prop} {H : Hp} {xs : List V} {ms : List Mc} (h : MB K S H xs ms) : DqAll K FS H xs (ms.map Mc.da) := h.dq (fun _ z => z.elim) fun _ _ z => z
end

set_option Elab.async false
set_option linter.all false
set_option maxRecDepth 100000
set_option maxHeartbeats 4000000
open PySem PySem.Spec L2
section
variable {K : PySem.W.Frag}
/-! _law_spoilt: its machines through its turns -/
abbrev figD (t n m k : Nat) : PyData := .tuple [.int (t : Nat), .int (n : Nat), .int (m : Nat), .int (k : Nat)]
structure SpI (K : PySem.W.Frag) (H0 H : Hp) (a l : Addr) (fg z : V) (t n m k b : Nat) (L : Addr) (S : Addr → Prop) (xs : List V) (ms : List Mc) : Prop where
  B0 : Bag H0 a l
  B : Bag H a l
  ch : Chg a H0 H
  sa : S a
  al : Al S H
  sL : S L
  nL : H0 L = none
  eL : H L = some (.lst xs)
  mb : MB K S H xs ms
  nc : ∀ c ∈ ms.filterMap Mc.ad, H0 c = none ∧ c ≠ L
  hf : Dq K S H fg (figD t n m k)
  hz : Dq K S H z (.list ((thM t n m k).map dTh))
  few : ms.length ≤ 6
  ok : ∀ q ∈ ms, McO t n m k b q
theorem bag_ne {H : Hp} {a l p : Addr} (B : Bag H a l) (h : H p = none) : p ≠ a ∧ p ≠ l := bag_apart B h
theorem McO.mono {t n m k b b2 : Nat} (hb : b ≤ b2) {q : Mc} (h : McO t n m k b q) : McO t n m k b2 q := by
  cases q with
  | l c es => exact ⟨Nat.le_trans h.1 hb, h.2⟩
  | p d => exact h
section
variable {H0 H : Hp} {a l : Addr} {fg z : V} {t n m k b : Nat} {L : Addr} {S : Addr → Prop} {xs : List V} {ms : List Mc}
theorem SpI.mono {b2 : Nat} (hb : b ≤ b2) (h : SpI K H0 H a l fg z t n m k b L S xs ms) : SpI K H0 H a l fg z t n m k b2 L S xs ms :=
  ⟨h.B0, h.B, h.ch, h.sa, h.al, h.sL, h.nL, h.eL, h.mb, h.nc, h.hf, h.hz, h.few, fun q hq => (h.ok q hq).mono hb⟩
theorem SpI.bag {H1 : Hp} (h : SpI K H0 H a l fg z t n m k b L S xs ms) (B : Bag H1 a l) (c : Chg a H H1) : SpI K H0 H1 a l fg z t n m k b L S xs ms :=
  ⟨h.B0, B, h.ch.trans c, h.sa, h.al.bag c B h.sa, h.sL, h.nL, c _ _ (bag_ne h.B0 h.nL).1 h.eL, h.mb.chg (toS c h.sa) fun d hd o e => c _ _ (bag_ne h.B0 (h.nc d hd).1).1 e, h.nc, h.hf.chg (toS c h.sa), h.hz.chg (toS c h.sa), h.few, h.ok⟩
theorem SpI.sm {H1 : Hp} (h : SpI K H0 H a l fg z t n m k b L S xs ms) (s : Same H H1) : SpI K H0 H1 a l fg z t n m k b L S xs ms :=
  ⟨h.B0, bag_sm h.B s, h.ch.trans (sm_chg s), h.sa, h.al.sm s, h.sL, h.nL, s _ _ h.eL, h.mb.chg (fun b o _ e => s b o e) fun d hd o e => s _ _ e, h.nc, h.hf.sm s, h.hz.sm s, h.few, h.ok⟩
theorem SpI.ins {p : Addr} {r : Nat} (h : SpI K H0 H a l fg z t n m k b L S xs ms) (hp : H p = none) (hr : r ≤ ms.length) (fw : ms.length < 6) :
    SpI K H0 (upd (upd H p (.lst [])) L (.lst (xs.take r ++ [.ref p] ++ xs.drop r))) a l fg z t n m k b L (SD S p) (xs.take r ++ [.ref p] ++ xs.drop r) (ms.take r ++ [.l p []] ++ ms.drop r) := by
  have s1 : Same H (upd H p (.lst [])) := same_new hp
  have pL : p ≠ L := fun e => by rw [e, h.eL] at hp; cases hp
  have p0 : H0 p = none := by
    cases e : H0 p with
    | none => rfl
    | some o => rw [h.ch p o (bag_ne h.B hp).1 e] at hp; cases hp
  have pn : p ∉ ms.filterMap Mc.ad := fun e => by
    obtain ⟨q, hq, e⟩ := List.mem_filterMap.mp e
    obtain ⟨i, hi⟩ := List.getElem?_of_mem hq
    have il : i < xs.length := by rw [h.mb.ln]; exact (List.getElem?_eq_some_iff.mp hi).1
    have z := h.mb.at_ i _ q (List.getElem?_eq_getElem il) hi
    cases q with
    | l c es =>
      obtain rfl : c = p := Option.some.inj e
      obtain ⟨_, _, ws, e2, _⟩ := z
      rw [hp] at e2
      cases e2
    | p d => cases e
  have cS : ChgS (SD S p) (upd H p (.lst [])) (upd (upd H p (.lst [])) L (.lst (xs.take r ++ [.ref p] ++ xs.drop r))) := fun b o n e => by
    rw [upd_ne (fun z => n (.inl (by rw [z]; exact h.sL)))]; exact e
  have tr : ∀ H2, ChgS (SD S p) (upd (upd H p (.lst [])) L (.lst (xs.take r ++ [.ref p] ++ xs.drop r))) H2 → ChgS S H H2 := fun H2 c b o nb e => by
    have bp : b ≠ p := fun e2 => by rw [e2, hp] at e; cases e
    exact c b o (fun w => w.elim nb bp) (by rw [upd_ne (fun e2 => nb (by rw [e2]; exact h.sL)), upd_ne bp]; exact e)
  have nL := bag_ne h.B0 h.nL
  have kL : ∀ c, c ≠ L → ∀ o, H c = some o → upd (upd H p (.lst [])) L (.lst (xs.take r ++ [.ref p] ++ xs.drop r)) c = some o := fun c n o e => by rw [upd_ne n]; exact s1 _ _ e
  have m1 : MB K (SD S p) (upd (upd H p (.lst [])) L (.lst (xs.take r ++ [.ref p] ++ xs.drop r))) xs ms := h.mb.tr tr (fun _ w => .inl w) fun c hc o e => kL c (h.nc c hc).2 o e
  refine ⟨h.B0, bag_chg (bag_sm h.B s1) nL.1 nL.2, fun c o n e => kL c (fun w => by rw [w, h.nL] at e; cases e) o (h.ch c o n e), .inl h.sa, fun s hs => ?_, .inl h.sL, h.nL, upd_same, m1.ins hr ⟨rfl, .inr rfl, [], ?_, .nil⟩ (fun c hc => ?_), fun c hc => ?_, h.hf.tr tr, h.hz.tr tr, ?_, fun q hq => ?_⟩
  · rcases hs with hs | rfl
    · by_cases e : s = L
      · rw [e, upd_same]; exact fun w => by cases w
      · rw [upd_ne e]; exact (h.al.sm s1) s hs
    · rw [upd_ne pL, upd_same]; exact fun w => by cases w
  · rw [upd_ne pL, upd_same]
  · obtain rfl := Option.some.inj hc
    exact pn
  · have hc := ((ins_perm (l := ms) (x := Mc.l p []) (r := r)).filterMap Mc.ad).mem_iff.mp hc
    rw [fm_l] at hc
    rcases List.mem_cons.mp hc with rfl | hc
    · exact ⟨p0, pL⟩
    · exact h.nc c hc
  · simp
    omega
  · have hq := (ins_perm (l := ms) (x := Mc.l p []) (r := r)).mem_iff.mp hq
    rcases List.mem_cons.mp hq with rfl | hq
    · exact ⟨Nat.zero_le _, fun e he => absurd he List.not_mem_nil⟩
    · exact h.ok q hq
theorem SpI.pl {j : Nat} {v : V} {d : PyData} (h : SpI K H0 H a l fg z t n m k b L S xs ms) (hd : Dq K S H v d) (h7 : d ∈ plain7) : SpI K H0 (upd H L (.lst (xs.set j v))) a l fg z t n m k b L S (xs.set j v) (ms.set j (.p d)) := by
  have nL := bag_ne h.B0 h.nL
  have kL : ∀ c, c ≠ L → ∀ o, H c = some o → upd H L (.lst (xs.set j v)) c = some o := fun c n o e => by rw [upd_ne n]; exact e
  have cS : ChgS S H (upd H L (.lst (xs.set j v))) := fun b o n e => kL b (fun w => n (by rw [w]; exact h.sL)) o e
  refine ⟨h.B0, bag_chg h.B nL.1 nL.2, fun c o n e => kL c (fun w => by rw [w, h.nL] at e; cases e) o (h.ch c o n e), h.sa, fun s hs => ?_, h.sL, h.nL, upd_same, (h.mb.chg cS fun c hc o e => kL c (h.nc c hc).2 o e).pl (hd.chg cS), fun c hc => h.nc c (set_sub.subset hc), h.hf.chg cS, h.hz.chg cS, by rw [List.length_set]; exact h.few, fun q hq => ?_⟩
  · by_cases e : s = L
    · rw [e, upd_same]; exact fun w => by cases w
    · rw [upd_ne e]; exact h.al s hs
  · rcases List.mem_or_eq_of_mem_set hq with hq | rfl
    · exact h.ok q hq
    · exact h7
theorem SpI.wr {j : Nat} {c : Addr} {es es' : List PyData} {ws : List V} {b2 : Nat} (h : SpI K H0 H a l fg z t n m k b L S xs ms) (hj : ms[j]? = some (.l c es)) (hw : DqAll K S H ws es') (hb : b ≤ b2) (ho : McO t n m k b2 (.l c es')) :
    SpI K H0 (upd H c (.lst ws)) a l fg z t n m k b2 L S xs (ms.set j (.l c es')) := by
  have jl : j < xs.length := by rw [h.mb.ln]; exact (List.getElem?_eq_some_iff.mp hj).1
  obtain ⟨_, sc, _⟩ := h.mb.at_ j _ _ (List.getElem?_eq_getElem jl) hj
  obtain ⟨c0, cL⟩ := h.nc c (List.mem_filterMap.mpr ⟨_, List.mem_of_getElem? hj, (rfl : Mc.ad (.l c es) = some c)⟩)
  have nC := bag_ne h.B0 c0
  have cS : ChgS S H (upd H c (.lst ws)) := fun b o n e => by rw [upd_ne (fun w => n (by rw [w]; exact sc))]; exact e
  refine ⟨h.B0, bag_chg h.B nC.1 nC.2, fun d o n e => by rw [upd_ne (fun w => by rw [w, c0] at e; cases e)]; exact h.ch d o n e, h.sa, fun s hs => ?_, h.sL, h.nL, by rw [upd_ne cL.symm]; exact h.eL, h.mb.wr hj sc hw, fun d hd => h.nc d (by rwa [ad_set hj] at hd), h.hf.chg cS, h.hz.chg cS, by rw [List.length_set]; exact h.few, fun q hq => ?_⟩
  · by_cases e : s = c
    · rw [e, upd_same]; exact fun w => by cases w
    · rw [upd_ne e]; exact h.al s hs
  · rcases List.mem_or_eq_of_mem_set hq with hq | rfl
    · exact (h.ok q hq).mono hb
    · exact ho
theorem SpI.new {p : Addr} (h : SpI K H0 H a l fg z t n m k b L S xs ms) (hp : H p = none) : SpI K H0 (upd H p (.lst [])) a l fg z t n m k b p (SD S p) [] [] := by
  have s1 : Same H (upd H p (.lst [])) := same_new hp
  have p0 : H0 p = none := by
    cases e : H0 p with
    | none => rfl
    | some o => rw [h.ch p o (bag_ne h.B hp).1 e] at hp; cases hp
  have tr : ∀ H2, ChgS (SD S p) (upd H p (.lst [])) H2 → ChgS S H H2 := fun H2 c b o nb e => by
    have bp : b ≠ p := fun e2 => by rw [e2, hp] at e; cases e
    exact c b o (fun w => w.elim nb bp) (by rw [upd_ne bp]; exact e)
  refine ⟨h.B0, bag_sm h.B s1, h.ch.trans (sm_chg s1), .inl h.sa, fun s hs => ?_, .inr rfl, p0, upd_same, .nil, fun c hc => by simp at hc, h.hf.tr tr, h.hz.tr tr, Nat.zero_le _, fun q hq => by simp at hq⟩
  rcases hs with hs | rfl
  · exact (h.al.sm s1) s hs
  · rw [upd_same]; exact fun w => by cases w
/-- a machine that is a list, found -/
theorem SpI.mac {j : Nat} {c : Addr} {es : List PyData} (h : SpI K H0 H a l fg z t n m k b L S xs ms) (hj : ms[j]? = some (.l c es)) : ∃ ws, xs[j]? = some (.ref c) ∧ H c = some (.lst ws) ∧ DqAll K S H ws es ∧ ws.length = es.length ∧ es.length ≤ b ∧ ∀ e ∈ es, ItO t n m k e := by
  have jl : j < xs.length := by rw [h.mb.ln]; exact (List.getElem?_eq_some_iff.mp hj).1
  obtain ⟨e1, sc, ws, e2, d⟩ := h.mb.at_ j _ _ (List.getElem?_eq_getElem jl) hj
  have o := h.ok _ (List.mem_of_getElem? hj)
  exact ⟨ws, by rw [List.getElem?_eq_getElem jl, e1], e2, d, d.len, o.1, o.2⟩
/-- the end: the machines as data -/
theorem SpI.fin (h : SpI K H0 H a l fg z t n m k b L S xs ms) : DqAll K (fun b => b = a) H xs (ms.map Mc.da) :=
  h.mb.dq (fun _ w => by rw [w]; exact h.sa) fun c hc => (bag_ne h.B0 (h.nc c hc).1).1
end
/-- the beginning -/
theorem SpI.start {H0 H1 H : Hp} {a l : Addr} {fg z : V} {t n m k b : Nat} {L : Addr} {cs : List Addr} {zss : List (List Th)} (B0 : Bag H0 a l) (nw : New H0 (L :: cs)) (nL : L ∉ cs) (eL : H1 L = some (.lst (cs.map V.ref))) (lo : Lots K H1 cs zss) (s1 : Same H0 H1) (s2 : Same H1 H)
    (hf : Dq K (fun b => b = a) H0 fg (figD t n m k)) (hz : Dq K (fun b => b = a ∨ b ∈ L :: cs) H z (.list ((thM t n m k).map dTh))) (few : cs.length ≤ 6) (ok : ∀ zs ∈ zss, zs.length ≤ b ∧ ∀ z ∈ zs, z ∈ thM t n m k) :
    SpI K H0 H a l fg z t n m k b L (fun b => b = a ∨ b ∈ L :: cs) (cs.map V.ref) (List.zipWith (fun c (zs : List Th) => Mc.l c (zs.map dTh)) cs zss) := by
  have s12 := s1.trans s2
  have ad : ∀ (cs : List Addr) (zss : List (List Th)), cs.length = zss.length → (List.zipWith (fun c (zs : List Th) => Mc.l c (zs.map dTh)) cs zss).filterMap Mc.ad = cs := fun cs => by
    induction cs with
    | nil => exact fun _ _ => rfl
    | cons c cs ih =>
      intro zss e
      cases zss with
      | nil => cases e
      | cons zs zss =>
        rw [List.zipWith_cons_cons, fm_l, ih zss (by simpa using e)]
  have lc : ∀ c ∈ cs, ∃ ys, H c = some (.lst ys) := fun c hc => by
    obtain ⟨j, hj⟩ := List.getElem?_of_mem hc
    have jl := (List.getElem?_eq_some_iff.mp hj).1
    obtain ⟨vs, e, _⟩ := lo.at_ j c _ hj (List.getElem?_eq_getElem (by rw [← lo.ln]; exact jl))
    exact ⟨vs, s2 _ _ e⟩
  have lA : ∀ c, (c = a ∨ c ∈ L :: cs) → ∃ ys, H c = some (.lst ys) := fun c hc => by
    rcases hc with rfl | hc
    · obtain ⟨_, _, _, _, _, e1, _⟩ := bag_sm B0 s12
      exact ⟨_, e1⟩
    · rcases List.mem_cons.mp hc with rfl | hc
      · exact ⟨_, s2 _ _ eL⟩
      · exact lc c hc
  refine ⟨B0, bag_sm B0 s12, sm_chg s12, .inl rfl, fun s hs => ?_, .inr List.mem_cons_self, nw L List.mem_cons_self, s2 _ _ eL, ⟨?_, ?_, fun i x q hx hq => ?_⟩, fun c hc => ?_, ?_, hz, ?_, fun q hq => ?_⟩
  · obtain ⟨ys, e⟩ := lA s hs
    rw [e]
    exact fun w => by cases w
  · rw [List.length_map, List.length_zipWith, ← lo.ln, Nat.min_self]
  · rw [ad cs zss lo.ln]; exact lo.nd
  · rw [List.getElem?_map, Option.map_eq_some_iff] at hx
    obtain ⟨c, hc, rfl⟩ := hx
    have il : i < zss.length := by rw [← lo.ln]; exact (List.getElem?_eq_some_iff.mp hc).1
    rw [List.getElem?_zipWith, hc, List.getElem?_eq_getElem il] at hq
    obtain rfl := Option.some.inj hq
    obtain ⟨vs, e, d⟩ := lo.at_ i c _ hc (List.getElem?_eq_getElem il)
    exact ⟨rfl, .inr (List.mem_cons_of_mem _ (List.mem_of_getElem? hc)), vs, s2 _ _ e, ((d.sm s2).free (A := fun b => b = a ∨ b ∈ L :: cs) lA (frz_ths _)).tr fun H2 c2 b o n e2 => c2 b o (fun w => n (.inr w)) e2⟩
  · rw [ad cs zss lo.ln] at hc
    exact ⟨nw c (List.mem_cons_of_mem _ hc), fun w => nL (by rw [← w]; exact hc)⟩
  · exact hf.tr fun H2 c2 b o n e => c2 b o (fun w => w.elim n fun w => by rw [nw b w] at e; cases e) (s12 _ _ e)
  · rw [List.length_zipWith]
    omega
  · obtain ⟨i, hi⟩ := List.getElem?_of_mem hq
    rw [List.getElem?_zipWith] at hi
    cases hc : cs[i]? with
    | none => rw [hc] at hi; cases hi
    | some c =>
      cases hz : zss[i]? with
      | none => rw [hc, hz] at hi; cases hi
      | some zs =>
        rw [hc, hz] at hi
        obtain rfl := Option.some.inj hi
        obtain ⟨o1, o2⟩ := ok zs (List.mem_of_getElem? hz)
        exact ⟨by rw [List.length_map]; exact o1, fun e he => by
          obtain ⟨z, hz, rfl⟩ := List.mem_map.mp he
          exact .inl (List.mem_map.mpr ⟨z, o2 z hz, rfl⟩)⟩
end

set_option Elab.async false
set_option linter.all false
set_option maxRecDepth 100000
set_option maxHeartbeats 4000000
open PySem PySem.Spec L2





section
variable {P : Program} {w : World} {K : PySem.W.Frag} {mg : Str → Option Value} {base : Heap}
/-! _law_spoilt -/
theorem mc_isi {S : Addr → Prop} {H : Hp} {x : V} {q : Mc} {t n m k b : Nat} {Q : VK} (h : McAt K S H x q) (o : McO t n m k b q) (h1 : ∀ c es, q = .l c es → Q (.bl true) H) (h2 : Q (.bl false) H) : rIsi K [x, .ty "list"] H Q := by
  cases q with
  | l c es =>
    obtain ⟨rfl, _, ws, e, _⟩ := h
    exact g_isi (tyL (.of e)) kb_list_list (h1 c es rfl)
  | p d =>
    have h : Dq K S H x d := h
    have o : d ∈ plain7 := o
    unfold plain7 at o
    simp only [List.mem_cons, List.not_mem_nil, or_false] at o
    rcases o with rfl | rfl | rfl | rfl | rfl | rfl | rfl
    · obtain rfl := h.non_inv
      exact g_isi (.base .non) kb_NoneType_list h2
    · obtain rfl := h.int_inv
      exact g_isi (.base (.int _)) kb_int_list h2
    · obtain rfl := h.str_inv
      exact g_isi (.base (.str _)) kb_str_list h2
    · obtain rfl := h.bl_inv
      exact g_isi (.base (.bl _)) kb_bool_list h2
    · obtain rfl := h.int_inv
      exact g_isi (.base (.int _)) kb_int_list h2
    · obtain rfl := h.str_inv
      exact g_isi (.base (.str _)) kb_str_list h2
    · obtain ⟨b, ys, rfl, sq, _⟩ := h.tup_inv
      exact g_isi (tyT sq) kb_tuple_list h2
theorem g_neNil {H : Hp} {x : V} {p : Addr} {ds : List PyData} {Q : VK} (h1 : Dp K H x (.list ds)) (sh : SeqAt.shaped (.list ds) = true) (hp : H p = some (.lst [])) (q : Q (.bl (decide (ds ≠ []))) H) : rNeD K x (.ref p) H Q :=
  ⟨.list ds, .list [], h1, .lst (.of hp) .nil, sh, rfl, by
    have e : (!PyData.eqv (.list ds) (.list [])) = decide (ds ≠ []) := by
      cases ds with
      | nil => rfl
      | cons d ds => rfl
    rw [e]; exact q⟩
theorem shaped_its {t n m k : Nat} (hb : ShB t n m k) {es : List PyData} (h : ∀ e ∈ es, ItO t n m k e) : SeqAt.shaped (.list es) = true := shaped_list (fun e he => (sml_it hb (h e he)).cl) (fun e he => (sml_it hb (h e he)).sw) (by decide)
theorem shaped_ben {t n m k : Nat} (hb : ShB t n m k) {ds : List PyData} (h : BenD t n m k ds) : SeqAt.shaped (.list ds) = true := shaped_list (fun e he => (ben_1 hb (h.2 e he)).2.1) (fun e he => (ben_1 hb (h.2 e he)).2.2) (by decide)
theorem ixN_nat {n j : Nat} (h : j < n) : ixN n (j : Int) = some j := by
  unfold ixN
  rw [if_pos (by omega), if_pos (by omega), Int.toNat_natCast]
theorem th_all (t n m k : Nat) : (thM t n m k).length = m * (k + n) + t := by
  unfold thM
  rw [List.length_append, th_len, List.length_map, List.length_range]
theorem SpI.insAt {H0 H : Hp} {a l : Addr} {fg z v : V} {t n m k b j r : Nat} {L c : Addr} {S : Addr → Prop} {xs ws : List V} {ms : List Mc} {es : List PyData} {e : PyData} (h : SpI K H0 H a l fg z t n m k b L S xs ms) (hj : ms[j]? = some (.l c es)) (ec : H c = some (.lst ws)) (he : Dq K S H v e) (io : ItO t n m k e) (hr : r ≤ es.length) :
    SpI K H0 (upd H c (.lst (ws.take r ++ [v] ++ ws.drop r))) a l fg z t n m k (b + 1) L S xs (ms.set j (.l c (es.take r ++ [e] ++ es.drop r))) := by
  obtain ⟨ws', _, ec', dw, _, lb, hio⟩ := h.mac hj
  obtain rfl : ws = ws' := by
    have := ec.symm.trans ec'
    injection this with this
    injection this
  refine h.wr hj (((dw.take r).app (.cons he .nil)).app (dw.drop r)) (by omega) ⟨?_, fun u hu => ?_⟩
  · simp
    omega
  · rcases List.mem_cons.mp (ins_perm.mem_iff.mp hu) with rfl | hu
    · exact io
    · exact hio u hu
theorem SpI.popAt {H0 H : Hp} {a l : Addr} {fg z : V} {t n m k b j r : Nat} {L c : Addr} {S : Addr → Prop} {xs ws : List V} {ms : List Mc} {es : List PyData} (h : SpI K H0 H a l fg z t n m k b L S xs ms) (hj : ms[j]? = some (.l c es)) (ec : H c = some (.lst ws)) :
    SpI K H0 (upd H c (.lst (ws.eraseIdx r))) a l fg z t n m k (b + 1) L S xs (ms.set j (.l c (es.eraseIdx r))) := by
  obtain ⟨ws', _, ec', dw, _, lb, hio⟩ := h.mac hj
  obtain rfl : ws = ws' := by
    have := ec.symm.trans ec'
    injection this with this
    injection this
  refine h.wr hj (es' := es.eraseIdx r) ?_ (by omega) ⟨?_, fun u hu => hio u (List.mem_of_mem_eraseIdx hu)⟩
  · rw [List.eraseIdx_eq_take_drop_succ, List.eraseIdx_eq_take_drop_succ]
    exact (dw.take r).app (dw.drop (r + 1))
  · have := List.length_eraseIdx_le es r
    omega
theorem g_and2 {p : Prop} {dp : Decidable p} {X : Prop} {R : Hp → Prop} {H : Hp} (Inv : Hp → Prop) (h0 : ¬ p → Inv H) (hR : ∀ H1, Inv H1 → R H1) (h1 : p → (∀ H1, Inv H1 → R H1) → X) : if decide p = true then X else R H := by
  by_cases c : p
  · rw [if_pos (decide_eq_true c)]
    exact h1 c hR
  · rw [if_neg (by rw [decide_eq_false c]; decide)]
    exact hR H (h0 c)
def spSpo (K : PySem.W.Frag) : Sp := fun vs H Q _ => ∃ (a l L0 : Addr) (fg : V) (cs : List Addr) (zss : List (List Th)) (t n m k : Nat), vs = [.ref a, fg, .ref L0] ∧ Bag H a l ∧ Dq K (fun b => b = a) H fg (figD t n m k) ∧ ShB t n m k ∧ H L0 = some (.lst (cs.map V.ref)) ∧ Lots K H cs zss ∧ cs.length ≤ 6 ∧ (∀ zs ∈ zss, zs.length ≤ 24 ∧ ∀ z ∈ zs, z ∈ thM t n m k) ∧
  ∀ (L : Addr) (xs : List V) (ds : List PyData) (H' : Hp), H L = none → H' L = some (.lst xs) → DqAll K (fun b => b = a) H' xs ds → BenD t n m k ds → Bag H' a l → Chg a H H' → Q (.ref L) H'
theorem ok_spo (T : Top K mg) {f : Addr} {fd : FuncData} (F : FnP K "_law_spoilt" s__law_spoilt f fd) : FnOk P w K mg base CX0 4 f fd P__law_spoilt (spSpo K) := by
  have C__law_draw := c_draw1 (P := P) (w := w) (base := base) T
  have C__law_pick := c_of (P := P) (w := w) (base := base) T
  have C__law_copies := c_cpy (P := P) (w := w) (base := base) T
  have C__law_things := c_lth (P := P) (w := w) (base := base) T
  have C__law_stranger := c_stg (P := P) (w := w) (base := base) T
  refine F.ok sc__law_spoilt (fun vs H Q E h => ?_) (fun cdv A outer s H vs Q E hr h => ?_)
  · obtain ⟨a, l, L0, fg, cs, zss, t, n, m, k, rfl, _⟩ := h
    rfl
  · obtain ⟨a, l, L0, fg, cs, zss, t, n, m, k, rfl, B, hf, hb, eL0, lo, c6, hz, q⟩ := h
    refine ⟨_, PSs.nox (pss_cons (ps_asg (pe_tup (pa_cons (pe_cal C__law_copies (hr.mono (by first | decide | omega)) (by rfl) (pa_cons (pv 2) pa_nil)) (pa_cons (pe_cal C__law_things (hr.mono (by first | decide | omega)) (by rfl) (pa_cons (pv 1) pa_nil)) pa_nil))) (k_pgt (K := K) (n := 2) (by rfl) (by rfl) (pgs_cons (pg_name (i := 3) sc__law_spoilt.nd rfl (by first | exact Or.inl rfl | exact Or.inr rfl)) (pgs_cons (pg_name (i := 4) sc__law_spoilt.nd rfl (by first | exact Or.inl rfl | exact Or.inr rfl)) pgs_nil)) (by rfl) (by rfl)))
    (pss_cons (ps_for PassesOwn.never rfl (pi_range1 (by rfl) T.z_range (pa_cons (pe_cal C__law_pick (hr.mono (by first | decide | omega)) (by rfl) (pa_cons (pv 0) (pa_cons (pe_lst (pa_cons pe_int (pa_cons pe_int (pa_cons pe_int (pa_cons pe_int (pa_cons pe_int (pa_cons pe_int pa_nil))))))) pa_nil))) pa_nil)) (pg_name (i := 5) sc__law_spoilt.nd rfl (by first | exact Or.inl rfl | exact Or.inr rfl))
    (pss_cons (ps_par (i := 6) (j := 7) (by rfl) sc__law_spoilt.nd rfl rfl (by decide) rfl rfl (pa_cons (pe_cal C__law_draw (hr.mono (by first | decide | omega)) (by rfl) (pa_cons (pv 0) (pa_cons pe_int pa_nil))) (pa_cons (pe_lc (own := [("_law_m", 8)]) (g := gName 8) (by rfl) sc__law_spoilt.nd (pi_range1 (by rfl) T.z_range (pa_cons (pe_callB (k_len (K := K) (by rfl)) (by rfl) T.z_len (by decide +kernel) (pa_cons (pv 3) pa_nil)) pa_nil)) (blkOk_by (own := [("_law_m", 8)]) (N := N__law_spoilt) (sc := defScope s__law_spoilt) (by decide +kernel)) (fun _ _ _ _ _ => pg_name (i := 8) sc__law_spoilt.nd rfl (by first | exact Or.inl rfl | exact Or.inr rfl)) (fun _ _ _ _ _ => (pts_one (pt_val (pe_callB (k_isi (K := K) (by rfl)) (by rfl) T.z_isinstance (by decide +kernel) (pa_cons (pe_ix (k_ix (K := K) (by rfl)) (pv 3) (pv 8) (fun _ _ => rfl)) (pa_cons (pe_bltn (v := .ty "list") (u := .type "list") (by rfl) T.z_list (by decide +kernel) rfl) pa_nil)))))) (fun _ _ _ _ _ => (pv 8))) pa_nil)) (by rfl))
    (pss_one (ps_if (pt_cmpR op_eq (pv 6) pe_int (nomark _))
    (pss_one (ps_for PassesOwn.never rfl (pi_range1 (by rfl) T.z_range (pa_cons (pe_op op_sub pe_int (pe_callB (k_len (K := K) (by rfl)) (by rfl) T.z_len (by decide +kernel) (pa_cons (pv 3) pa_nil))) pa_nil)) (pg_name (i := 9) sc__law_spoilt.nd rfl (by first | exact Or.inl rfl | exact Or.inr rfl))
    (pss_one (ps_expr (pe_bm PySem.F.plainAttrs_list PySem.F.slot_list_insert PySem.F.type_list_insert mt_insert (pv 3) (pa_cons (pe_cal C__law_draw (hr.mono (by first | decide | omega)) (by rfl) (pa_cons (pv 0) (pa_cons (pe_op op_add (pe_callB (k_len (K := K) (by rfl)) (by rfl) T.z_len (by decide +kernel) (pa_cons (pv 3) pa_nil)) pe_int) pa_nil))) (pa_cons (pe_lst pa_nil) pa_nil)))))))
    (pss_one (ps_if (PW.pt (pw_and (pt_cmpR op_eq (pv 6) pe_int (nomark _)) (pw_and1 (pt_cmpR op_eq (pe_cal C__law_draw (hr.mono (by first | decide | omega)) (by rfl) (pa_cons (pv 0) (pa_cons pe_int pa_nil))) pe_int (nomark _)))))
    (pss_one (ps_set (i := 3) sc__law_spoilt.nd rfl (by first | exact Or.inl rfl | exact Or.inr rfl) (pe_lst pa_nil)))
    (pss_one (ps_if (PW.pt (pw_and (pt_cmpR op_eq (pv 6) pe_int (nomark _)) (pw_and1 (pt_cmpR (k_neD (K := K) (by rfl) hr.units) (pv 3) (pe_lst pa_nil) (nomark _)))))
    (pss_one (ps_asg (pe_cal C__law_pick (hr.mono (by first | decide | omega)) (by rfl) (pa_cons (pv 0) (pa_cons (pe_lst (pa_cons pe_non (pa_cons pe_int (pa_cons pe_str (pa_cons pe_bl (pa_cons pe_int (pa_cons pe_str (pa_cons (pe_tup pa_nil) pa_nil)))))))) pa_nil))) (pg_sub (pv 3) (pe_cal C__law_draw (hr.mono (by first | decide | omega)) (by rfl) (pa_cons (pv 0) (pa_cons (pe_callB (k_len (K := K) (by rfl)) (by rfl) T.z_len (by decide +kernel) (pa_cons (pv 3) pa_nil)) pa_nil))) set_list)))
    (pss_one (ps_if (pt_cmpR (k_neD (K := K) (by rfl) hr.units) (pv 7) (pe_lst pa_nil) (nomark _))
    (pss_cons (ps_set (i := 10) sc__law_spoilt.nd rfl (by first | exact Or.inl rfl | exact Or.inr rfl) (pe_ix (k_ix (K := K) (by rfl)) (pv 3) (pe_cal C__law_pick (hr.mono (by first | decide | omega)) (by rfl) (pa_cons (pv 0) (pa_cons (pv 7) pa_nil))) (fun _ _ => rfl)))
    (pss_one (ps_if (PW.pt (pw_and (pt_cmpR op_lt (pv 6) pe_int (nomark _)) (pw_and1 (pt_cmpR (k_neD (K := K) (by rfl) hr.units) (pv 10) (pe_lst pa_nil) (nomark _)))))
    (pss_one (ps_expr (k_bm (K := K) (by rfl) PySem.F.plainAttrs_list PySem.F.slot_list_pop PySem.F.type_list_pop mt_popAt (pv 10) (pa_cons (pe_cal C__law_draw (hr.mono (by first | decide | omega)) (by rfl) (pa_cons (pv 0) (pa_cons (pe_callB (k_len (K := K) (by rfl)) (by rfl) T.z_len (by decide +kernel) (pa_cons (pv 10) pa_nil)) pa_nil))) pa_nil))))
    (pss_one (ps_if (pt_cmpR op_lt (pv 6) pe_int (nomark _))
    (pss_one (ps_expr (pe_bm PySem.F.plainAttrs_list PySem.F.slot_list_insert PySem.F.type_list_insert mt_insert (pv 10) (pa_cons (pe_cal C__law_draw (hr.mono (by first | decide | omega)) (by rfl) (pa_cons (pv 0) (pa_cons (pe_op op_add (pe_callB (k_len (K := K) (by rfl)) (by rfl) T.z_len (by decide +kernel) (pa_cons (pv 10) pa_nil)) pe_int) pa_nil))) (pa_cons (pe_cal C__law_pick (hr.mono (by first | decide | omega)) (by rfl) (pa_cons (pv 0) (pa_cons (pv 4) pa_nil))) pa_nil)))))
    (pss_one (ps_expr (pe_bm PySem.F.plainAttrs_list PySem.F.slot_list_insert PySem.F.type_list_insert mt_insert (pv 10) (pa_cons (pe_cal C__law_draw (hr.mono (by first | decide | omega)) (by rfl) (pa_cons (pv 0) (pa_cons (pe_op op_add (pe_callB (k_len (K := K) (by rfl)) (by rfl) T.z_len (by decide +kernel) (pa_cons (pv 10) pa_nil)) pe_int) pa_nil))) (pa_cons (pe_cal C__law_stranger (hr.mono (by first | decide | omega)) (by rfl) (pa_cons (pv 0) (pa_cons (pv 1) pa_nil))) pa_nil))))))))))
    pss_nil))))))))))
    (pss_one (ps_ret (pv 3))))), ?_⟩
    try simp only [cxK]
    rw [show L2.start N__law_spoilt [.ref a, fg, .ref L0] = [some (.ref a), some fg, some (.ref L0), none, none, none, none, none, none, none, none] from rfl]
    walk_at "go"
    refine ⟨L0, cs, zss, rfl, eL0, lo, by omega, fun zs h => by have := (hz zs h).1; omega, fun L cs' H1 nw nL eL lo1 s1 => ?_⟩
    walk_at "go"
    have sA : Al (fun b => b = a ∨ b ∈ L :: cs') H1 := fun b hb hn => by
      rcases hb with rfl | hb
      · obtain ⟨_, _, _, _, _, eB, _⟩ := bag_sm B s1
        rw [eB] at hn; cases hn
      · rcases List.mem_cons.mp hb with rfl | hb
        · rw [eL] at hn; cases hn
        · obtain ⟨j, hj⟩ := List.getElem?_of_mem hb
          have jl := (List.getElem?_eq_some_iff.mp hj).1
          obtain ⟨vs, e, _⟩ := lo1.at_ j b _ hj (List.getElem?_eq_getElem (by rw [← lo1.ln]; exact jl))
          rw [hn] at e; cases e
    refine ⟨fun b => b = a ∨ b ∈ L :: cs', fg, t, n, m, k, rfl, hf.tr fun H2 c2 b o n e => c2 b o (fun w => w.elim n fun w => by rw [nw b w] at e; cases e) (s1 _ _ e), hb, sA, fun z H2 dz s2 => ?_⟩
    have c6' : cs'.length ≤ 6 := by rw [lo1.ln, ← lo.ln]; exact c6
    have I0 := SpI.start (b := 24) B nw nL eL lo1 s1 s2 hf dz c6' hz
    clear lo1 sA dz eL nw nL s1 s2 H1
    generalize (fun b => b = a ∨ b ∈ L :: cs') = S at I0
    generalize List.zipWith _ _ _ = ms at I0
    generalize cs'.map V.ref = xs at I0
    walk_at "go"
    rename_i p1 hp1 p2 hp2
    have I1 := (I0.sm (same_new hp1 (o := .tup [.ref L, z]))).sm (same_new hp2 (o := .lst [.int 1, .int 0, .int 2, .int 1, .int 3, .int 4]))
    have ne2 : p2 ≠ a := (bag_apart (I0.sm (same_new hp1 (o := .tup [.ref L, z]))).B hp2).1
    refine g_of (E := E0) I1.B upd_same ne2 (by decide) fun v H3 hv B3 c3 => ?_
    have I3 := I1.bag B3 c3
    clear I1 I0 hp1 hp2 ne2
    obtain ⟨i, i4, rfl⟩ : ∃ i : Nat, i ≤ 4 ∧ v = .int (i : Int) := by
      simp only [List.mem_cons, List.not_mem_nil, or_false] at hv
      rcases hv with rfl | rfl | rfl | rfl | rfl | rfl
      · exact ⟨1, by decide, rfl⟩
      · exact ⟨0, by decide, rfl⟩
      · exact ⟨2, by decide, rfl⟩
      · exact ⟨1, by decide, rfl⟩
      · exact ⟨3, by decide, rfl⟩
      · exact ⟨4, by decide, rfl⟩
    clear hv B3 c3
    walk_at "go"
    rw [Int.toNat_natCast]
    refine forR ⟨fun j σ' H' => ∃ L S xs ms y5 y6 y7 y9 y10, σ' = [some (.ref a), some fg, some (.ref L0), some (.ref L), some z, y5, y6, y7, none, y9, y10] ∧ SpI K H H' a l fg z t n m k (24 + j) L S xs ms, ⟨L, S, xs, ms, none, none, none, none, none, rfl, I3⟩, ?_, ?_⟩
    · rintro j σ' H' ji ⟨L, S, xs, ms, y5, y6, y7, y9, y10, rfl, I⟩
      clear I3
      rw [Int.zero_add]
      walk_at "go"
      refine g_drawB I.B (by decide) fun way H4 w0 w9 B4 c4 => ?_
      have I4 := I.bag B4 c4
      have xl : xs.length ≤ 6 := by rw [I4.mb.ln]; exact I4.few
      have eL4 := I4.eL
      walk_at "go"
      rw [Int.toNat_natCast]
      refine lcR (σ0 := [some (.ref a), some fg, some (.ref L0), some (.ref L), some z, some (.int (j : Nat)), y6, y7, none, y9, y10]) rfl fun D hD => ⟨fun i H5 => ∃ js : List Int, H5 D = some (.lst (js.map V.int)) ∧ js.length ≤ i ∧ (∀ u ∈ js, ∃ (e : Nat) (c : Addr) (es : List PyData), u = (e : Int) ∧ ms[e]? = some (.l c es)) ∧ Same H4 H5, ⟨[], upd_same, Nat.le_refl _, fun u h => absurd h List.not_mem_nil, same_new hD⟩, ?_, ?_⟩
      · rintro e H5 he ⟨js, eD, lj, hj, s5⟩
        rw [Int.zero_add]
        have I5 := I4.sm s5
        have eL5 := I5.eL
        have hx := List.getElem?_eq_getElem he
        have hq := List.getElem?_eq_getElem (l := ms) (i := e) (by rw [← I5.mb.ln]; exact he)
        have hm := I5.mb.at_ e _ _ hx hq
        walk_at "go"
        refine g_qix (.inl (.of eL5)) (atI_nat hx) ?_
        walk_at "go"
        refine mc_isi hm (I5.ok _ (List.mem_of_getElem? hq)) (fun c es eq => ?_) ?_
        · rw [eq] at hq
          refine ⟨true, rfl, g_turnCt ?_⟩
          walk_at "go"
          refine g_turnD eD (by rw [List.length_map]; omega) ⟨js ++ [(e : Int)], ?_, ?_, ?_, ?_⟩
          · rw [upd_same, List.map_append]; rfl
          · rw [List.length_append, List.length_singleton]; omega
          · intro u hu
            rcases List.mem_append.mp hu with hu | hu
            · exact hj u hu
            · exact ⟨e, c, es, List.mem_singleton.mp hu, hq⟩
          · exact fun b o z => by rw [upd_ne (ne_of_none z hD)]; exact s5 b o z
        · exact ⟨false, rfl, js, eD, by omega, hj, s5⟩
      · rintro H5 ⟨js, eD, lj, hj, s5⟩
        walk_at "go"
        have I5 := I4.sm s5
        have hD5 : H' D = none := by
          cases e : H' D with
          | none => rfl
          | some o => rw [c4 _ o (bag_apart B4 hD).1 e] at hD; cases hD
        clear s5 I4 eL4 B4 c4 hD H4
        refine g_iteD (fun _ => ?_) fun n0 => ?_
        · have eL5 := I5.eL
          walk_at "go"
          clear hD5 eL5 hj lj eD
          generalize hM : ((6 : Int) - (xs.length : Int)).toNat = M
          have hM2 : M + xs.length ≤ 6 := by omega
          clear hM
          generalize hl0 : xs.length = l0 at hM2
          refine forR ⟨fun u σ' H6 => ∃ S xs ms y9, σ' = [some (.ref a), some fg, some (.ref L0), some (.ref L), some z, some (.int (j : Nat)), some (.int way), some (.ref D), none, y9, y10] ∧ SpI K H H6 a l fg z t n m k (24 + j) L S xs ms ∧ xs.length = l0 + u, ⟨S, xs, ms, y9, rfl, I5, hl0⟩, ?_, ?_⟩
          · rintro u σ' H6 hu ⟨S, xs, ms, y9, rfl, I6, lx⟩
            have eL6 := I6.eL
            clear I5
            walk_at "go"
            refine g_drawB I6.B (by omega) fun r H7 r0 r1 B7 c7 => ?_
            have I7 := I6.bag B7 c7
            walk_at "go"
            rename_i p hp
            have pL : L ≠ p := fun e => by rw [← e, I7.eL] at hp; cases hp
            refine ⟨L, xs, r, .ref p, rfl, rfl, by rw [upd_ne pL]; exact I7.eL, Nat.lt_of_le_of_lt (show xs.length ≤ 6 by omega) (by decide), r0, by omega, ?_⟩
            have ml := I7.mb.ln
            have I8 := I7.ins (r := r.toNat) hp (by omega) (by omega)
            walk_at "go"
            refine ⟨_, _, _, _, rfl, I8, ?_⟩
            simp
            omega
          · rintro σ' H6 ⟨S, xs, ms, y9, rfl, I6, lx⟩
            exact ⟨_, _, _, _, _, _, _, _, _, rfl, I6.mono (by omega)⟩
        · have Da : D ≠ a := fun e => by
            obtain ⟨_, _, _, _, _, e1, _⟩ := I.B
            rw [e, e1] at hD5; cases hD5
          have DL : D ≠ L := fun e => by rw [e, I.eL] at hD5; cases hD5
          clear hD5
          walk_at "go"
          with_reducible apply g_and2 (H := H5) (Inv := fun H6 => SpI K H H6 a l fg z t n m k (24 + j) L S xs ms ∧ H6 D = some (.lst (js.map V.int)))
          · exact fun _ => ⟨I5, eD⟩
          · clear I5 eD H5
            rintro H5 ⟨I5, eD⟩
            walk_at "go"
            with_reducible apply g_and2 (H := H5) (Inv := fun H6 => SpI K H H6 a l fg z t n m k (24 + j) L S xs ms ∧ H6 D = some (.lst (js.map V.int)))
            · exact fun _ => ⟨I5, eD⟩
            · clear I5 eD H5
              rintro H5 ⟨I5, eD⟩
              walk_at "go"
              rename_i p hp
              refine g_neDI (a := js) (b := []) (.of (by rw [upd_ne (ne_of_none eD hp)]; exact eD)) (.of upd_same) ?_
              have I6 := I5.sm (same_new hp (o := .lst []))
              have eD6 : (upd H5 p (.lst [])) D = _ := same_new hp _ _ eD
              clear I5 eD
              generalize upd H5 p (.lst []) = H6 at I6 eD6 ⊢
              refine ⟨_, rfl, ?_⟩
              by_cases jn : js = []
              · subst jn
                rw [decide_eq_true rfl]
                walk_at "go"
                exact ⟨_, _, _, _, _, _, _, _, _, rfl, I6.mono (by omega)⟩
              · rw [decide_eq_false jn]
                have jp : 1 ≤ js.length := by
                  cases js with
                  | nil => exact absurd rfl jn
                  | cons u v => simp
                walk_at "go"
                refine g_of (E := E0) I6.B eD6 Da ⟨by rw [List.length_map]; exact jp, by rw [List.length_map]; omega⟩ fun v H7 hv B7 c7 => ?_
                have I7 := I6.bag B7 c7
                obtain ⟨u, hu, rfl⟩ := List.mem_map.mp hv
                obtain ⟨e, c, es, rfl, hq⟩ := hj u hu
                obtain ⟨ws, hx, ec, dw, lw, lb, io⟩ := I7.mac hq
                walk_at "go"
                refine g_qix (.inl (.of I7.eL)) (atI_nat hx) ?_
                walk_at "go"
                clear hx ec dw lw lb io hv I6 eD6 B7 c7
                with_reducible apply g_and2 (H := H7) (Inv := fun H6 => SpI K H H6 a l fg z t n m k (24 + j) L S xs ms)
                · exact fun _ => I7
                · clear I7 H7
                  rintro H7 I7
                  walk_at "go"
                  obtain ⟨ws, hx, ec, dw, lw, lb, io⟩ := I7.mac hq
                  refine g_iteD (fun w7 => ?_) fun w7 => ?_
                  · walk_at "go"
                    refine g_drawB I7.B (by omega) fun r H8 r0 r1 B8 c8 => ?_
                    have I8 := I7.bag B8 c8
                    walk_at "go"
                    obtain ⟨pl, ps, rfl, ep, dps, np⟩ := I8.hz.list_inv
                    have lp := dps.len
                    rw [List.length_map, th_all] at lp
                    have bt := hb.t
                    have tm : m * (k + n) ≤ 3 * 6 := Nat.mul_le_mul hb.m.2 (by have := hb.k; have := hb.n; omega)
                    refine g_of (E := E0) I8.B ep (fun e => np (by rw [e]; exact I8.sa)) ⟨by omega, by omega⟩ fun v H9 hv B9 c9 => ?_
                    have I9 := I8.bag B9 c9
                    obtain ⟨i9, h9⟩ := List.getElem?_of_mem hv
                    obtain ⟨d, hd, dv⟩ := dps.at h9
                    have dv := dv.chg (toS c9 I8.sa)
                    obtain ⟨_, _, ec9, _, lw9, _⟩ := I9.mac hq
                    walk_at "go"
                    obtain ⟨r, rfl⟩ := Int.eq_ofNat_of_zero_le r0
                    refine ⟨_, _, _, _, rfl, rfl, ec9, Nat.lt_of_le_of_lt (show _ ≤ 29 by omega) (by decide), r0, by omega, ?_⟩
                    rw [Int.toNat_natCast]
                    walk_at "go"
                    exact ⟨_, _, _, _, _, _, _, _, _, rfl, I9.insAt hq ec9 dv (.inl (List.mem_of_getElem? hd)) (by omega)⟩
                  · walk_at "go"
                    refine g_drawB I7.B (by omega) fun r H8 r0 r1 B8 c8 => ?_
                    have I8 := I7.bag B8 c8
                    walk_at "go"
                    refine ⟨S, a, l, fg, t, n, m, k, rfl, I8.B, I8.sa, I8.al, I8.hf, hb, fun far v d H9 hfar hd dv B9 c9 => ?_⟩
                    have I9 := I8.bag B9 c9
                    obtain ⟨_, _, ec9, _, lw9, _⟩ := I9.mac hq
                    walk_at "go"
                    obtain ⟨r, rfl⟩ := Int.eq_ofNat_of_zero_le r0
                    refine ⟨_, _, _, _, rfl, rfl, ec9, Nat.lt_of_le_of_lt (show _ ≤ 29 by omega) (by decide), r0, by omega, ?_⟩
                    rw [Int.toNat_natCast]
                    walk_at "go"
                    exact ⟨_, _, _, _, _, _, _, _, _, rfl, I9.insAt hq ec9 dv (.inr ⟨far, hfar, hd⟩) (by omega)⟩
                · intro w5 rest
                  walk_at "go"
                  rename_i p hp
                  obtain ⟨ws, hx, ec, dw, lw, lb, io⟩ := I7.mac hq
                  refine g_neNil (ds := es) (.lst (.of (by rw [upd_ne (ne_of_none ec hp)]; exact ec)) (dw.sm (same_new hp)).dp) (shaped_its hb io) upd_same ?_
                  have I8 := I7.sm (same_new hp (o := .lst []))
                  clear I7 dw ec
                  generalize upd H7 p (.lst []) = H8 at I8 ⊢
                  refine ⟨_, rfl, ?_⟩
                  refine g_iteD (fun nz => ?_) fun _ => rest H8 I8
                  clear rest
                  obtain ⟨ws, hx, ec, dw, lw, lb, io⟩ := I8.mac hq
                  have l1 : 1 ≤ es.length := by
                    cases es with
                    | nil => exact absurd rfl nz
                    | cons u v => simp
                  walk_at "go"
                  refine g_drawB I8.B (by omega) fun r H9 r0 r1 B9 c9 => ?_
                  have I9 := I8.bag B9 c9
                  walk_at "go"
                  obtain ⟨_, _, ec9, _, lw9, _⟩ := I9.mac hq
                  obtain ⟨r, rfl⟩ := Int.eq_ofNat_of_zero_le r0
                  have rl : r < _ := show r < ws.length by omega
                  refine ⟨_, _, _, r, _, rfl, rfl, ec9, by omega, by omega, seqIx_nat (by omega), List.getElem?_eq_getElem (by omega), ?_⟩
                  walk_at "go"
                  exact ⟨_, _, _, _, _, _, _, _, _, rfl, I9.popAt hq ec9⟩
            · intro w2 rest
              walk_at "go"
              rename_i p hp
              have bd := ben_of (t := t) (n := n) (m := m) (k := k) (by omega) I5.few I5.ok
              refine g_neNil (ds := ms.map Mc.da) (.lst (.of (by rw [upd_ne (ne_of_none I5.eL hp)]; exact I5.eL)) (I5.mb.dqF.sm (same_new hp)).dp) (shaped_ben hb bd) upd_same ?_
              have I6 := I5.sm (same_new hp (o := .lst []))
              have eD6 : (upd H5 p (.lst [])) D = _ := same_new hp _ _ eD
              clear I5 eD
              generalize upd H5 p (.lst []) = H6 at I6 eD6 ⊢
              refine ⟨_, rfl, ?_⟩
              refine g_iteD (fun nz => ?_) fun _ => rest H6 ⟨I6, eD6⟩
              have mp : 1 ≤ xs.length := by
                rw [I6.mb.ln]
                cases ms with
                | nil => exact absurd rfl nz
                | cons u v => simp
              clear rest
              walk_at "go"
              rename_i p1 hp1 p2 hp2
              have I7 := (I6.sm (same_new hp1 (o := .tup []))).sm (same_new hp2 (o := .lst [.non, .int 0, .str (Str.ofString "head"), .bl true, .int 7, .str (Str.ofString ""), .ref p1]))
              have d1 : Dq K S (upd (upd H6 p1 (.tup [])) p2 (.lst [.non, .int 0, .str (Str.ofString "head"), .bl true, .int 7, .str (Str.ofString ""), .ref p1])) (.ref p1) (.tuple []) := (dq_newT (I6.al.no hp1) upd_same .nil).sm (same_new hp2)
              refine g_of (E := E0) I7.B upd_same (bag_apart (I6.sm (same_new hp1 (o := .tup []))).B hp2).1 ⟨Nat.le_of_ble_eq_true rfl, Nat.le_of_ble_eq_true rfl⟩ fun v H8 hv B8 c8 => ?_
              have I8 := I7.bag B8 c8
              have d8 := d1.chg (toS c8 I7.sa)
              obtain ⟨d, h7, dv⟩ : ∃ d, d ∈ plain7 ∧ Dq K S H8 v d := by
                simp only [List.mem_cons, List.not_mem_nil, or_false] at hv
                unfold plain7
                rcases hv with rfl | rfl | rfl | rfl | rfl | rfl | rfl
                · exact ⟨_, by simp, .non⟩
                · exact ⟨.int 0, by simp, .int _⟩
                · exact ⟨.str (Str.ofString "head"), by simp, .str _⟩
                · exact ⟨.bool true, by simp, .bl _⟩
                · exact ⟨.int 7, by simp, .int _⟩
                · exact ⟨.str (Str.ofString ""), by simp, .str _⟩
                · exact ⟨.tuple [], by simp, d8⟩
              clear d8 d1 hv I6 I7 hp hp1 hp2 B8 c8
              have eL8 := I8.eL
              walk_at "go"
              refine g_drawB I8.B (by omega) fun r H9 r0 r1 B9 c9 => ?_
              have I9 := I8.bag B9 c9
              have d9 := dv.chg (toS c9 I8.sa)
              obtain ⟨r, rfl⟩ := Int.eq_ofNat_of_zero_le r0
              refine g_setL I9.eL (ixN_nat (by omega)) ?_
              exact ⟨_, _, _, _, _, _, _, _, _, rfl, (I9.pl d9 h7).mono (by omega)⟩
          · intro w1 rest
            walk_at "go"
            refine g_drawB I5.B (by decide) fun r H6 r0 r1 B6 c6 => ?_
            have I6 := I5.bag B6 c6
            walk_at "go"
            refine g_iteD (fun _ => ?_) fun _ => ?_
            · walk_at "go"
              rename_i p hp
              exact ⟨_, _, _, _, _, _, _, _, _, rfl, (I6.new hp).mono (by omega)⟩
            · exact rest H6 ⟨I6, c6 _ _ Da eD⟩
    · rintro σ' H' ⟨L, S, xs, ms, y5, y6, y7, y9, y10, rfl, I⟩
      walk_at "go"
      exact q L xs _ H' I.nL I.eL I.fin (ben_of (by omega) I.few I.ok) I.B I.ch
theorem c_spo (T : Top K mg) : Cal P w K mg base "_law_spoilt" 4 P__law_spoilt (spSpo K) := cal_mk T.f__law_spoilt (ok_spo T) (fun F => F.bindsN fun _ _ _ _ _ _ us hl => match us, hl with | [_, _, _], _ => rfl)
end

set_option Elab.async false
set_option linter.all false
set_option maxRecDepth 100000
set_option maxHeartbeats 4000000
open PySem PySem.Spec L2





section
variable {P : Program} {w : World} {K : PySem.W.Frag} {mg : Str → Option Value} {base : Heap}
/-! _law_fault -/
/-- an item shows as a thing does exactly if it is a thing -/
theorem it_word {t n m k : Nat} (hb : ShB t n m k) {e : PyData} (h : ItO t n m k e) : (((thM t n m k).map fun z => (dTh z).shown) ++ ((thM t n m k).map fun z => (PyData.list (itsD (dTh z))).shown)).any (fun s => s == e.shown) = isThD t n m k e := by
  rcases h with h | ⟨far, hf, h⟩
  · obtain ⟨z, hz, rfl⟩ := List.mem_map.mp h
    have e1 : isThD t n m k (dTh z) = true := by
      obtain ⟨a, b, c⟩ := z
      have hm := mem_th hz
      have h3 := hb.m
      have h4 := hb.k
      have h2 := hb.n
      have h1 := hb.t
      show (true && isThL t n m k [.str a, .int (b : Nat), .int (c : Nat)]) = true
      rw [Bool.true_and, isThL_3]
      simp only [numD, Bool.and_eq_true, decide_eq_true_eq, List.any_eq_true]
      refine ⟨⟨by omega, ?_⟩, ⟨by omega, ?_⟩, dTh (a, b, c), List.mem_map.mpr ⟨_, hz, rfl⟩, ?_⟩
      · rcases hm with ⟨_, h, _⟩ | ⟨_, h, _⟩ | ⟨_, h, _⟩ <;> simp at h <;> omega
      · rcases hm with ⟨_, _, h⟩ | ⟨_, _, h⟩ | ⟨_, _, h⟩ <;> simp at h <;> omega
      · rw [show PyData.tuple [.str a, .int (b : Nat), .int (c : Nat)] = dTh (a, b, c) from rfl, eqv_th]
        simp
    rw [e1, List.any_eq_true]
    exact ⟨(dTh z).shown, List.mem_append_left _ (List.mem_map.mpr ⟨z, hz, rfl⟩), by simp⟩
  · rw [str_bad e h, List.any_eq_false]
    intro s hs
    rw [beq_iff_eq]
    rcases List.mem_append.mp hs with hs | hs
    · obtain ⟨z, hz, rfl⟩ := List.mem_map.mp hs
      exact fun q => str_shown hb hf h hz (e := dTh z) (by unfold wrdD; simp) q.symm
    · obtain ⟨z, hz, rfl⟩ := List.mem_map.mp hs
      exact fun q => str_shown hb hf h hz (e := .list (itsD (dTh z))) (by unfold wrdD; simp) q.symm
theorem lst_ok : ((thM 6 4 3 2).all fun z => smlB (.list (itsD (dTh z)))) = true := by decide +kernel
theorem sml_lst {t n m k : Nat} (hb : ShB t n m k) {z : Th} (hz : z ∈ thM t n m k) : Sml (.list (itsD (dTh z))) := sml_of (List.all_eq_true.mp lst_ok z (th_uni hb.t.2 hb.n.2 hb.m.2 hb.k.2 hz))
theorem fm_mapS {α : Type} (f : α → PyData) : ∀ l : List α, (l.map fun z => some (f z)).filterMap id = l.map f
  | [] => rfl
  | a :: l => by rw [List.map_cons, List.filterMap_cons_some (f := id) rfl, fm_mapS f l]; rfl
theorem any_words (l : List Str) (x : Str) : (l.map PyData.str).any (fun z => PyData.eqv z (.str x)) = l.any (fun s => s == x) := by
  rw [List.any_map]
  rfl
theorem plain_strs : ∀ l : List Str, PyData.plainAll (l.map PyData.str) = true
  | [] => rfl
  | a :: l => by
    show (true && PyData.plainAll (l.map PyData.str)) = true
    rw [plain_strs l]; rfl
theorem ben_its {t n m k : Nat} {d : PyData} (h : (∃ es, d = .list es ∧ es.length ≤ 30 ∧ ∀ e ∈ es, ItO t n m k e) ∨ d ∈ plain7) : (itsD d).length ≤ 30 ∧ ∀ e ∈ itsD d, ItO t n m k e := by
  rcases h with ⟨es, rfl, l, h⟩ | h
  · exact ⟨l, h⟩
  · have e : itsD d = [] := by
      unfold plain7 at h
      simp only [List.mem_cons, List.not_mem_nil, or_false] at h
      rcases h with rfl | rfl | rfl | rfl | rfl | rfl | rfl <;> rfl
    rw [e]
    exact ⟨Nat.zero_le _, fun e h => absurd h List.not_mem_nil⟩
theorem fm_filter {α : Type} (p : α → Bool) (f : α → PyData) : ∀ l : List α, (l.map fun z => if p z = true then some (f z) else none).filterMap id = (l.filter p).map f
  | [] => rfl
  | a :: l => by
    cases h : p a with
    | true => rw [List.map_cons, h, if_pos rfl, List.filterMap_cons_some (f := id) rfl, fm_filter p f l, List.filter_cons_of_pos h]; rfl
    | false => rw [List.map_cons, h, if_neg Bool.false_ne_true, List.filterMap_cons_none (f := id) rfl, fm_filter p f l, List.filter_cons_of_neg (by rw [h]; decide)]
def spFau (K : PySem.W.Frag) : Sp := fun vs H Q _ => ∃ (S : Addr → Prop) (fg : V) (L : Addr) (xs : List V) (ds : List PyData) (t n m k : Nat), vs = [fg, .ref L] ∧ Dq K S H fg (figD t n m k) ∧ ShB t n m k ∧ Al S H ∧ H L = some (.lst xs) ∧ DqAll K S H xs ds ∧ BenD t n m k ds ∧
  ∀ (y : V) (H' : Hp), Dq K S H' y (toldF (fltM t n m k ds)) → Same H H' → Q y H'
theorem ok_fau (T : Top K mg) {f : Addr} {fd : FuncData} (F : FnP K "_law_fault" s__law_fault f fd) : FnG P w K mg base CX0 2 f fd P__law_fault (spFau K) := by
  have C__law_things := c_lth (P := P) (w := w) (base := base) T
  refine FunD.okG F sc__law_fault (fun vs H Q E h => ?_) (fun cdv A outer s H vs Q E hr hgd h => ?_)
  · obtain ⟨S, fg, L, xs, ds, t, n, m, k, rfl, _⟩ := h
    rfl
  · obtain ⟨S, fg, L, xs, ds, t, n, m, k, rfl, hf, hb, al, eL, hds, bd, q⟩ := h
    refine ⟨_, PSs.nox (pss_cons (ps_set (i := 2) sc__law_fault.nd rfl (by first | exact Or.inl rfl | exact Or.inr rfl) (pe_cal C__law_things (hr.mono (by first | decide | omega)) (by rfl) (pa_cons (pv 0) pa_nil)))
    (pss_cons (ps_set (i := 3) sc__law_fault.nd rfl (by first | exact Or.inl rfl | exact Or.inr rfl) (pe_op op_cat (pe_lc (own := [("_law_part", 4)]) (g := gName 4) (by rfl) sc__law_fault.nd (k_pil (K := K) (by rfl) (pv 2)) (blkOk_by (own := [("_law_part", 4)]) (N := N__law_fault) (sc := defScope s__law_fault) (by decide +kernel)) (fun _ _ _ _ _ => pg_name (i := 4) sc__law_fault.nd rfl (by first | exact Or.inl rfl | exact Or.inr rfl)) (fun _ _ _ _ _ => pts_nil) (fun _ _ _ _ _ => (pe_callB (k_reprD (K := K) (by rfl) hgd hr.units) (by rfl) T.z_repr (by decide +kernel) (pa_cons (pv 4) pa_nil)))) (pe_lc (own := [("_law_part", 4)]) (g := gName 4) (by rfl) sc__law_fault.nd (k_pil (K := K) (by rfl) (pv 2)) (blkOk_by (own := [("_law_part", 4)]) (N := N__law_fault) (sc := defScope s__law_fault) (by decide +kernel)) (fun _ _ _ _ _ => pg_name (i := 4) sc__law_fault.nd rfl (by first | exact Or.inl rfl | exact Or.inr rfl)) (fun _ _ _ _ _ => pts_nil) (fun _ _ _ _ _ => (pe_callB (k_reprD (K := K) (by rfl) hgd hr.units) (by rfl) T.z_repr (by decide +kernel) (pa_cons (pe_callTy (k_list (K := K) (by rfl)) (by rfl) T.z_list (by decide +kernel) (pa_cons (pv 4) pa_nil)) pa_nil))))))
    (pss_cons (ps_if (pt_not (pt_chain op_le op_le pe_int (pe_callB (k_len (K := K) (by rfl)) (by rfl) T.z_len (by decide +kernel) (pa_cons (pv 1) pa_nil)) pe_int))
    (pss_one (ps_ret (pe_tup (pa_cons pe_str (pa_cons pe_str pa_nil)))))
    pss_nil)
    (pss_cons (ps_for PassesOwn.never rfl (pi_range1 (by rfl) T.z_range (pa_cons (pe_callB (k_len (K := K) (by rfl)) (by rfl) T.z_len (by decide +kernel) (pa_cons (pv 1) pa_nil)) pa_nil)) (pg_name (i := 5) sc__law_fault.nd rfl (by first | exact Or.inl rfl | exact Or.inr rfl))
    (pss_cons (ps_if (pt_not (pt_val (pe_callB (k_isiT (K := K) (by rfl)) (by rfl) T.z_isinstance (by decide +kernel) (pa_cons (pe_ix (k_ix (K := K) (by rfl)) (pv 1) (pv 5) (fun _ _ => rfl)) (pa_cons (pe_tup (pa_cons (pe_bltn (v := .ty "list") (u := .type "list") (by rfl) T.z_list (by decide +kernel) rfl) (pa_cons (pe_bltn (v := .ty "tuple") (u := .type "tuple") (by rfl) T.z_tuple (by decide +kernel) rfl) pa_nil))) pa_nil)))))
    (pss_one (ps_ret (pe_tup (pa_cons pe_str (pa_cons (pv 5) (pa_cons (pe_un un_neg pe_int) pa_nil))))))
    pss_nil)
    (pss_one (ps_for PassesOwn.never rfl (pi_range1 (by rfl) T.z_range (pa_cons (pe_callB (k_len (K := K) (by rfl)) (by rfl) T.z_len (by decide +kernel) (pa_cons (pe_ix (k_ix (K := K) (by rfl)) (pv 1) (pv 5) (fun _ _ => rfl)) pa_nil)) pa_nil)) (pg_name (i := 6) sc__law_fault.nd rfl (by first | exact Or.inl rfl | exact Or.inr rfl))
    (pss_one (ps_if (pt_cmpR (op_notInP (K := K) (by rfl) hr.units) (pe_callB (k_reprD (K := K) (by rfl) hgd hr.units) (by rfl) T.z_repr (by decide +kernel) (pa_cons (pe_ix (k_ix (K := K) (by rfl)) (pe_ix (k_ix (K := K) (by rfl)) (pv 1) (pv 5) (fun _ _ => rfl)) (pv 6) (fun _ _ => rfl)) pa_nil)) (pv 3) (by first | rfl | exact nomark _))
    (pss_one (ps_ret (pe_tup (pa_cons pe_str (pa_cons (pv 5) (pa_cons (pv 6) pa_nil))))))
    pss_nil))))))
    (pss_cons (ps_set (i := 7) sc__law_fault.nd rfl (by first | exact Or.inl rfl | exact Or.inr rfl) (pe_lst pa_nil))
    (pss_cons (ps_for PassesOwn.never rfl (k_pil (K := K) (by rfl) (pv 1)) (pg_name (i := 8) sc__law_fault.nd rfl (by first | exact Or.inl rfl | exact Or.inr rfl))
    (pss_one (ps_set (i := 7) sc__law_fault.nd rfl (by first | exact Or.inl rfl | exact Or.inr rfl) (pe_op op_cat (pv 7) (pe_lc (own := [("_law_one", 9)]) (g := gName 9) (by rfl) sc__law_fault.nd (k_piB (K := K) (by rfl) (pv 8)) (blkOk_by (own := [("_law_one", 9)]) (N := N__law_fault) (sc := defScope s__law_fault) (by decide +kernel)) (fun _ _ _ _ _ => pg_name (i := 9) sc__law_fault.nd rfl (by first | exact Or.inl rfl | exact Or.inr rfl)) (fun _ _ _ _ _ => pts_nil) (fun _ _ _ _ _ => (pe_callTy (k_tupleB (K := K) (by rfl)) (by rfl) T.z_tuple (by decide +kernel) (pa_cons (pv 9) pa_nil))))))))
    (pss_cons (ps_setLc (i := 10) (own := [("_law_part", 4)]) (g := gName 4) (by rfl) sc__law_fault.nd rfl rfl (sw_true rfl rfl rfl (by decide +kernel)) (k_pil (K := K) (by rfl) (pv 2)) (blkOk_by (own := [("_law_part", 4)]) (N := N__law_fault) (sc := defScope s__law_fault) (by decide +kernel)) (fun _ _ _ _ _ => pg_name (i := 4) sc__law_fault.nd rfl (by first | exact Or.inl rfl | exact Or.inr rfl)) (fun _ _ _ _ _ => (pts_one (pt_cmpR op_ne (k_bm (K := K) (by rfl) PySem.F.plainAttrs_list PySem.F.slot_list_count PySem.F.type_list_count (mt_countP (K := K) (by rfl) hr.units) (pv 7) (pa_cons (pv 4) pa_nil)) pe_int (nomark _)))) (fun _ _ _ _ _ => (pv 4)))
    (pss_one (ps_ret (pe_ifExp (pt_cmpR (k_neD (K := K) (by rfl) hr.units) (pv 10) (pe_lst pa_nil) (nomark _)) (pe_tup (pa_cons pe_str (pa_cons (pe_ix (k_ix (K := K) (by rfl)) (pv 10) pe_int (fun _ _ => rfl)) pa_nil))) pe_non)))))))))), ?_⟩
    try simp only [cxK]
    rw [show L2.start N__law_fault [fg, .ref L] = [some fg, some (.ref L), none, none, none, none, none, none, none, none, none] from rfl]
    walk_at "go"
    refine ⟨S, fg, t, n, m, k, rfl, hf, hb, al, fun z H1 hz s1 => ?_⟩
    obtain ⟨pl, ps, rfl, ep, dps, np⟩ := hz.list_inv
    have al1 := al.sm s1
    walk_at "go"
    have tl : (thM t n m k).length ≤ 24 := by
      rw [th_all]
      have bt := hb.t
      have tm : m * (k + n) ≤ 3 * 6 := Nat.mul_le_mul hb.m.2 (by have := hb.k; have := hb.n; omega)
      omega
    have lp : ps.length = (thM t n m k).length := by rw [dps.len, List.length_map]
    refine lcQL (K := K) (S := S) (os := (thM t n m k).map fun z => some (.str (dTh z).shown)) (.of ep) al1 (by rw [List.length_map]; omega) (by rw [List.length_map]; exact lp) (σ0 := [some fg, some (V.ref L), some (V.ref pl), none, none, none, none, none, none, none, none]) rfl (fun i x o hx ho => ?_) (fun p1 ys1 H2 hp1 e1 d1 s2 => ?_)
    · intro D H' N hD s al' tr kk _
      rw [List.getElem?_map, Option.map_eq_some_iff] at ho
      obtain ⟨zt, hzt, rfl⟩ := ho
      obtain ⟨d, hd, dx⟩ := dps.at hx
      rw [List.getElem?_map, hzt] at hd
      obtain rfl := Option.some.inj hd
      have sw := (sml_it hb (.inl (List.mem_map.mpr ⟨zt, List.mem_of_getElem? hzt, rfl⟩))).sw
      walk_at "go"
      refine g_reprD (tr dx).dp sw.sh sw.nd (Nat.le_trans sw.dp (by decide)) (Nat.le_trans sw.ln (by decide)) ?_
      exact kk _ rfl _ _ (.str _) (fun _ _ e => e)
    · rw [fm_mapS] at d1
      have e2 := s2 _ _ ep
      have dps2 := dps.sm s2
      have al2 := al1.sm s2
      walk_at "go"
      refine lcQL (K := K) (S := S) (os := (thM t n m k).map fun z => some (.str (PyData.list (itsD (dTh z))).shown)) (.of e2) al2 (by rw [List.length_map]; omega) (by rw [List.length_map]; exact lp) (σ0 := [some fg, some (V.ref L), some (V.ref pl), none, none, none, none, none, none, none, none]) rfl (fun i x o hx ho => ?_) (fun p2 ys2 H3 hp2 e3 d2 s3 => ?_)
      · intro D H' N hD s al' tr kk _
        rw [List.getElem?_map, Option.map_eq_some_iff] at ho
        obtain ⟨zt, hzt, rfl⟩ := ho
        obtain ⟨d, hd, dx⟩ := dps2.at hx
        rw [List.getElem?_map, hzt] at hd
        obtain rfl := Option.some.inj hd
        have sw := (sml_lst hb (List.mem_of_getElem? hzt)).sw
        obtain ⟨b, zs, rfl, sq, dz⟩ := (tr dx).tup_inv
        walk_at "go"
        rename_i p hp
        have dn : Dq K (SD S D) (upd H' p (.lst zs)) (.ref p) (.list (itsD (dTh zt))) := dq_new (al'.no hp) upd_same (dz.sm (same_new hp))
        refine g_reprD dn.dp sw.sh sw.nd (Nat.le_trans sw.dp (by decide)) (Nat.le_trans sw.ln (by decide)) ?_
        exact kk _ rfl _ _ (.str _) (same_new hp)
      · rw [fm_mapS] at d2
        have ly1 := d1.len
        have ly2 := d2.len
        rw [List.length_map] at ly1 ly2
        refine g_cat (s3 _ _ e1) e3 (by rw [ly1, ly2]; exact Nat.le_trans (show _ ≤ 48 by omega) (by decide)) fun pw hpw => ?_
        have s4 := same_new hpw (o := .lst (ys1 ++ ys2))
        have d4 : DqAll K S (upd H3 pw (.lst (ys1 ++ ys2))) (ys1 ++ ys2) (((((thM t n m k).map fun z => (dTh z).shown) ++ ((thM t n m k).map fun z => (PyData.list (itsD (dTh z))).shown))).map PyData.str) := by
          have z := (d1.sm (s3.trans s4)).app (d2.sm s4)
          rw [List.map_append, List.map_map, List.map_map]
          exact z
        have e4 : (upd H3 pw (.lst (ys1 ++ ys2))) pw = _ := upd_same
        have e4p : (upd H3 pw (.lst (ys1 ++ ys2))) pl = _ := s4 _ _ (s3 _ _ e2)
        have s04 := ((s1.trans s2).trans s3).trans s4
        have dps4 := dps2.sm (s3.trans s4)
        clear d1 d2 e3 hp2 e1 hp1 hpw dps2 dps ep hz e2 al1 al2 ly1 ly2
        generalize upd H3 pw (.lst (ys1 ++ ys2)) = H4 at s4 d4 e4 e4p s04 dps4 ⊢
        generalize ys1 ++ ys2 = yw at d4 e4
        clear s4 s3 s2 s1
        have eL4 := s04 _ _ eL
        have al4 := al.sm s04
        have hds4 := hds.sm s04
        have lx := hds.len
        have few := bd.1
        walk_at "go"
        have bad : ¬ (1 ≤ ds.length ∧ ds.length ≤ 5) → ∀ (p : Addr) (H' : Hp), H' p = none → Same H H' → Q (.ref p) (upd H' p (.tup [.str (Str.ofString "setting"), .str (Str.ofString "machines")])) := fun no p H' hp s => by
          rw [flt_set no] at q
          exact q _ _ (dq_newT ((al.sm s).no hp) upd_same (.cons (.str _) (.cons (.str _) .nil))) (s.trans (same_new hp))
        refine g_iteD (fun a1 => ?_) fun a1 => ?_
        rotate_left
        · walk_at "go"
          rename_i p hp
          exact bad (by omega) p _ hp s04
        · walk_at "go"
          refine g_iteN (fun a2 => ?_) fun a2 => ?_
          · walk_at "go"
            rename_i p hp
            exact bad (by omega) p _ hp s04
          · clear bad
            have ok5 : 1 ≤ ds.length ∧ ds.length ≤ 5 := by omega
            walk_at "go"
            rw [Int.toNat_natCast]
            refine forR ⟨fun i σ' H' => ∃ y5 y6, σ' = [some fg, some (.ref L), some (.ref pl), some (.ref pw), none, y5, y6, none, none, none, none] ∧ (∀ j e, j < i → ds[j]? = some e → wiV t n m k e = .non) ∧ Same H4 H', ⟨none, none, rfl, fun j e h => absurd h (Nat.not_lt_zero _), fun _ _ e => e⟩, ?_, ?_⟩
            · rintro i σ' H5 hi ⟨y5, y6, rfl, hj, s5⟩
              have hx := List.getElem?_eq_getElem hi
              generalize xs[i] = x at hx
              obtain ⟨d, hd, hq⟩ := hds4.at hx
              have eL5 := s5 _ _ eL4
              rw [Int.zero_add]
              walk_at "go"
              refine g_qix (.inl (.of eL5)) (atI_nat hx) ?_
              walk_at "go"
              rename_i p hp
              have s6 := s5.trans (same_new hp (o := .tup [.ty "list", .ty "tuple"]))
              refine g_isSeq (hq.sm s6).dp upd_same ?_
              generalize upd H5 p (.tup [.ty "list", .ty "tuple"]) = H6 at s6 ⊢
              clear hp s5 eL5
              refine ⟨_, rfl, ?_⟩
              have hjl : ∀ (j : Nat) (e : PyData), j < i → ds[j]? = some e → wiV t n m k e = .non := hj
              cases isq : isSeqD d with
              | false =>
                have ew : wiV t n m k d = .int (-1) := by unfold wiV; rw [isq]; rfl
                have ef : fltM t n m k ds = .thing i (.int (-1)) := by
                  rw [← ew]
                  exact flt_thing ok5 hd hjl (by rw [ew]; exact fun h => by cases h)
                rw [ef] at q
                walk_at "go"
                rename_i p hp
                exact q _ _ (dq_newT ((al4.sm s6).no hp) upd_same (.cons (.str _) (.cons (.int _) (.cons (.int _) .nil)))) ((s04.trans s6).trans (same_new hp))
              | true =>
                obtain ⟨b, ys, rfl, sq, dy⟩ := hq.sq2 isq
                obtain ⟨il, io⟩ := ben_its (bd.2 d (List.mem_of_getElem? hd))
                have ly := dy.len
                have eL6 := s6 _ _ eL4
                have sq6 := sq H6 (fun b o _ e => s6 b o e)
                walk_at "go"
                refine g_qix (.inl (.of eL6)) (atI_nat hx) ?_
                walk_at "go"
                rw [Int.toNat_natCast]
                refine forR ⟨fun u σ' H' => ∃ y6, σ' = [some fg, some (.ref L), some (.ref pl), some (.ref pw), none, some (.int (i : Nat)), y6, none, none, none, none] ∧ (∀ j e, j < u → (itsD d)[j]? = some e → isThD t n m k e = true) ∧ Same H4 H', ⟨_, rfl, fun j e h => absurd h (Nat.not_lt_zero _), s6⟩, ?_, ?_⟩
                · rintro u σ' H7 hu ⟨y6, rfl, hk, s7⟩
                  have hv := List.getElem?_eq_getElem hu
                  generalize ys[u] = v at hv
                  obtain ⟨e, he, hve⟩ := dy.at hv
                  have eL7 := s7 _ _ eL4
                  have sq7 := sq H7 (fun b o _ e => s7 b o e)
                  have em := List.mem_of_getElem? he
                  have sm := sml_it hb (io e em)
                  rw [Int.zero_add]
                  walk_at "go"
                  refine g_qix (.inl (.of eL7)) (atI_nat hx) ?_
                  walk_at "go"
                  refine g_qix sq7 (atI_nat hv) ?_
                  walk_at "go"
                  refine g_reprD (hve.sm s7).dp sm.sw.sh sm.sw.nd (Nat.le_trans sm.sw.dp (by decide)) (Nat.le_trans sm.sw.ln (by decide)) ?_
                  walk_at "go"
                  refine g_inP (.str _) (.inl (.lst (.of (s7 _ _ e4)) (d4.sm s7).dp)) rfl (plain_strs _) (Nat.zero_le _) ?_
                  rw [any_words, it_word hb (io e em)]
                  refine ⟨_, rfl, ?_⟩
                  cases ie : isThD t n m k e with
                  | true =>
                    walk_at "go"
                    refine ⟨_, rfl, fun j e2 hj2 he2 => ?_, s7⟩
                    rcases Nat.lt_or_ge j u with c | c
                    · exact hk j e2 c he2
                    · obtain rfl : j = u := by omega
                      obtain rfl := Option.some.inj (he.symm.trans he2)
                      exact ie
                  | false =>
                    have ew : wiV t n m k d = .int (u : Nat) := by
                      have z : (itsD d).findIdx? (fun e => !isThD t n m k e) = some u := by
                        obtain ⟨ul, hue⟩ := List.getElem?_eq_some_iff.mp he
                        rw [List.findIdx?_eq_some_iff_getElem]
                        refine ⟨ul, by rw [hue, ie]; rfl, fun j hju => ?_⟩
                        rw [hk j _ hju (List.getElem?_eq_getElem (by omega))]
                        decide
                      unfold wiV
                      rw [isq, z]
                      rfl
                    have ef : fltM t n m k ds = .thing i (.int (u : Nat)) := by
                      rw [← ew]
                      exact flt_thing ok5 hd hjl (by rw [ew]; exact fun h => by cases h)
                    rw [ef] at q
                    walk_at "go"
                    rename_i p hp
                    exact q _ _ (dq_newT ((al4.sm s7).no hp) upd_same (.cons (.str _) (.cons (.int _) (.cons (.int _) .nil)))) ((s04.trans s7).trans (same_new hp))
                · rintro σ' H7 ⟨y6, rfl, hk, s7⟩
                  refine ⟨_, _, rfl, fun j e hj2 he => ?_, s7⟩
                  rcases Nat.lt_or_ge j i with c | c
                  · exact hjl j e c he
                  · obtain rfl : j = i := by omega
                    obtain rfl := Option.some.inj (hd.symm.trans he)
                    have z : (itsD d).findIdx? (fun e => !isThD t n m k e) = none := by
                      rw [List.findIdx?_eq_none_iff]
                      intro e he
                      obtain ⟨j, hj⟩ := List.getElem?_of_mem he
                      rw [hk j e (by rw [ly]; exact (List.getElem?_eq_some_iff.mp hj).1) hj]
                      rfl
                    unfold wiV
                    rw [isq, z]
                    rfl
            · rintro σ' H5 ⟨y5, y6, rfl, hj, s5⟩
              have all : ∀ e ∈ ds, wiV t n m k e = .non := fun e he => by
                obtain ⟨j, hje⟩ := List.getElem?_of_mem he
                exact hj j e (by rw [lx]; exact (List.getElem?_eq_some_iff.mp hje).1) hje
              rw [flt_none ok5 all] at q
              have s05 := s04.trans s5
              have macs : ∀ e ∈ ds, MacD e ∧ (itsD e).length ≤ 30 := fun e he => by
                have z := (ben_its (bd.2 e he)).1
                exact ⟨wi_mac (all e he) (by omega), z⟩
              have eL5 := s5 _ _ eL4
              have hds5 := hds4.sm s5
              have al5 := al4.sm s5
              walk_at "go"
              rename_i D hD
              refine forL (xs := xs) ⟨fun i σ' H' => ∃ D ys y8, σ' = [some fg, some (.ref L), some (.ref pl), some (.ref pw), none, y5, y6, some (.ref D), y8, none, none] ∧ H' D = some (.lst ys) ∧ DqAll K S H' ys ((ds.take i).flatMap fun e => (itsD e).map tupD) ∧ Same H5 H', ⟨D, [], none, rfl, upd_same, .nil, same_new hD⟩, ?_, ?_, ?_⟩
              · rintro i σ' H' _ ⟨D, ys, y8, rfl, e, dd, s⟩
                exact .of (s _ _ eL5)
              · rintro i x σ' H6 hx ⟨D, ys, y8, rfl, eD, dd, s6⟩
                obtain ⟨d, hd, hq⟩ := hds5.at hx
                obtain ⟨⟨m1, m2, m3⟩, m4⟩ := macs d (List.mem_of_getElem? hd)
                obtain ⟨b, zs, rfl, sq, dz⟩ := (hq.sm s6).sq m1
                have al6 := al5.sm s6
                have lD := dd.len
                have fl : ((ds.take i).flatMap fun e => (itsD e).map tupD).length ≤ 6 * 30 := Nat.le_trans (flat_len (c := 30) fun e he => by
                  rw [List.length_map]
                  exact (macs e (List.mem_of_mem_take he)).2) (Nat.mul_le_mul_right 30 (by rw [List.length_take]; omega))
                walk_at "go"
                refine lcFn (f := tupD) sq dz al6 m2 (σ0 := [some fg, some (V.ref L), some (V.ref pl), some (V.ref pw), none, y5, y6, some (V.ref D), some (V.ref b), none, none]) rfl (fun i x d D H' N hd hm hD s1 hal hq tr k => ?_) (fun p1 zs1 H7 h1 h2 h3 s7 => ?_)
                · walk_at "go"
                  obtain ⟨n1, n2⟩ := m3 _ hm
                  cases d with
                  | list ds =>
                    obtain ⟨b2, zs, rfl, hb2, hds, _⟩ := hq.list_inv
                    refine g_tupBL (.of hb2) fun t ht => ?_
                    exact k _ _ (dq_newT (hal.no ht) upd_same (hds.sm (same_new ht))) (same_new ht)
                  | tuple ds =>
                    obtain ⟨b2, zs, rfl, hb2, hds⟩ := hq.tup_inv
                    exact g_tupBT hb2 (k _ _ hq fun _ _ e => e)
                  | _ => cases n1
                · have l1 := h3.len
                  rw [List.length_map] at l1
                  refine g_cat (s7 _ _ eD) h2 (by rw [lD, l1]; exact Nat.le_trans (show _ ≤ 210 by omega) (by decide)) fun p hp => ?_
                  walk_at "go"
                  refine ⟨p, _, _, rfl, upd_same, ?_, (s6.trans s7).trans (same_new hp)⟩
                  rw [List.take_add_one, hd]
                  simp only [Option.toList_some, List.flatMap_append, List.flatMap_cons, List.flatMap_nil, List.append_nil]
                  exact ((dd.sm s7).app h3).sm (same_new hp)
              · rintro σ' H6 ⟨D, ys, y8, rfl, eD, dd, s6⟩
                rw [lx, List.take_length] at dd
                have s56 := s5.trans s6
                have ep6 := s56 _ _ e4p
                have dps6 := dps4.sm s56
                have al6 := al4.sm s56
                have pln : (PyData.tuple ds).plain = true := plainAll_of fun e he => (ben_1 hb (bd.2 e he)).1
                walk_at "go"
                refine lcQL (K := K) (S := S) (os := (thM t n m k).map fun z => if decide (cntD (.tuple ds) z ≠ 1) = true then some (dTh z) else none) (.of ep6) al6 (by rw [List.length_map]; omega) (by rw [List.length_map]; exact lp) (σ0 := [some fg, some (V.ref L), some (V.ref pl), some (V.ref pw), none, y5, y6, some (V.ref D), y8, none, none]) rfl (fun i x o hx ho => ?_) (fun pr zr H7 hpr er dr s7 => ?_)
                · intro D2 H' N hD2 s' al' tr kk kn
                  rw [List.getElem?_map, Option.map_eq_some_iff] at ho
                  obtain ⟨zt, hzt, rfl⟩ := ho
                  obtain ⟨d, hd, dx⟩ := dps6.at hx
                  rw [List.getElem?_map, hzt] at hd
                  obtain rfl := Option.some.inj hd
                  have s'' : Same H6 H' := s'
                  walk_at "go"
                  refine g_countP (.lst (.of (s'' _ _ eD)) (dd.sm s'').dp) (tr dx).dp rfl (items_plain pln) (dTh_depth zt) ?_
                  walk_at "go"
                  show TurnC (tVar 4) _ D2 N (!decide (((cntD (.tuple ds) zt : Nat) : Int) = 1)) H'
                  by_cases c : cntD (.tuple ds) zt = 1
                  · rw [c]
                    exact g_turnCb (b := !decide (((1 : Nat) : Int) = 1)) (fun h => absurd h (by decide)) fun _ => kn (by rw [if_neg (by simp [c])]) H' (fun _ _ e => e)
                  · rw [decide_eq_false (show ¬ ((cntD (.tuple ds) zt : Nat) : Int) = 1 by omega)]
                    refine g_turnCt ?_
                    walk_at "go"
                    exact kk _ (by rw [if_pos (decide_eq_true c)]) _ _ (tr dx) (fun _ _ e => e)
                · rw [fm_filter (fun z => decide (cntD (.tuple ds) z ≠ 1)) dTh] at dr
                  have s07 := ((s04.trans s5).trans s6).trans s7
                  have al7 := al6.sm s7
                  have shp : SeqAt.shaped (.list (((thM t n m k).filter fun z => decide (cntD (.tuple ds) z ≠ 1)).map dTh)) = true := by
                    have io : ∀ e ∈ ((thM t n m k).filter fun z => decide (cntD (.tuple ds) z ≠ 1)).map dTh, ItO t n m k e := fun e he => by
                      obtain ⟨z, hz, rfl⟩ := List.mem_map.mp he
                      exact .inl (List.mem_map.mpr ⟨z, (List.mem_filter.mp hz).1, rfl⟩)
                    exact shaped_its hb io
                  have hw : wrongM t n m k (.tuple ds) = ((thM t n m k).filter fun z => decide (cntD (.tuple ds) z ≠ 1)).head? := by
                    unfold wrongM
                    rw [List.head?_filter]
                  rw [hw] at q
                  clear hw
                  generalize ((thM t n m k).filter fun z => decide (cntD (.tuple ds) z ≠ 1)) = wz at dr shp q
                  walk_at "go"
                  rename_i p hp
                  have s8 := same_new hp (o := .lst [])
                  refine g_neNil (.lst (.of (s8 _ _ er)) (dr.sm s8).dp) shp upd_same ?_
                  have er8 := s8 _ _ er
                  have dr8 := dr.sm s8
                  have s08 := s07.trans s8
                  generalize upd H7 p (.lst []) = H8 at s8 er8 dr8 s08 ⊢
                  refine ⟨_, rfl, ?_⟩
                  cases wz with
                  | nil =>
                    rw [decide_eq_false (by simp)]
                    walk_at "go"
                    exact q _ _ .non s08
                  | cons z wz =>
                    rw [decide_eq_true (by simp)]
                    obtain ⟨v, zs, rfl, hv⟩ : ∃ v zs, zr = v :: zs ∧ Dq K S H8 v (dTh z) := by
                      cases dr8 with
                      | cons h _ => exact ⟨_, _, rfl, h⟩
                    walk_at "go"
                    rename_i p9 hp9
                    have s9 := s08.trans (same_new hp9 (o := .tup [V.str (Str.ofString "split"), v]))
                    exact q _ _ (dq_newT ((al.sm s08).no hp9) upd_same (.cons (.str _) (.cons (hv.sm (same_new hp9)) .nil))) s9
theorem c_fau (T : Top K mg) : CalG P w K mg base "_law_fault" 2 P__law_fault (spFau K) := calg_mk T.f__law_fault (ok_fau T) (fun F => F.bindsN fun _ _ _ _ _ _ us hl => match us, hl with | [_, _], _ => rfl)
end

set_option Elab.async false
set_option linter.all false
set_option maxRecDepth 100000
set_option maxHeartbeats 4000000
open PySem PySem.Spec L2
section
variable {K : PySem.W.Frag}
/-! what is wrong with machines of things -/
theorem th_counts : ∀ t : Nat, t < 7 → ∀ n : Nat, n < 5 → ∀ m : Nat, m < 4 → ∀ k : Nat, k < 3 → ((thM t n m k).all fun z => decide ((thM t n m k).count z = 1)) = true := by decide +kernel
theorem th_count {t n m k : Nat} (hb : ShB t n m k) : ∀ z ∈ thM t n m k, (thM t n m k).count z = 1 := fun z hz => by
  have h := th_counts t (by have := hb.t.2; omega) n (by have := hb.n.2; omega) m (by have := hb.m.2; omega) k (by have := hb.k.2; omega)
  exact of_decide_eq_true (List.all_eq_true.mp h z hz)
theorem th_heads : ∀ t : Nat, t < 7 → ∀ n : Nat, n < 5 → ∀ m : Nat, m < 4 → ∀ k : Nat, k < 3 → (decide (m = 0) || (decide (k = 0) || decide ((thM t n m k).head? = some (Str.ofString "head", 0, 0)))) = true := by decide +kernel
theorem th_head {t n m k : Nat} (hb : ShB t n m k) : (thM t n m k).head? = some (Str.ofString "head", 0, 0) := by
  have h := th_heads t (by have := hb.t.2; omega) n (by have := hb.n.2; omega) m (by have := hb.m.2; omega) k (by have := hb.k.2; omega)
  rw [decide_eq_false (by have := hb.m.1; omega), decide_eq_false (by have := hb.k.1; omega), Bool.false_or, Bool.false_or] at h
  exact of_decide_eq_true h
theorem th_isD {t n m k : Nat} (hb : ShB t n m k) {z : Th} (hz : z ∈ thM t n m k) : isThD t n m k (dTh z) = true := by
  rw [← it_word hb (.inl (List.mem_map.mpr ⟨z, hz, rfl⟩)), List.any_eq_true]
  exact ⟨(dTh z).shown, List.mem_append_left _ (List.mem_map.mpr ⟨z, hz, rfl⟩), by simp⟩
theorem wi_ths {t n m k : Nat} (hb : ShB t n m k) {d : PyData} {zs : List Th} (sd : isSeqD d = true) (e : itsD d = zs.map dTh) (h : ∀ z ∈ zs, z ∈ thM t n m k) : wiV t n m k d = .non := by
  have z : (itsD d).findIdx? (fun e => !isThD t n m k e) = none := by
    rw [List.findIdx?_eq_none_iff]
    intro y hy
    rw [e] at hy
    obtain ⟨u, hu, rfl⟩ := List.mem_map.mp hy
    rw [th_isD hb (h u hu)]
    rfl
  unfold wiV
  rw [sd, z]
  rfl
theorem flat_ths : ∀ {ds : List PyData} {zss : List (List Th)}, ds.map itsD = zss.map (fun zs => zs.map dTh) → (ds.flatMap fun e => (itsD e).map tupD) = zss.flatten.map dTh
  | [], [], _ => rfl
  | [], _ :: _, h => by cases h
  | _ :: _, [], h => by cases h
  | d :: ds, zs :: zss, h => by
    rw [List.map_cons, List.map_cons] at h
    injection h with h1 h2
    rw [List.flatMap_cons, flat_ths h2, h1, List.flatten_cons, List.map_append]
    congr 1
    rw [List.map_map]
    rfl
theorem cnt_eqv (z : Th) : ∀ zs : List Th, (zs.map dTh).countP (fun y => PyData.eqv y (dTh z)) = zs.count z
  | [] => rfl
  | u :: us => by
    rw [List.map_cons, List.countP_cons, List.count_cons, cnt_eqv z us, eqv_th]
    by_cases h : u = z
    · rw [if_pos (by rw [decide_eq_true h]), if_pos (by simpa using h)]
    · rw [if_neg (by rw [decide_eq_false h]; decide), if_neg (by simpa using h)]
theorem cnt_ths {ds : List PyData} {zss : List (List Th)} (h : ds.map itsD = zss.map (fun zs => zs.map dTh)) (z : Th) : cntD (.tuple ds) z = zss.flatten.count z := by
  unfold cntD itemsD
  rw [show itsD (.tuple ds) = ds from rfl, flat_ths h, cnt_eqv]
theorem flt_ths {t n m k : Nat} (hb : ShB t n m k) {ds : List PyData} {zss : List (List Th)} (h5 : 1 ≤ ds.length ∧ ds.length ≤ 5) (sd : ∀ d ∈ ds, isSeqD d = true) (h : ds.map itsD = zss.map (fun zs => zs.map dTh)) (th : ∀ zs ∈ zss, ∀ z ∈ zs, z ∈ thM t n m k) :
    fltM t n m k ds = (match (thM t n m k).find? fun z => decide (zss.flatten.count z ≠ 1) with
      | some z => .split z
      | none => .ok) := by
  have e : wrongM t n m k (.tuple ds) = (thM t n m k).find? fun z => decide (zss.flatten.count z ≠ 1) := by
    unfold wrongM
    congr 1
    funext z
    rw [cnt_ths h]
  have all : ∀ d ∈ ds, wiV t n m k d = .non := fun d hd => by
    have hm : itsD d ∈ zss.map (fun zs => zs.map dTh) := by rw [← h]; exact List.mem_map.mpr ⟨d, hd, rfl⟩
    obtain ⟨zs, hz, e2⟩ := List.mem_map.mp hm
    exact wi_ths hb (sd d hd) e2.symm (th zs hz)
  have z := flt_none h5 all
  rw [e] at z
  refine z.trans ?_
  generalize (thM t n m k).find? _ = o
  cases o <;> rfl
theorem flt_deal {t n m k : Nat} (hb : ShB t n m k) {ds : List PyData} {zss : List (List Th)} (h5 : 1 ≤ ds.length ∧ ds.length ≤ 5) (sd : ∀ d ∈ ds, isSeqD d = true) (h : ds.map itsD = zss.map (fun zs => zs.map dTh)) (pm : zss.flatten.Perm (thM t n m k)) : fltM t n m k ds = .ok := by
  rw [flt_ths hb h5 sd h fun zs hz z hz2 => pm.mem_iff.mp (List.mem_flatten.mpr ⟨zs, hz, hz2⟩)]
  rw [List.find?_eq_none.mpr fun z hz => by rw [pm.count_eq, th_count hb z hz]; decide]
theorem gone_perm {t n m k r : Nat} {z : Th} (hz : (thM t n m k)[r]? = some z) : (z :: (thM t n m k).eraseIdx r).Perm (thM t n m k) := by
  obtain ⟨rl, hr⟩ := List.getElem?_eq_some_iff.mp hz
  rw [List.eraseIdx_eq_take_drop_succ]
  have e : thM t n m k = (thM t n m k).take r ++ z :: (thM t n m k).drop (r + 1) := by
    conv => lhs; rw [← List.take_append_drop r (thM t n m k), List.drop_eq_getElem_cons rl, hr]
  conv => rhs; rw [e]
  exact List.perm_middle.symm
/-- one thing left out -/
theorem flt_gone {t n m k : Nat} (hb : ShB t n m k) {r : Nat} {z : Th} (hz : (thM t n m k)[r]? = some z) : fltM t n m k [.list (((thM t n m k).eraseIdx r).map dTh)] = .split z := by
  obtain ⟨rl, hr⟩ := List.getElem?_eq_some_iff.mp hz
  have pm : (z :: (thM t n m k).eraseIdx r).Perm (thM t n m k) := by
    rw [List.eraseIdx_eq_take_drop_succ]
    have e : thM t n m k = (thM t n m k).take r ++ z :: (thM t n m k).drop (r + 1) := by
      conv => lhs; rw [← List.take_append_drop r (thM t n m k), List.drop_eq_getElem_cons rl, hr]
    conv => rhs; rw [e]
    exact List.perm_middle.symm
  have hm := List.mem_of_getElem? hz
  have cn : ∀ y ∈ thM t n m k, ((thM t n m k).eraseIdx r).count y = if y = z then 0 else 1 := fun y hy => by
    have c := pm.count_eq y
    rw [th_count hb y hy, List.count_cons] at c
    by_cases e : y = z
    · rw [if_pos e]
      rw [if_pos (by simpa using e.symm)] at c
      omega
    · rw [if_neg e]
      rw [if_neg (by simpa using fun h => e h.symm)] at c
      omega
  rw [flt_ths hb (zss := [(thM t n m k).eraseIdx r]) (by simp) (fun d hd => by rw [List.mem_singleton.mp hd]; rfl) rfl fun zs hzs y hy => by
    rw [List.mem_singleton.mp hzs] at hy
    exact List.mem_of_mem_eraseIdx hy]
  have e : (thM t n m k).find? (fun y => decide ([(thM t n m k).eraseIdx r].flatten.count y ≠ 1)) = some z := by
    cases hf : (thM t n m k).find? (fun y => decide ([(thM t n m k).eraseIdx r].flatten.count y ≠ 1)) with
    | none =>
      have := List.find?_eq_none.mp hf z hm
      rw [List.flatten_singleton, cn z hm, if_pos rfl] at this
      exact absurd rfl this
    | some y =>
      have hy := List.mem_of_find?_eq_some hf
      have hp := List.find?_some hf
      rw [List.flatten_singleton, cn y hy] at hp
      by_cases e : y = z
      · rw [e]
      · rw [if_neg e] at hp
        exact absurd hp (by decide)
  rw [e]
theorem flt_empty {t n m k : Nat} (hb : ShB t n m k) : fltM t n m k [.list [], .list [], .list [], .list [], .list []] = .split (Str.ofString "head", 0, 0) := by
  rw [flt_ths hb (zss := [[], [], [], [], []]) (by decide) (fun d hd => by simp only [List.mem_cons, List.not_mem_nil, or_false] at hd; rcases hd with rfl | rfl | rfl | rfl | rfl <;> rfl) rfl fun zs hzs y hy => by
    simp only [List.mem_cons, List.not_mem_nil, or_false] at hzs
    rcases hzs with rfl | rfl | rfl | rfl | rfl <;> exact absurd hy List.not_mem_nil]
  have h := th_head hb
  cases e : thM t n m k with
  | nil => rw [e] at h; cases h
  | cons z zs =>
    rw [e] at h
    obtain rfl := Option.some.inj h
    rfl
theorem mas_ben {t n m k : Nat} (hb : ShB t n m k) {ds : List PyData} (h : BenD t n m k ds) : MasIn ds :=
  ⟨h.1, fun e he => by
    obtain ⟨l, io⟩ := ben_its (h.2 e he)
    exact ⟨by omega, fun z hz => Nat.le_trans (sml_it hb (io z hz)).sw.dp (by decide)⟩, plainAll_of fun e he => (ben_1 hb (h.2 e he)).1⟩
theorem ben_shw {t n m k : Nat} (hb : ShB t n m k) {ds : List PyData} (h : BenD t n m k ds) : Shw 60 1000000 (.list ds) := (shw_list (fun e he => (ben_1 hb (h.2 e he)).2.2) h.1).mono (by decide) (by decide)
theorem th_ben {t n m k : Nat} {zs : List Th} (l : zs.length ≤ 30) (h : ∀ z ∈ zs, z ∈ thM t n m k) : (∃ es, PyData.list (zs.map dTh) = .list es ∧ es.length ≤ 30 ∧ ∀ e ∈ es, ItO t n m k e) ∨ PyData.list (zs.map dTh) ∈ plain7 :=
  .inl ⟨_, rfl, by rw [List.length_map]; exact l, fun e he => by
    obtain ⟨z, hz, rfl⟩ := List.mem_map.mp he
    exact .inl (List.mem_map.mpr ⟨z, h z hz, rfl⟩)⟩
/-! what is told of it is small -/
def toldA : List PyData := [.none, .tuple [.str (Str.ofString "setting"), .str (Str.ofString "machines")]] ++ (List.range 7).flatMap (fun i => (List.range 31).map (fun j => .tuple [.str (Str.ofString "thing"), .int (i : Nat), .int (j : Nat)]) ++ [.tuple [.str (Str.ofString "thing"), .int (i : Nat), .int (-1)], .tuple [.str (Str.ofString "thing"), .int (i : Nat), .none]]) ++ (thM 6 4 3 2).map fun z => .tuple [.str (Str.ofString "split"), dTh z]
theorem told_ok : toldA.all smlB = true := by decide +kernel
theorem told_mem {e : PyData} (h : e ∈ toldA) : Shw 60 1000000 e := (sml_of (List.all_eq_true.mp told_ok e h)).sw.mono (by decide) (by decide)
theorem told_shw {t n m k : Nat} (hb : ShB t n m k) {ds : List PyData} (h : BenD t n m k ds) : Shw 60 1000000 (toldF (fltM t n m k ds)) := by
  refine told_mem ?_
  unfold toldA
  unfold fltM
  split
  · split
    · rename_i i hi
      rw [List.findIdx?_eq_some_iff_getElem] at hi
      obtain ⟨il, _, _⟩ := hi
      have hd : nth ds i ∈ ds := by
        unfold nth
        rw [List.getElem?_eq_getElem il]
        exact List.getElem_mem il
      refine List.mem_append_left _ (List.mem_append_right _ (List.mem_flatMap.mpr ⟨i, List.mem_range.mpr (by have := h.1; omega), ?_⟩))
      unfold wiV
      split
      · split
        · rename_i j hj
          rw [List.findIdx?_eq_some_iff_getElem] at hj
          obtain ⟨jl, _, _⟩ := hj
          refine List.mem_append_left _ (List.mem_map.mpr ⟨j, List.mem_range.mpr ?_, rfl⟩)
          have := (ben_its (h.2 _ hd)).1
          omega
        · exact List.mem_append_right _ (by simp [toldF, tvD])
      · exact List.mem_append_right _ (by simp [toldF, tvD])
    · split
      · rename_i z hz
        refine List.mem_append_right _ (List.mem_map.mpr ⟨z, ?_, rfl⟩)
        unfold wrongM at hz
        exact th_uni hb.t.2 hb.n.2 hb.m.2 hb.k.2 (List.mem_of_find?_eq_some hz)
      · exact List.mem_append_left _ (List.mem_append_left _ (by simp [toldF]))
  · exact List.mem_append_left _ (List.mem_append_left _ (by simp [toldF]))
end

set_option Elab.async false
set_option linter.all false
set_option maxRecDepth 100000
set_option maxHeartbeats 4000000
open PySem PySem.Spec L2





section
variable {P : Program} {w : World} {K : PySem.W.Frag} {mg : Str → Option Value} {base : Heap}
/-! law -/
theorem g_mkShape {t n m k : Nat} {H : Hp} {Q : VK} (hb : ShB t n m k) (q : ∀ (x : Addr) (H' : Hp), H x = none → ShO K H' x (t : Nat) (n : Nat) (m : Nat) (k : Nat) → Same H H' → Q (.ref x) H') : MakR (SC K) (spShI K) E0 Q [.int (t : Nat), .int (n : Nat), .int (m : Nat), .int (k : Nat)] H := by
  have bt := hb.t; have bn := hb.n; have bm := hb.m; have bk := hb.k
  intro x dx h1 h2 h3
  have sB : Same H (upd (upd H dx (.own x)) x (.ins (SC K) dx [])) := (same_new h2).trans (same_new (by rw [upd_ne h3.symm]; exact h1))
  refine ⟨x, dx, (t : Nat), (n : Nat), (m : Nat), (k : Nat), rfl, upd_same, ⟨by omega, by omega, by omega, by omega, by omega, by omega, by omega, by omega⟩, fun H' e c => ⟨rfl, q x H' h1 ⟨dx, e⟩ fun b o e2 => c b o (ne_of_none e2 h1) (sB b o e2)⟩⟩
/-- what stands all along -/
structure LwI (K : PySem.W.Frag) (a l fg sh L1 : Addr) (cs : List Addr) (zss : List (List Th)) (t n m k : Nat) (H : Hp) : Prop where
  B : Bag H a l
  f : Dq K (fun b => b = a) H (.ref fg) (figD t n m k)
  s : ShO K H sh (t : Nat) (n : Nat) (m : Nat) (k : Nat)
  e : H L1 = some (.lst (cs.map V.ref))
  o : Lots K H cs zss
  nL : L1 ≠ a
  nc : a ∉ cs
  pm : zss.flatten.Perm (thM t n m k)
  f1 : 1 ≤ cs.length
  f5 : cs.length ≤ 5
theorem LwI.chg {a l fg sh L1 : Addr} {cs : List Addr} {zss : List (List Th)} {t n m k : Nat} {H H' : Hp} (h : LwI K a l fg sh L1 cs zss t n m k H) (c : Chg a H H') (B : Bag H' a l) : LwI K a l fg sh L1 cs zss t n m k H' := by
  have kp := Kp.bag h.B c
  obtain ⟨dx, e⟩ := h.s
  exact ⟨B, h.f.chg (toS (S := fun b => b = a) c rfl), ⟨dx, kp _ _ (fun ys z => by cases z) e⟩, c _ _ h.nL h.e, h.o.go kp fun b hb o e => c b o (fun z => h.nc (by rw [← z]; exact hb)) e, h.nL, h.nc, h.pm, h.f1, h.f5⟩
theorem LwI.sm {a l fg sh L1 : Addr} {cs : List Addr} {zss : List (List Th)} {t n m k : Nat} {H H' : Hp} (h : LwI K a l fg sh L1 cs zss t n m k H) (s : Same H H') : LwI K a l fg sh L1 cs zss t n m k H' := h.chg (sm_chg s) (bag_sm h.B s)
theorem LwI.al {a l fg sh L1 : Addr} {cs : List Addr} {zss : List (List Th)} {t n m k : Nat} {H : Hp} (h : LwI K a l fg sh L1 cs zss t n m k H) : Al (fun b => b = a) H := fun b hb hn => by
  obtain ⟨_, _, _, _, _, e, _⟩ := h.B
  rw [hb, e] at hn
  cases hn
theorem LwI.th {a l fg sh L1 : Addr} {cs : List Addr} {zss : List (List Th)} {t n m k : Nat} {H : Hp} (hb : ShB t n m k) (h : LwI K a l fg sh L1 cs zss t n m k H) : ∀ zs ∈ zss, zs.length ≤ 24 ∧ ∀ z ∈ zs, z ∈ thM t n m k := fun zs hz => by
  have tl : (thM t n m k).length ≤ 24 := by
    rw [th_all]
    have bt := hb.t
    have tm : m * (k + n) ≤ 3 * 6 := Nat.mul_le_mul hb.m.2 (by have := hb.k; have := hb.n; omega)
    omega
  have z1 := (List.sublist_flatten_of_mem hz).length_le
  rw [h.pm.length_eq] at z1
  exact ⟨by omega, fun z hz2 => h.pm.mem_iff.mp (List.mem_flatten.mpr ⟨zs, hz, hz2⟩)⟩
theorem LwI.ben {a l fg sh L1 : Addr} {cs : List Addr} {zss : List (List Th)} {t n m k : Nat} {H : Hp} (hb : ShB t n m k) (h : LwI K a l fg sh L1 cs zss t n m k H) : BenD t n m k (zss.map fun zs => .list (zs.map dTh)) := by
  refine ⟨by rw [List.length_map, ← h.o.ln]; exact Nat.le_trans h.f5 (by decide), fun d hd => ?_⟩
  obtain ⟨zs, hz, rfl⟩ := List.mem_map.mp hd
  obtain ⟨l, th⟩ := h.th hb zs hz
  exact th_ben (by omega) th
theorem LwI.ok {a l fg sh L1 : Addr} {cs : List Addr} {zss : List (List Th)} {t n m k : Nat} {H : Hp} (hb : ShB t n m k) (h : LwI K a l fg sh L1 cs zss t n m k H) : fltM t n m k (zss.map fun zs => .list (zs.map dTh)) = .ok := by
  refine flt_deal hb (zss := zss) (by rw [List.length_map, ← h.o.ln]; exact ⟨h.f1, h.f5⟩) (fun d hd => ?_) ?_ h.pm
  · obtain ⟨zs, _, rfl⟩ := List.mem_map.mp hd
    rfl
  · rw [List.map_map]
    rfl
def spLaw (K : PySem.W.Frag) : Sp := fun vs H Q _ => ∃ (s : Addr) (ns : List Int), vs = [.ref s] ∧ SqL K H s (ns.map V.int) ∧ ns.length ≤ 63 ∧ ∀ H', Q (.bl true) H'
theorem ok_law (T : Top K mg) {f : Addr} {fd : FuncData} (F : FnP K "law" s_law f fd) : FnG P w K mg base CX0 8 f fd P_law (spLaw K) := by
  have cl_Shape := T.cl_Shape; have na_Shape_tokens := T.na_Shape_tokens; have na_Shape_width := T.na_Shape_width; have na_Shape_layers := T.na_Shape_layers; have na_Shape_heads := T.na_Shape_heads; have in_Shape := T.in_Shape; have ki_o_Shape_o_Shape := T.ki_o_Shape_o_Shape; have nf_Shape_o_Shape := T.nf_Shape_o_Shape; have ki_tuple_o_Shape := T.ki_tuple_o_Shape; have ki_list_o_Shape := T.ki_list_o_Shape; have ki_o_Shape_list := T.ki_o_Shape_list; have ki_o_Shape_tuple := T.ki_o_Shape_tuple
  have cl_Split := T.cl_Split; have na_Split___bool__ := T.na_Split___bool__; have na_Split_shape := T.na_Split_shape; have na_Split_machines := T.na_Split_machines; have in_Split := T.in_Split; have ki_o_Split_o_Split := T.ki_o_Split_o_Split; have nf_Split_o_Split := T.nf_Split_o_Split; have ne_Split := T.ne_Split; have nf_Split_list := T.nf_Split_list; have nf_Split_NoneType := T.nf_Split_NoneType; have ki_list_o_Split := T.ki_list_o_Split; have ki_NoneType_o_Split := T.ki_NoneType_o_Split
  have C__law_start := c_bag (P := P) (w := w) (base := base) T
  have C__law_draw := c_draw1 (P := P) (w := w) (base := base) T
  have C__law_figure := c_fig (P := P) (w := w) (base := base) T
  have C__law_things := c_lth (P := P) (w := w) (base := base) T
  have C__law_like := c_likeG (P := P) (w := w) (base := base) T
  have C__law_dealt := c_dealt (P := P) (w := w) (base := base) T
  have C__law_spoilt := c_spo (P := P) (w := w) (base := base) T
  have C__law_fault := c_fau (P := P) (w := w) (base := base) T
  have C__law_told := c_told (P := P) (w := w) (base := base) T
  have C__law_caught := c_cau (P := P) (w := w) (base := base) T
  have MK_Shape := m_Shape (P := P) (w := w) (base := base) T
  refine FunD.okG F sc_law (fun vs H Q E h => ?_) (fun cdv A outer s H vs Q E hr hgd h => ?_)
  · obtain ⟨s, ns, rfl, _⟩ := h
    rfl
  · obtain ⟨sc, ns, rfl, hS, hl, q⟩ := h
    refine ⟨_, PSs.nox (pss_cons (ps_set (i := 1) sc_law.nd rfl (by first | exact Or.inl rfl | exact Or.inr rfl) (pe_cal C__law_start (hr.mono (by first | decide | omega)) (by rfl) (pa_cons (pv 0) pa_nil)))
    (pss_cons (ps_set (i := 2) sc_law.nd rfl (by first | exact Or.inl rfl | exact Or.inr rfl) (pe_cal C__law_figure (hr.mono (by first | decide | omega)) (by rfl) (pa_cons (pv 1) pa_nil)))
    (pss_cons (ps_set (i := 3) sc_law.nd rfl (by first | exact Or.inl rfl | exact Or.inr rfl) (pe_mk T.g_Shape MK_Shape (hr.mono (by first | decide | omega)) (by rfl) (pa_cons (pe_ix (k_ix (K := K) (by rfl)) (pv 2) pe_int (fun _ _ => rfl)) (pa_cons (pe_ix (k_ix (K := K) (by rfl)) (pv 2) pe_int (fun _ _ => rfl)) (pa_cons (pe_ix (k_ix (K := K) (by rfl)) (pv 2) pe_int (fun _ _ => rfl)) (pa_cons (pe_ix (k_ix (K := K) (by rfl)) (pv 2) pe_int (fun _ _ => rfl)) pa_nil))))))
    (pss_cons (ps_set (i := 4) sc_law.nd rfl (by first | exact Or.inl rfl | exact Or.inr rfl) (pe_cal C__law_dealt (hr.mono (by first | decide | omega)) (by rfl) (pa_cons (pv 1) (pa_cons (pe_cal C__law_things (hr.mono (by first | decide | omega)) (by rfl) (pa_cons (pv 2) pa_nil)) (pa_cons (pe_op op_add pe_int (pe_cal C__law_draw (hr.mono (by first | decide | omega)) (by rfl) (pa_cons (pv 1) (pa_cons pe_int pa_nil)))) pa_nil)))))
    (pss_cons (ps_for PassesOwn.never rfl (pi_range1 (by rfl) T.z_range (pa_cons pe_int pa_nil)) (pg_name (i := 5) sc_law.nd rfl (by first | exact Or.inl rfl | exact Or.inr rfl))
    (pss_cons (ps_set (i := 6) sc_law.nd rfl (by first | exact Or.inl rfl | exact Or.inr rfl) (pe_cal C__law_spoilt (hr.mono (by first | decide | omega)) (by rfl) (pa_cons (pv 1) (pa_cons (pv 2) (pa_cons (pv 4) pa_nil)))))
    (pss_cons (ps_par (i := 7) (j := 8) (by rfl) sc_law.nd rfl rfl (by decide) rfl rfl (pa_cons (pe_callB (k_reprD (K := K) (by rfl) hgd hr.units) (by rfl) T.z_repr (by decide +kernel) (pa_cons (pv 6) pa_nil)) (pa_cons (pe_calG C__law_fault (hr.mono (by first | decide | omega)) hgd (by rfl) (pa_cons (pv 2) (pa_cons (pv 6) pa_nil))) pa_nil)) (by rfl))
    (pss_cons (ps_if (PW.pt (pw_or (pt_not (pt_val (pe_calG C__law_like (hr.mono (by first | decide | omega)) hgd (by rfl) (pa_cons (pe_cal C__law_told (hr.mono (by first | decide | omega)) (by rfl) (pa_cons (pv 3) (pa_cons (pv 6) pa_nil))) (pa_cons (pv 8) pa_nil))))) (pw_or1 (pt_cmpR op_ne (pe_callB (k_reprD (K := K) (by rfl) hgd hr.units) (by rfl) T.z_repr (by decide +kernel) (pa_cons (pv 6) pa_nil)) (pv 7) (nomark _)))))
    (pss_one (ps_ret pe_bl))
    pss_nil)
    (pss_cons (ps_if (PW.pt (pw_and (pt_cmpR op_notN (pv 8) pe_non (nomark _)) (pw_and1 (pt_not (pt_val (pe_cal C__law_caught (hr.mono (by first | decide | omega)) (by rfl) (pa_cons (pv 3) (pa_cons (pv 6) pa_nil))))))))
    (pss_one (ps_ret pe_bl))
    pss_nil)
    (pss_one (ps_if (pt_cmpR op_notN (pe_cal C__law_told (hr.mono (by first | decide | omega)) (by rfl) (pa_cons (pv 3) (pa_cons (pv 4) pa_nil))) pe_non (nomark _))
    (pss_one (ps_ret pe_bl))
    pss_nil)))))))
    (pss_cons (ps_setLc (i := 9) (own := [("_law_part", 10)]) (g := gName 10) (by rfl) sc_law.nd rfl rfl (sw_true rfl rfl rfl (by decide +kernel)) (k_pil (K := K) (by rfl) (pe_cal C__law_things (hr.mono (by first | decide | omega)) (by rfl) (pa_cons (pv 2) pa_nil))) (blkOk_by (own := [("_law_part", 10)]) (N := N_law) (sc := defScope s_law) (by decide +kernel)) (fun _ _ _ _ _ => pg_name (i := 10) sc_law.nd rfl (by first | exact Or.inl rfl | exact Or.inr rfl)) (fun _ _ _ _ _ => pts_nil) (fun _ _ _ _ _ => (pv 10)))
    (pss_cons (ps_set (i := 11) sc_law.nd rfl (by first | exact Or.inl rfl | exact Or.inr rfl) (k_bm (K := K) (by rfl) PySem.F.plainAttrs_list PySem.F.slot_list_pop PySem.F.type_list_pop mt_popAt (pv 9) (pa_cons (pe_cal C__law_draw (hr.mono (by first | decide | omega)) (by rfl) (pa_cons (pv 1) (pa_cons (pe_callB (k_len (K := K) (by rfl)) (by rfl) T.z_len (by decide +kernel) (pa_cons (pv 9) pa_nil)) pa_nil))) pa_nil)))
    (pss_cons (ps_if (PW.pt (pw_or (pt_not (pt_val (pe_calG C__law_like (hr.mono (by first | decide | omega)) hgd (by rfl) (pa_cons (pe_cal C__law_told (hr.mono (by first | decide | omega)) (by rfl) (pa_cons (pv 3) (pa_cons (pe_lst (pa_cons (pv 9) pa_nil)) pa_nil))) (pa_cons (pe_tup (pa_cons pe_str (pa_cons (pv 11) pa_nil))) pa_nil))))) (pw_or1 (pt_not (pt_val (pe_calG C__law_like (hr.mono (by first | decide | omega)) hgd (by rfl) (pa_cons (pe_cal C__law_told (hr.mono (by first | decide | omega)) (by rfl) (pa_cons (pv 3) (pa_cons (pe_lst (pa_cons (pe_lst pa_nil) (pa_cons (pe_lst pa_nil) (pa_cons (pe_lst pa_nil) (pa_cons (pe_lst pa_nil) (pa_cons (pe_lst pa_nil) pa_nil)))))) pa_nil))) (pa_cons (pe_tup (pa_cons pe_str (pa_cons (pe_tup (pa_cons pe_str (pa_cons pe_int (pa_cons pe_int pa_nil)))) pa_nil))) pa_nil))))))))
    (pss_one (ps_ret pe_bl))
    pss_nil)
    (pss_cons (ps_expr (pe_bm PySem.F.plainAttrs_list PySem.F.slot_list_insert PySem.F.type_list_insert mt_insert (pv 9) (pa_cons (pe_cal C__law_draw (hr.mono (by first | decide | omega)) (by rfl) (pa_cons (pv 1) (pa_cons (pe_op op_add (pe_callB (k_len (K := K) (by rfl)) (by rfl) T.z_len (by decide +kernel) (pa_cons (pv 9) pa_nil)) pe_int) pa_nil))) (pa_cons (pv 11) pa_nil))))
    (pss_one (ps_ret (pe_and (pe_cmpR o_isN (pe_cal C__law_told (hr.mono (by first | decide | omega)) (by rfl) (pa_cons (pv 3) (pa_cons (pe_lst (pa_cons (pv 9) (pa_cons (pe_lst pa_nil) (pa_cons (pe_tup pa_nil) (pa_cons (pe_lst pa_nil) (pa_cons (pe_tup pa_nil) pa_nil)))))) pa_nil))) pe_non (nomark _)) (pe_one (pe_calG C__law_like (hr.mono (by first | decide | omega)) hgd (by rfl) (pa_cons (pe_cal C__law_told (hr.mono (by first | decide | omega)) (by rfl) (pa_cons (pv 3) (pa_cons (pe_lst (pa_cons (pv 9) (pa_cons (pe_lst pa_nil) (pa_cons (pe_lst pa_nil) (pa_cons (pe_lst pa_nil) (pa_cons (pe_lst pa_nil) (pa_cons (pe_lst pa_nil) pa_nil))))))) pa_nil))) (pa_cons (pe_tup (pa_cons pe_str (pa_cons pe_str pa_nil))) pa_nil)))))))))))))))), ?_⟩
    try simp only [cxK]
    rw [show L2.start N_law [.ref sc] = some (.ref sc) :: List.replicate (N_law.length - 1) none from rfl]
    simp only [N_law, List.length_cons, List.length_nil, List.replicate]
    walk_at "go"
    refine ⟨sc, ns, rfl, hS, fun a l H1 B1 _ s1 => ?_⟩
    walk_at "go"
    refine ⟨a, l, rfl, B1, fun fg t n m k H2 hb hfg efg B2 c2 => ?_⟩
    have bt := hb.t; have bn := hb.n; have bm := hb.m; have bk := hb.k
    walk_at "go"
    refine g_mkShape hb fun sh H3 nsh hsh s3 => ?_
    have efg3 := s3 _ _ efg
    have nfg : fg ≠ a := (bag_apart B1 hfg).1
    have hf3 : Dq K (fun b => b = a) H3 (.ref fg) (figD t n m k) := dq_newT nfg efg3 (.cons (.int _) (.cons (.int _) (.cons (.int _) (.cons (.int _) .nil))))
    have B3 := bag_sm B2 s3
    walk_at "go"
    refine ⟨FS, .ref fg, t, n, m, k, rfl, hf3.tr (fun H2 c b o n e => c b o (fun z => z) e), hb, al_F, fun z1 H4 hz1 s4 => ?_⟩
    obtain ⟨pl, ps, rfl, ePl, hps, _⟩ := hz1.list_inv
    have B4 := bag_sm B3 s4
    have npl : pl ≠ a := fun z => by
      obtain ⟨_, _, _, _, _, e, _⟩ := B4
      rw [← z, ePl] at e
      injection e with e
      injection e with e
      have h5 := hps.len
      rw [e, List.length_map] at h5
      obtain ⟨d, hd, hq⟩ := hps.at (i := 1) (by rw [e]; rfl)
      rw [List.getElem?_map, Option.map_eq_some_iff] at hd
      obtain ⟨z0, _, rfl⟩ := hd
      obtain ⟨_, _, e2, _⟩ := hq.tup_inv
      cases e2
    walk_at "go"
    refine g_drawB B4 ⟨by omega, by omega⟩ fun r1 H6 r1a r1b B6 c6 => ?_
    have e1 : (1 : Int) + r1 = ((1 + r1.toNat : Nat) : Int) := by omega
    walk_at "go"
    rw [e1]
    have tl : (thM t n m k).length ≤ 24 := by
      rw [th_all]
      have tm : m * (k + n) ≤ 3 * 6 := Nat.mul_le_mul hb.m.2 (by omega)
      omega
    refine ⟨a, l, pl, ps, thM t n m k, 1 + r1.toNat, rfl, B6, c6 _ _ npl ePl, npl, hps.kpT (Kp.bag B4 c6), by omega, by omega, by omega, fun L1 cs zss H7 nw1 nL1 eL1 lo1 lz1 pm1 B7 c7 => ?_⟩
    have c37 : Chg a H3 H7 := ((sm_chg s4).trans c6).trans c7
    have I7 : LwI K a l fg sh L1 cs zss t n m k H7 := by
      have na : a ∉ L1 :: cs := fun z => by
        obtain ⟨_, _, _, _, _, e, _⟩ := B6
        have := nw1 a z
        rw [e] at this
        cases this
      obtain ⟨dx, e⟩ := hsh
      refine ⟨B7, hf3.chg (toS (S := fun b => b = a) c37 rfl), ⟨dx, Kp.bag B3 c37 _ _ (fun ys z => by cases z) e⟩, eL1, lo1, fun z => na (by rw [z]; exact List.mem_cons_self), fun z => na (List.mem_cons_of_mem _ z), pm1, ?_, ?_⟩
      · rw [lo1.ln]; omega
      · rw [lo1.ln]; omega
    clear c37 eL1 lo1 lz1 pm1 B7 c7 nw1 nL1 hps ePl B6 c6 B4 hz1 s4 hf3 B3 hsh efg3
    walk_at "go"
    refine forR ⟨fun i σ' H' => ∃ y5 y6 y7 y8, σ' = [some (.ref sc), some (.ref a), some (.ref fg), some (.ref sh), some (.ref L1), y5, y6, y7, y8, none, none, none] ∧ LwI K a l fg sh L1 cs zss t n m k H', ⟨none, none, none, none, rfl, I7⟩, ?_, ?_⟩
    · rintro i σ' H' _ ⟨y5, y6, y7, y8, rfl, I⟩
      have f5 := I.f5
      clear I7
      walk_at "go"
      refine ⟨a, l, L1, .ref fg, cs, zss, t, n, m, k, rfl, I.B, I.f, hb, I.e, I.o, by omega, I.th hb, fun L xs ds H8 nL8 eL8 dsq bd B8 c8 => ?_⟩
      have I8 := I.chg c8 B8
      have al8 := I8.al
      have shw := ben_shw hb bd
      have mas := mas_ben hb bd
      have tsw := told_shw hb bd
      walk_at "go"
      refine g_reprD (d := .list ds) (.lst (.of eL8) dsq.dp) shw.sh shw.nd shw.dp (Nat.le_trans shw.ln (by decide)) ?_
      walk_at "go"
      refine ⟨_, .ref fg, L, xs, ds, t, n, m, k, rfl, I8.f, hb, al8, eL8, dsq, bd, fun y H9 hy s9 => ?_⟩
      have I9 := I8.sm s9
      walk_at "go"
      refine ⟨_, sh, L, xs, ds, t, n, m, k, rfl, I9.s, hb, al8.sm s9, s9 _ _ eL8, dsq.sm s9, mas, fun y2 H10 hy2 s10 => ?_⟩
      have I10 := I9.sm s10
      have s810 := s9.trans s10
      walk_at "go"
      refine g_likeG hy2.dp (hy.sm s10).dp tsw ?_
      walk_at "go"
      refine g_reprD (d := .list ds) (.lst (.of (s810 _ _ eL8)) (dsq.sm s810).dp) shw.sh shw.nd shw.dp (Nat.le_trans shw.ln (by decide)) ?_
      walk_at "go"
      refine ⟨rfl, ?_⟩
      rw [decide_eq_true rfl]
      walk_at "go"
      by_cases hk : fltM t n m k ds = .ok
      · rw [hk] at hy
        obtain rfl := hy.non_inv
        walk_at "go"
        refine ⟨rfl, ?_⟩
        rw [decide_eq_true rfl]
        walk_at "go"
        refine ⟨FS, sh, L1, cs.map V.ref, _, t, n, m, k, rfl, I10.s, hb, al_F, I10.e, I10.o.dq, mas_ben hb (I10.ben hb), fun y3 H12 hy3 s12 => ?_⟩
        rw [I10.ok hb] at hy3
        obtain rfl := hy3.non_inv
        walk_at "go"
        refine ⟨rfl, ?_⟩
        rw [decide_eq_true rfl]
        walk_at "go"
        exact ⟨_, _, _, _, rfl, I10.sm s12⟩
      · have yn : y ≠ .non := fun e => by
          rw [e] at hy
          generalize fltM t n m k ds = f at hk hy
          cases f with
          | ok => exact hk rfl
          | _ => cases hy
        walk_at "go"
        refine ⟨rfl, ?_⟩
        rw [decide_eq_false yn]
        walk_at "go"
        refine ⟨_, sh, L, xs, ds, t, n, m, k, rfl, I10.s, hb, al8.sm s810, s810 _ _ eL8, dsq.sm s810, mas, hk, fun H11 s11 => ?_⟩
        have I11 := I10.sm s11
        walk_at "go"
        refine ⟨FS, sh, L1, cs.map V.ref, _, t, n, m, k, rfl, I11.s, hb, al_F, I11.e, I11.o.dq, mas_ben hb (I11.ben hb), fun y3 H12 hy3 s12 => ?_⟩
        rw [I11.ok hb] at hy3
        obtain rfl := hy3.non_inv
        walk_at "go"
        refine ⟨rfl, ?_⟩
        rw [decide_eq_true rfl]
        walk_at "go"
        exact ⟨_, _, _, _, rfl, I11.sm s12⟩
    · rintro σ' H' ⟨y5, y6, y7, y8, rfl, I⟩
      clear I7
      walk_at "go"
      refine ⟨FS, .ref fg, t, n, m, k, rfl, I.f.tr (fun H2 c b o n e => c b o (fun z => z) e), hb, al_F, fun z2 H8 hz2 s8 => ?_⟩
      have I8 := I.sm s8
      obtain ⟨p8, ps8, rfl, e8, d8, _⟩ := hz2.list_inv
      walk_at "go"
      refine lcQL (K := K) (S := FS) (os := (thM t n m k).map fun z => some (dTh z)) (.of e8) al_F (by rw [List.length_map]; omega) (by rw [List.length_map, d8.len, List.length_map]) (σ0 := [some (V.ref sc), some (V.ref a), some (V.ref fg), some (V.ref sh), some (V.ref L1), y5, y6, y7, y8, none, none, none]) rfl (fun i x o hx ho => ?_) (fun R ys H9 hR eR dR s9 => ?_)
      · intro D H' N hD s al' tr kk _
        rw [List.getElem?_map, Option.map_eq_some_iff] at ho
        obtain ⟨zt, hzt, rfl⟩ := ho
        obtain ⟨d, hd, dx⟩ := d8.at hx
        rw [List.getElem?_map, hzt] at hd
        obtain rfl := Option.some.inj hd
        walk_at "go"
        exact kk _ rfl _ _ (tr dx) (fun _ _ e => e)
      rw [fm_mapS] at dR
      have lR := dR.len
      rw [List.length_map] at lR
      have l1 : 1 ≤ (thM t n m k).length := by
        have h := th_head hb
        cases e : thM t n m k with
        | nil => rw [e] at h; cases h
        | cons z zs => simp
      have c9 : Chg a H8 H9 := sm_chg s9
      have B9 := bag_sm I8.B s9
      have Ra : R ≠ a ∧ R ≠ l := bag_apart I8.B hR
      clear d8 e8 hz2 s8 I
      walk_at "go"
      refine g_drawB B9 ⟨by omega, by omega⟩ fun r H10 r0 r1 B10 c10 => ?_
      obtain ⟨r, rfl⟩ := Int.eq_ofNat_of_zero_le r0
      have rl : r < (thM t n m k).length := by omega
      have hz : (thM t n m k)[r]? = some (thM t n m k)[r] := List.getElem?_eq_getElem rl
      generalize (thM t n m k)[r] = zr at hz
      have eR10 := c10 _ _ Ra.1 eR
      have dR10 := dR.kpT (Kp.bag B9 c10)
      obtain ⟨g, hg, dg⟩ := dR10.get (i := r) (d := dTh zr) (by rw [List.getElem?_map, hz]; rfl)
      walk_at "go"
      refine ⟨_, _, _, r, _, rfl, rfl, eR10, by omega, by omega, seqIx_nat (by omega), hg, ?_⟩
      have kpA : Kp H10 (upd H10 R (.lst (ys.eraseIdx r))) := Kp.put eR10
      have dRA : DqAll K FS (upd H10 R (.lst (ys.eraseIdx r))) (ys.eraseIdx r) (((thM t n m k).eraseIdx r).map dTh) := by
        have this := ((dR10.kpT kpA).take r).app ((dR10.kpT kpA).drop (r + 1))
        rw [← List.eraseIdx_eq_take_drop_succ, ← List.eraseIdx_eq_take_drop_succ, er_map] at this
        exact this
      have dgA := dg.kp (frz_th zr) kpA
      have eRA : (upd H10 R (.lst (ys.eraseIdx r))) R = _ := upd_same
      have cA : Chg a H8 (upd H10 R (.lst (ys.eraseIdx r))) := fun b o n e => by
        rw [upd_ne (ne_of_none e hR)]
        exact c10 b o n (c9 b o n e)
      have BA : Bag (upd H10 R (.lst (ys.eraseIdx r))) a l := bag_chg B10 Ra.1 Ra.2
      clear dg eR10 dR10 kpA B10 c10 B9 c9 dR eR s9
      generalize upd H10 R (.lst (ys.eraseIdx r)) = HA at dRA dgA eRA cA BA ⊢
      generalize ys.eraseIdx r = yA at dRA eRA
      have IA := I8.chg cA BA
      have lA := dRA.len
      rw [List.length_map] at lA
      have le : ((thM t n m k).eraseIdx r).length ≤ 24 := by
        have := List.length_eraseIdx_le (thM t n m k) r
        omega
      have the : ∀ z ∈ (thM t n m k).eraseIdx r, z ∈ thM t n m k := fun z hz => List.mem_of_mem_eraseIdx hz
      walk_at "go"
      rename_i p hp
      have sp := same_new hp (o := .lst [.ref R])
      have bd1 : BenD t n m k [.list (((thM t n m k).eraseIdx r).map dTh)] := ⟨by simp, fun d hd => by
        rw [List.mem_singleton.mp hd]
        exact th_ben (by omega) the⟩
      have sw1 := told_shw hb bd1
      rw [flt_gone hb hz] at sw1
      refine ⟨FS, sh, p, [.ref R], _, t, n, m, k, rfl, (IA.sm sp).s, hb, al_F, upd_same, .cons (dq_new (fun z => z) (sp _ _ eRA) (dRA.sm sp)) .nil, mas_ben hb bd1, fun y2 HB hy2 sB => ?_⟩
      rw [flt_gone hb hz] at hy2
      have sAB := sp.trans sB
      clear sB sp hp
      walk_at "go"
      rename_i p hp
      have sp := same_new hp (o := .tup [.str (Str.ofString "split"), g])
      have sAC := sAB.trans sp
      refine g_likeG (hy2.sm sp).dp (dq_newT (S := FS) (fun z => z) upd_same (.cons (.str _) (.cons ((dgA.sm sAB).sm sp) .nil))).dp sw1 ?_
      clear sp hy2 sAB
      generalize upd HB p (.tup [.str (Str.ofString "split"), g]) = HC at sAC ⊢
      clear hp
      walk_at "go"
      rename_i q1 h1 q2 h2 q3 h3 q4 h4 q5 h5 q6 h6
      have bd2 : BenD t n m k [.list [], .list [], .list [], .list [], .list []] := ⟨by decide, fun d hd => by
        simp only [List.mem_cons, List.not_mem_nil, or_false] at hd
        rcases hd with rfl | rfl | rfl | rfl | rfl <;> exact th_ben (zs := []) (by decide) fun z hz => absurd hz List.not_mem_nil⟩
      have sw2 := told_shw hb bd2
      rw [flt_empty hb] at sw2
      have t6 := same_new h6 (o := .lst [.ref q1, .ref q2, .ref q3, .ref q4, .ref q5])
      have t5 := (same_new h5 (o := .lst [])).trans t6
      have t4 := (same_new h4 (o := .lst [])).trans t5
      have t3 := (same_new h3 (o := .lst [])).trans t4
      have t2 := (same_new h2 (o := .lst [])).trans t3
      have t1 := (same_new h1 (o := .lst [])).trans t2
      have mt : ∀ {H : Hp} {q : Addr} {H' : Hp}, Same (upd H q (.lst [])) H' → Dq K FS H' (.ref q) (.list []) := fun s => (dq_new (fun z => z) upd_same .nil).sm s
      refine ⟨FS, sh, q6, _, _, t, n, m, k, rfl, (IA.sm (sAC.trans t1)).s, hb, al_F, upd_same, .cons (mt t2) (.cons (mt t3) (.cons (mt t4) (.cons (mt t5) (.cons (mt t6) .nil)))), mas_ben hb bd2, fun y2 HD hy2 sD => ?_⟩
      rw [flt_empty hb] at hy2
      have sAD := (sAC.trans t1).trans sD
      clear t1 t2 t3 t4 t5 t6 h1 h2 h3 h4 h5 h6 sD sAC
      walk_at "go"
      rename_i q1 h1 q2 h2
      have t2 := same_new h2 (o := .tup [.str (Str.ofString "split"), .ref q1])
      have t1 := (same_new h1 (o := .tup [.str (Str.ofString "head"), .int 0, .int 0])).trans t2
      have dh : Dq K FS (upd HD q1 (.tup [.str (Str.ofString "head"), .int 0, .int 0])) (.ref q1) (dTh (Str.ofString "head", 0, 0)) := dq_newT (fun z => z) upd_same (.cons (.str _) (.cons (.int _) (.cons (.int _) .nil)))
      refine g_likeG (hy2.sm t1).dp (dq_newT (S := FS) (fun z => z) upd_same (.cons (.str _) (.cons (dh.sm t2) .nil))).dp sw2 ?_
      have sAE := sAD.trans t1
      clear t1 t2 dh hy2 sAD
      generalize upd _ q2 _ = HE at sAE ⊢
      clear h1 h2
      walk_at "go"
      have BE := bag_sm BA sAE
      refine g_drawB BE ⟨by omega, by omega⟩ fun u HF u0 u1 BF cF => ?_
      obtain ⟨u, rfl⟩ := Int.eq_ofNat_of_zero_le u0
      have eRF := cF _ _ Ra.1 (sAE _ _ eRA)
      have dRF := (dRA.sm sAE).kpT (Kp.bag BE cF)
      have dgF := (dgA.sm sAE).kp (frz_th zr) (Kp.bag BE cF)
      walk_at "go"
      refine ⟨_, _, _, _, rfl, rfl, eRF, Nat.lt_of_le_of_lt (show _ ≤ 24 by omega) (by decide), u0, by omega, ?_⟩
      rw [Int.toNat_natCast]
      have kpG : Kp HF (upd HF R (.lst (yA.take u ++ [g] ++ yA.drop u))) := Kp.put eRF
      have dRG : DqAll K FS (upd HF R (.lst (yA.take u ++ [g] ++ yA.drop u))) (yA.take u ++ [g] ++ yA.drop u) ((((thM t n m k).eraseIdx r).take u ++ [zr] ++ ((thM t n m k).eraseIdx r).drop u).map dTh) := by
        have := (((dRF.kpT kpG).take u).app (.cons (dgF.kp (frz_th zr) kpG) .nil)).app ((dRF.kpT kpG).drop u)
        rw [List.map_append, List.map_append, List.map_take, List.map_drop]
        exact this
      have eRG : (upd HF R (.lst (yA.take u ++ [g] ++ yA.drop u))) R = _ := upd_same
      have cG : Chg a H8 (upd HF R (.lst (yA.take u ++ [g] ++ yA.drop u))) := fun b o n e => by
        rw [upd_ne (ne_of_none e hR)]
        exact cF b o n (sAE b o (cA b o n e))
      have IG := I8.chg cG (bag_chg BF Ra.1 Ra.2)
      have pmG : (((thM t n m k).eraseIdx r).take u ++ [zr] ++ ((thM t n m k).eraseIdx r).drop u).Perm (thM t n m k) := ins_perm.trans (gone_perm hz)
      clear eRF dRF dgF kpG cG BF cF BE sAE IA BA cA eRA dgA dRA
      generalize upd HF R (.lst (yA.take u ++ [g] ++ yA.drop u)) = HG at dRG eRG IG ⊢
      generalize yA.take u ++ [g] ++ yA.drop u = yG at dRG eRG
      generalize ((thM t n m k).eraseIdx r).take u ++ [zr] ++ ((thM t n m k).eraseIdx r).drop u = zG at dRG pmG
      have lG : zG.length ≤ 24 := by rw [pmG.length_eq]; exact tl
      have bz : (∃ es, PyData.list (zG.map dTh) = .list es ∧ es.length ≤ 30 ∧ ∀ e ∈ es, ItO t n m k e) ∨ PyData.list (zG.map dTh) ∈ plain7 := th_ben (by omega) fun z hz => pmG.mem_iff.mp hz
      have be : (∃ es, PyData.list [] = .list es ∧ es.length ≤ 30 ∧ ∀ e ∈ es, ItO t n m k e) ∨ PyData.list [] ∈ plain7 := th_ben (zs := []) (by decide) fun z hz => absurd hz List.not_mem_nil
      walk_at "go"
      rename_i q1 h1 q2 h2 q3 h3 q4 h4 q5 h5
      have bd3 : BenD t n m k [.list (zG.map dTh), .list [], .tuple [], .list [], .tuple []] := ⟨Nat.le_of_ble_eq_true rfl, fun d hd => by
        simp only [List.mem_cons, List.not_mem_nil, or_false] at hd
        rcases hd with rfl | rfl | rfl | rfl | rfl
        · exact bz
        · exact be
        · exact .inr (by unfold plain7; simp)
        · exact be
        · exact .inr (by unfold plain7; simp)⟩
      have ok3 : fltM t n m k [.list (zG.map dTh), .list [], .tuple [], .list [], .tuple []] = .ok := by
        refine flt_deal hb (zss := [zG, [], [], [], []]) ⟨Nat.le_of_ble_eq_true rfl, Nat.le_of_ble_eq_true rfl⟩ (fun d hd => ?_) rfl (by simpa using pmG)
        simp only [List.mem_cons, List.not_mem_nil, or_false] at hd
        rcases hd with rfl | rfl | rfl | rfl | rfl <;> rfl
      have t5 := same_new h5 (o := .lst [.ref R, .ref q1, .ref q2, .ref q3, .ref q4])
      have t4 := (same_new h4 (o := .tup [])).trans t5
      have t3 := (same_new h3 (o := .lst [])).trans t4
      have t2 := (same_new h2 (o := .tup [])).trans t3
      have t1 := (same_new h1 (o := .lst [])).trans t2
      have tt : ∀ {H : Hp} {q : Addr} {H' : Hp}, Same (upd H q (.tup [])) H' → Dq K FS H' (.ref q) (.tuple []) := fun s => (dq_newT (fun z => z) upd_same .nil).sm s
      refine ⟨FS, sh, q5, _, _, t, n, m, k, rfl, (IG.sm t1).s, hb, al_F, upd_same, .cons (dq_new (fun z => z) (t1 _ _ eRG) (dRG.sm t1)) (.cons (mt t2) (.cons (tt t3) (.cons (mt t4) (.cons (tt t5) .nil)))), mas_ben hb bd3, fun y2 HI hy2 sI => ?_⟩
      rw [ok3] at hy2
      obtain rfl := hy2.non_inv
      have sGI := t1.trans sI
      clear t1 t2 t3 t4 t5 h1 h2 h3 h4 h5 sI
      walk_at "go"
      rename_i q1 h1 q2 h2 q3 h3 q4 h4 q5 h5 q6 h6
      have bd4 : BenD t n m k [.list (zG.map dTh), .list [], .list [], .list [], .list [], .list []] := ⟨Nat.le_of_ble_eq_true rfl, fun d hd => by
        simp only [List.mem_cons, List.not_mem_nil, or_false] at hd
        rcases hd with rfl | rfl | rfl | rfl | rfl | rfl
        · exact bz
        all_goals exact be⟩
      have ok4 : fltM t n m k [.list (zG.map dTh), .list [], .list [], .list [], .list [], .list []] = .set := flt_set fun h => absurd h.2 (fun h => by simp at h)
      have sw4 := told_shw hb bd4
      rw [ok4] at sw4
      have t6 := same_new h6 (o := .lst [.ref R, .ref q1, .ref q2, .ref q3, .ref q4, .ref q5])
      have t5 := (same_new h5 (o := .lst [])).trans t6
      have t4 := (same_new h4 (o := .lst [])).trans t5
      have t3 := (same_new h3 (o := .lst [])).trans t4
      have t2 := (same_new h2 (o := .lst [])).trans t3
      have t1 := (same_new h1 (o := .lst [])).trans t2
      have sG1 := sGI.trans t1
      refine ⟨FS, sh, q6, _, _, t, n, m, k, rfl, (IG.sm sG1).s, hb, al_F, upd_same, .cons (dq_new (fun z => z) (sG1 _ _ eRG) (dRG.sm sG1)) (.cons (mt t2) (.cons (mt t3) (.cons (mt t4) (.cons (mt t5) (.cons (mt t6) .nil))))), mas_ben hb bd4, fun y2 HJ hy2 sJ => ?_⟩
      rw [ok4] at hy2
      clear t1 t2 t3 t4 t5 t6 h1 h2 h3 h4 h5 h6
      walk_at "go"
      rename_i q1 h1
      refine g_likeG (hy2.sm (same_new h1)).dp (dq_newT (S := FS) (fun z => z) upd_same (.cons (.str _) (.cons (.str _) .nil))).dp sw4 ?_
      exact q _
end

set_option Elab.async false
set_option linter.all false
set_option maxRecDepth 100000
set_option maxHeartbeats 4000000
open PySem PySem.Spec L2

theorem factsR {P : Program} {w : World} {K : PySem.W.Frag} {h : Heap} {mg : Str → Option Value} {f : Addr} (X : K.In h) (G : h.Ns mainGlobals mg) (hfa : mg ("law" : Str) = some (.ref f)) (c : SaysX faL fnL prL tsL K) :
    ∃ fd : FuncData, (∀ (s : Shared) (v : Value), BindsTo s fd ⟨[v], []⟩ [("_law_script", v)]) ∧ ∀ base : Heap, K.In base → base.Ns mainGlobals mg → FnG P w K mg base CX0 8 f fd ["_law_script"] (spLaw K) := by
  obtain ⟨fd_is_number, F_is_number⟩ := c.p.d.def_ 0 (d := d_is_number) rfl
  obtain ⟨fd_is_thing, F_is_thing⟩ := c.p.d.def_ 1 (d := d_is_thing) rfl
  obtain ⟨fd_wrong_thing, F_wrong_thing⟩ := c.p.d.def_ 2 (d := d_wrong_thing) rfl
  obtain ⟨fd__wrong_item, F__wrong_item⟩ := c.p.d.def_ 3 (d := d__wrong_item) rfl
  obtain ⟨fd__things_of, F__things_of⟩ := c.p.d.def_ 4 (d := d__things_of) rfl
  obtain ⟨fd__law_start, F__law_start⟩ := c.p.d.def_ 5 (d := d__law_start) rfl
  obtain ⟨fd__law_draw, F__law_draw⟩ := c.p.d.def_ 6 (d := d__law_draw) rfl
  obtain ⟨fd__law_pick, F__law_pick⟩ := c.p.d.def_ 7 (d := d__law_pick) rfl
  obtain ⟨fd__law_like, F__law_like⟩ := c.p.d.def_ 8 (d := d__law_like) rfl
  obtain ⟨fd__law_things, F__law_things⟩ := c.p.d.def_ 9 (d := d__law_things) rfl
  obtain ⟨fd__law_dealt, F__law_dealt⟩ := c.p.d.def_ 10 (d := d__law_dealt) rfl
  obtain ⟨fd__law_split, F__law_split⟩ := c.p.d.def_ 11 (d := d__law_split) rfl
  obtain ⟨fd__law_copies, F__law_copies⟩ := c.p.d.def_ 12 (d := d__law_copies) rfl
  obtain ⟨fd__law_figure, F__law_figure⟩ := c.p.d.def_ 13 (d := d__law_figure) rfl
  obtain ⟨fd__law_stranger, F__law_stranger⟩ := c.p.d.def_ 14 (d := d__law_stranger) rfl
  obtain ⟨fd__law_spoilt, F__law_spoilt⟩ := c.p.d.def_ 15 (d := d__law_spoilt) rfl
  obtain ⟨fd__law_fault, F__law_fault⟩ := c.p.d.def_ 16 (d := d__law_fault) rfl
  obtain ⟨fd__law_plain_error, F__law_plain_error⟩ := c.p.d.def_ 17 (d := d__law_plain_error) rfl
  obtain ⟨fd__law_told, F__law_told⟩ := c.p.d.def_ 18 (d := d__law_told) rfl
  obtain ⟨fd__law_caught, F__law_caught⟩ := c.p.d.def_ 19 (d := d__law_caught) rfl
  obtain ⟨fd_law, F_law⟩ := c.p.d.def_ 20 (d := d_law) rfl
  obtain ⟨fd_Shape___init__, F_Shape___init__⟩ := c.p.d.def_ 21 (d := d_Shape___init__) rfl
  obtain ⟨fd_Shape_things, F_Shape_things⟩ := c.p.d.def_ 22 (d := d_Shape_things) rfl
  obtain ⟨fd_Shape___eq__, F_Shape___eq__⟩ := c.p.d.def_ 23 (d := d_Shape___eq__) rfl
  obtain ⟨fd_Split___init__, F_Split___init__⟩ := c.p.d.def_ 24 (d := d_Split___init__) rfl
  obtain ⟨fd_Split___len__, F_Split___len__⟩ := c.p.d.def_ 25 (d := d_Split___len__) rfl
  obtain ⟨fd_InvalidSetting___init__, F_InvalidSetting___init__⟩ := c.p.d.def_ 26 (d := d_InvalidSetting___init__) rfl
  obtain ⟨fd_InvalidThing___init__, F_InvalidThing___init__⟩ := c.p.d.def_ 27 (d := d_InvalidThing___init__) rfl
  obtain ⟨fd_InvalidSplit___init__, F_InvalidSplit___init__⟩ := c.p.d.def_ 28 (d := d_InvalidSplit___init__) rfl
  have T : Top K mg := ⟨⟨_, _, F_is_number, He.glo_ok X G (c.p.d.fact 0 (f := .glo "is_number") rfl)⟩,
    ⟨_, _, F_is_thing, He.glo_ok X G (c.p.d.fact 1 (f := .glo "is_thing") rfl)⟩,
    ⟨_, _, F_wrong_thing, He.glo_ok X G (c.p.d.fact 2 (f := .glo "wrong_thing") rfl)⟩,
    ⟨_, _, F__wrong_item, He.glo_ok X G (c.p.d.fact 3 (f := .glo "_wrong_item") rfl)⟩,
    ⟨_, _, F__things_of, He.glo_ok X G (c.p.d.fact 4 (f := .glo "_things_of") rfl)⟩,
    ⟨_, _, F__law_start, He.glo_ok X G (c.p.d.fact 5 (f := .glo "_law_start") rfl)⟩,
    ⟨_, _, F__law_draw, He.glo_ok X G (c.p.d.fact 6 (f := .glo "_law_draw") rfl)⟩,
    ⟨_, _, F__law_pick, He.glo_ok X G (c.p.d.fact 7 (f := .glo "_law_pick") rfl)⟩,
    ⟨_, _, F__law_like, He.glo_ok X G (c.p.d.fact 8 (f := .glo "_law_like") rfl)⟩,
    ⟨_, _, F__law_things, He.glo_ok X G (c.p.d.fact 9 (f := .glo "_law_things") rfl)⟩,
    ⟨_, _, F__law_dealt, He.glo_ok X G (c.p.d.fact 10 (f := .glo "_law_dealt") rfl)⟩,
    ⟨_, _, F__law_split, He.glo_ok X G (c.p.d.fact 11 (f := .glo "_law_split") rfl)⟩,
    ⟨_, _, F__law_copies, He.glo_ok X G (c.p.d.fact 12 (f := .glo "_law_copies") rfl)⟩,
    ⟨_, _, F__law_figure, He.glo_ok X G (c.p.d.fact 13 (f := .glo "_law_figure") rfl)⟩,
    ⟨_, _, F__law_stranger, He.glo_ok X G (c.p.d.fact 14 (f := .glo "_law_stranger") rfl)⟩,
    ⟨_, _, F__law_spoilt, He.glo_ok X G (c.p.d.fact 15 (f := .glo "_law_spoilt") rfl)⟩,
    ⟨_, _, F__law_fault, He.glo_ok X G (c.p.d.fact 16 (f := .glo "_law_fault") rfl)⟩,
    ⟨_, _, F__law_plain_error, He.glo_ok X G (c.p.d.fact 17 (f := .glo "_law_plain_error") rfl)⟩,
    ⟨_, _, F__law_told, He.glo_ok X G (c.p.d.fact 18 (f := .glo "_law_told") rfl)⟩,
    ⟨_, _, F__law_caught, He.glo_ok X G (c.p.d.fact 19 (f := .glo "_law_caught") rfl)⟩,
    He.glo_ok X G (c.p.d.fact 31 (f := .glo "Shape") rfl),
    He.cls_ok (c.p.d.fact 32 (f := .cls "Shape") rfl),
    He.noat_ok (c.p.d.fact 33 (f := .noat "Shape" "tokens") rfl),
    He.noat_ok (c.p.d.fact 34 (f := .noat "Shape" "width") rfl),
    He.noat_ok (c.p.d.fact 35 (f := .noat "Shape" "layers") rfl),
    He.noat_ok (c.p.d.fact 36 (f := .noat "Shape" "heads") rfl),
    He.mkr_ok (c.p.d.fact 37 (f := .mkr "Shape") rfl),
    ⟨_, F_Shape___init__⟩,
    He.meth_ok (c.p.d.fact 38 (f := .meth "Shape" "things") rfl),
    ⟨_, F_Shape_things⟩,
    He.meth_ok (c.p.d.fact 39 (f := .meth "Shape" "__eq__") rfl),
    ⟨_, F_Shape___eq__⟩,
    He.glo_ok X G (c.p.d.fact 40 (f := .glo "Split") rfl),
    He.cls_ok (c.p.d.fact 41 (f := .cls "Split") rfl),
    He.noat_ok (c.p.d.fact 42 (f := .noat "Split" "__bool__") rfl),
    He.noat_ok (c.p.d.fact 43 (f := .noat "Split" "shape") rfl),
    He.noat_ok (c.p.d.fact 44 (f := .noat "Split" "machines") rfl),
    He.mkr_ok (c.p.d.fact 45 (f := .mkr "Split") rfl),
    ⟨_, F_Split___init__⟩,
    He.meth_ok (c.p.d.fact 46 (f := .meth "Split" "__len__") rfl),
    ⟨_, F_Split___len__⟩,
    He.glo_ok X G (c.p.d.fact 47 (f := .glo "InvalidSetting") rfl),
    oxB_ok (c.test 54 rfl),
    ⟨_, F_InvalidSetting___init__⟩,
    He.glo_ok X G (c.p.d.fact 48 (f := .glo "InvalidThing") rfl),
    oxB_ok (c.test 55 rfl),
    ⟨_, F_InvalidThing___init__⟩,
    He.glo_ok X G (c.p.d.fact 49 (f := .glo "InvalidSplit") rfl),
    oxB_ok (c.test 56 rfl),
    ⟨_, F_InvalidSplit___init__⟩,
    (match He.int_ok X G (c.p.d.fact 50 (f := .int "LEAST_TOKENS" 2) rfl) with | ⟨t, e⟩ => ⟨_, e, t, rfl⟩),
    (match He.int_ok X G (c.p.d.fact 51 (f := .int "MOST_TOKENS" 6) rfl) with | ⟨t, e⟩ => ⟨_, e, t, rfl⟩),
    (match He.int_ok X G (c.p.d.fact 52 (f := .int "MOST_WIDTH" 4) rfl) with | ⟨t, e⟩ => ⟨_, e, t, rfl⟩),
    (match He.int_ok X G (c.p.d.fact 53 (f := .int "MOST_LAYERS" 3) rfl) with | ⟨t, e⟩ => ⟨_, e, t, rfl⟩),
    (match He.int_ok X G (c.p.d.fact 54 (f := .int "MOST_HEADS" 2) rfl) with | ⟨t, e⟩ => ⟨_, e, t, rfl⟩),
    (match He.int_ok X G (c.p.d.fact 55 (f := .int "MOST_MACHINES" 5) rfl) with | ⟨t, e⟩ => ⟨_, e, t, rfl⟩),
    (match He.int_ok X G (c.p.d.fact 56 (f := .int "THING_ITEMS" 3) rfl) with | ⟨t, e⟩ => ⟨_, e, t, rfl⟩),
    He.free_ok X G (c.p.d.fact 21 (f := .free "ValueError") rfl),
    He.free_ok X G (c.p.d.fact 22 (f := .free "isinstance") rfl),
    He.free_ok X G (c.p.d.fact 23 (f := .free "int") rfl),
    He.free_ok X G (c.p.d.fact 24 (f := .free "bool") rfl),
    He.free_ok X G (c.p.d.fact 25 (f := .free "range") rfl),
    He.free_ok X G (c.p.d.fact 26 (f := .free "enumerate") rfl),
    He.free_ok X G (c.p.d.fact 27 (f := .free "tuple") rfl),
    He.free_ok X G (c.p.d.fact 28 (f := .free "len") rfl),
    He.free_ok X G (c.p.d.fact 29 (f := .free "list") rfl),
    He.free_ok X G (c.p.d.fact 30 (f := .free "repr") rfl),
    insB_ok (c.test 0 rfl),
    of_decide_eq_true (c.test 1 rfl),
    (c.test 2 rfl),
    of_decide_eq_true (c.test 3 rfl),
    of_decide_eq_true (c.test 4 rfl),
    insB_ok (c.test 5 rfl),
    of_decide_eq_true (c.test 6 rfl),
    (c.test 7 rfl),
    neB_ok (c.test 8 rfl),
    (c.test 9 rfl),
    (c.test 10 rfl),
    of_decide_eq_true (c.test 11 rfl),
    of_decide_eq_true (c.test 12 rfl),
    of_decide_eq_true (c.test 13 rfl),
    of_decide_eq_true (c.test 14 rfl),
    oxB_ok (c.test 15 rfl),
    oxB_ok (c.test 16 rfl),
    oxB_ok (c.test 17 rfl),
    of_decide_eq_true (c.test 18 rfl),
    of_decide_eq_true (c.test 19 rfl),
    of_decide_eq_true (c.test 20 rfl),
    of_decide_eq_true (c.test 21 rfl),
    of_decide_eq_true (c.test 22 rfl),
    of_decide_eq_true (c.test 23 rfl),
    of_decide_eq_true (c.test 24 rfl),
    of_decide_eq_true (c.test 26 rfl),
    of_decide_eq_true (c.test 28 rfl),
    of_decide_eq_true (c.test 29 rfl),
    of_decide_eq_true (c.test 30 rfl),
    of_decide_eq_true (c.test 31 rfl),
    of_decide_eq_true (c.test 32 rfl),
    of_decide_eq_true (c.test 33 rfl),
    of_decide_eq_true (c.test 34 rfl),
    of_decide_eq_true (c.test 35 rfl),
    of_decide_eq_true (c.test 36 rfl),
    of_decide_eq_true (c.test 37 rfl),
    of_decide_eq_true (c.test 39 rfl),
    of_decide_eq_true (c.test 40 rfl),
    of_decide_eq_true (c.test 41 rfl),
    of_decide_eq_true (c.test 42 rfl),
    of_decide_eq_true (c.test 43 rfl),
    of_decide_eq_true (c.test 44 rfl),
    of_decide_eq_true (c.test 45 rfl),
    of_decide_eq_true (c.test 46 rfl),
    of_decide_eq_true (c.test 47 rfl),
    of_decide_eq_true (c.test 48 rfl),
    of_decide_eq_true (c.test 49 rfl),
    of_decide_eq_true (c.test 50 rfl),
    He.glo_ok X G (c.test 51 rfl),
    He.glo_ok X G (c.test 52 rfl),
    He.glo_ok X G (c.test 53 rfl)⟩
  have e := hfa.symm.trans (He.glo_ok X G (c.p.d.fact 20 (f := .glo "law") rfl))
  cases e
  have b := FunD.bindsA (ps := ["_law_script"]) F_law fun _ _ _ _ _ _ us hl => match us, hl with | [_], _ => rfl
  exact ⟨fd_law, fun s v => b s [v] rfl, fun base _ _ => ok_law T F_law⟩
end Q
open PySem PySem.W PySem.Calls PyProof.Rows
set_option maxRecDepth 100000 in
set_option maxHeartbeats 0 in
theorem PySem.Challenge.cw_answersalone_k55_splits_refused_holds : PySem.Challenge.rw_answersalone_k55_splits_refused.Holds := by
  w_on; o_law
  refine HandSHeadRun.head_any (r := OpenLaw.row PySem.Challenge.rw_answersalone_k55_splits_refused) (q := view (OpenLaw.row PySem.Challenge.rw_answersalone_k55_splits_refused).prog [41]) (H := Q.hkR) (ob := Q.obR) (M := 6000) (loose := Q.looseR)
    (d := HandSHeadRun.topDef (OpenLaw.row PySem.Challenge.rw_answersalone_k55_splits_refused).prog 41) (kwd := []) Q.obR_eq
    (by kernel_rfl) (fun s => by kernel_rfl) Q.runR (by kernel_rfl) (by kernel_rfl) (by kernel_rfl) (by rfl) (by first | assumption | decide +kernel) (by decide +kernel) ⟨rfl, rfl, rfl, rfl, rfl, by decide +kernel⟩ ?hw ?hc
  case hw => w_witness2
  case hc =>
    refine Q.walk_ofG (l := PySem.Challenge.rw_answersalone_k55_splits_refused) (n := 63) (k := 8) (x := "_law_script") rfl (by decide) (by kernel_rfl) ⟨rfl, by decide, by decide⟩ ?F
    intro w mg fa h Y G hmg0
    obtain ⟨K, KX, c⟩ := Y
    have hmg : mg ("law" : PySem.Str) = some (.ref fa) := by
      have e : (HandSHeadRun.topDef (OpenLaw.row PySem.Challenge.rw_answersalone_k55_splits_refused).prog 41).name = ("law" : PySem.Str) := by kernel_rfl
      rw [← e]
      exact hmg0
    obtain ⟨fd, hb, hF⟩ := Q.factsR (P := (PySem.Challenge.rw_answersalone_k55_splits_refused).prog) (w := w) KX G hmg c
    exact ⟨K, fd, Q.spLaw K, ⟨KX, hF⟩, hb, fun H a ns hl _ hS => ⟨a, ns, rfl, hS, hl, fun _ => rfl⟩⟩
