import PyProof.Rows.All
import Wide.All
import OpenK.AllK
import Wide.FinOn
import HandS.Wide
import HandS.ForMost
import HandS.Defaults
import HandS.MakeKwOnly
import HandS.IsInst
import HandS.Conv
import HandS.Style
import HandS.Flow
import HandS.Codes
import HandS.Head0
import HandS.Head1
import HandS.Head2
import HandS.HeadEnd
import HandS.HeadHook1
import HandS.HeadHook2
import KE.GoesMore
import HandS.Zip
import KE.GoesEnum
import HandS.Property
import HandS.OwnEq
import HandS.MakeKw
import HandS.FStr
import HandS.StrMore
import HandS.StrSplit
import HandS.TryOnly
import PyProof.Conv_bool
import PyProof.MeetsIn
import PyProof.StrLawsIn
import PyProof.StrBlockL
import HandS.Gcd
import HandS.WideBits
import HandS.Exc
import HandS.ExcOwn
import HandS.ExcIs
import HandS.ForExc
import HandS.Small
import HandS.ExcInit
import HandS.ExcField
import HandS.HotCalls
import KE.KExcIs
import HandS.ExcInitHot
import HandS.ExcCtx
import HandS.ClsMeth
import HandS.HeadNt
import HandS.CallLocal
import PySem.Challenge.RW_answersalone_k03_nets_refused
import HandS.Head3
import PyProof.TupleOfSeq
import HandS.SortInts
import HandS.SortOrd
import HandS.ExcValue
import HandS.SetFor
import HandS.Strs
import HandS.Set
import PyProof.ListStr
import PyProof.FactsAll.subtypes_3
set_option Elab.async false
set_option linter.all false
set_option maxRecDepth 100000
namespace Q
open PySem PySem.Spec L2

/-- what a caller needs of a def that has no defaults -/
structure Cal (P : Program) (w : World) (K : PySem.W.Frag) (mg : Str → Option Value) (base : Heap)
    (x : Str) (k : Nat) (ps : List Str) (sp : Sp) : Prop where
  ex : ∃ (f : Addr) (fd : FuncData), FnOk P w K mg base CX0 k f fd ps sp ∧
    mg x = some (.ref f) ∧ PySem.W.keepIn K (.ref f) = true ∧ Binds K fd ps []

section
variable {X : Cx} {x : Str} {k : Nat} {ps : List Str} {sp : Sp} {e : Expr} {es : List Expr} {t : TA} {p pos : Pos}
theorem pe_cal (C : Cal X.prog X.w X.K X.mg X.base x k ps sp) (hr : Room k X.A) (hg : Gl X x) (ha : PA X (e :: es) t)
    (hd : (x == ("__debug__" : Str)) = false := by decide)
    (he : starEach (e :: es) X.env = (false, eval e X.env) :: starEach es X.env := by rfl)
    (hl : (backTo pos (starEach es X.env)).any (·.1) = false := by rfl) :
    PE X (.Call (.Name x p) (e :: es) [] pos) (tCall sp [] E0 t) := by
  obtain ⟨f, fd, F, hm, hk, hb⟩ := C.ex
  exact pe_call F hr hg hm hk hb .nil pass0 ha hd he hl
end

theorem cal_mk {P : Program} {w : World} {K : PySem.W.Frag} {mg : Str → Option Value} {base : Heap} {x q : Str} {pa : Arguments} {bd : List Stmt} {sc : Scope} {dv : List V} {kw : List (Str × V)} {k : Nat} {ps : List Str} {sp : Sp}
    (h : ∃ (f : Addr) (fd : FuncData), FunD K x q pa bd sc dv kw f fd ∧ mg x = some (.ref f))
    (ok : ∀ {f : Addr} {fd : FuncData}, FunD K x q pa bd sc dv kw f fd → FnOk P w K mg base CX0 k f fd ps sp)
    (b : ∀ {f : Addr} {fd : FuncData}, FunD K x q pa bd sc dv kw f fd → Binds K fd ps []) : Cal P w K mg base x k ps sp := by
  obtain ⟨f, fd, F, m⟩ := h
  exact ⟨f, fd, ok F, m, F.kp, b F⟩
theorem cal_mono {P : Program} {w : World} {K : PySem.W.Frag} {mg : Str → Option Value} {base : Heap} {x : Str} {j k : Nat} {ps : List Str} {sp : Sp} (C : Cal P w K mg base x j ps sp) (h : j ≤ k) : Cal P w K mg base x k ps sp := by
  obtain ⟨f, fd, F, m, kp, b⟩ := C.ex
  exact ⟨f, fd, F.mono h, m, kp, b⟩
/-- what a caller with keywords needs of a def: n values by position, the keywords ks; gV puts them (and the defaults) in the parameters' order -/
structure KCal (P : Program) (w : World) (K : PySem.W.Frag) (mg : Str → Option Value) (base : Heap) (x : Str) (k n : Nat) (ks : List Str) (gV : List V → List V → List V) (sp : Sp) : Prop where
  ex : ∃ (f : Addr) (fd : FuncData) (ps : List Str) (g : List Value → List Value → List Value), FnOk P w K mg base CX0 k f fd ps sp ∧ mg x = some (.ref f) ∧ PySem.W.keepIn K (.ref f) = true ∧ KBn K fd ps n ks g gV
theorem kcal_mk {P : Program} {w : World} {K : PySem.W.Frag} {mg : Str → Option Value} {base : Heap} {x q : Str} {pa : Arguments} {bd : List Stmt} {sc : Scope} {dv : List V} {kw : List (Str × V)} {k n : Nat} {ks ps : List Str} {sp : Sp} {gV : List V → List V → List V}
    (h : ∃ (f : Addr) (fd : FuncData), FunD K x q pa bd sc dv kw f fd ∧ mg x = some (.ref f))
    (ok : ∀ {f : Addr} {fd : FuncData}, FunD K x q pa bd sc dv kw f fd → FnOk P w K mg base CX0 k f fd ps sp)
    (b : ∀ {f : Addr} {fd : FuncData}, FunD K x q pa bd sc dv kw f fd → ∃ g, KBn K fd ps n ks g gV) : KCal P w K mg base x k n ks gV sp := by
  obtain ⟨f, fd, F, m⟩ := h
  obtain ⟨g, kb⟩ := b F
  exact ⟨f, fd, ps, g, ok F, m, F.kp, kb⟩
section
variable {X : Cx} {x : Str} {k n : Nat} {ks : List Str} {gV : List V → List V → List V} {sp : Sp} {e : Expr} {es : List Expr} {kws : List Keyword} {t tk : TA} {p pos : Pos}
theorem pe_kcal (C : KCal X.prog X.w X.K X.mg X.base x k n ks gV sp) (hr : Room k X.A) (hg : Gl X x) (ha : PA X (e :: es) t) (hkw : PK X kws tk)
    (hall : (backToKw pos (keywordEach kws X.env)).all (·.1.isSome) = true := by rfl) (hks : (backToKw pos (keywordEach kws X.env)).filterMap (·.1) = ks := by rfl)
    (hd : (x == ("__debug__" : Str)) = false := by decide) (he : starEach (e :: es) X.env = (false, eval e X.env) :: starEach es X.env := by rfl)
    (hl : ((backTo pos (starEach (e :: es) X.env)).any (·.1) || (backToKw pos (keywordEach kws X.env)).any (·.1.isNone)) = false := by rfl) :
    PE X (.Call (.Name x p) (e :: es) kws pos) (tCallN n ks.length sp gV E0 t tk) := by
  obtain ⟨f, fd, ps, g, F, hm, hk, hb⟩ := C.ex
  exact pe_callN F hr hg hm hk hb pass0 ha hkw hall hks hd he hl
theorem pe_kcal0 (C : KCal X.prog X.w X.K X.mg X.base x k 0 ks gV sp) (hr : Room k X.A) (hg : Gl X x) (hkw : PK X kws tk)
    (hall : (backToKw pos (keywordEach kws X.env)).all (·.1.isSome) = true := by rfl) (hks : (backToKw pos (keywordEach kws X.env)).filterMap (·.1) = ks := by rfl)
    (hd : (x == ("__debug__" : Str)) = false := by decide)
    (hl : ((backTo pos (starEach [] X.env)).any (·.1) || (backToKw pos (keywordEach kws X.env)).any (·.1.isNone)) = false := by rfl) :
    PE X (.Call (.Name x p) [] kws pos) (tCallN 0 ks.length sp gV E0 tNil tk) := by
  obtain ⟨f, fd, ps, g, F, hm, hk, hb⟩ := C.ex
  refine ⟨fun pins s σ H Q I h => ?_⟩
  refine wpAny_Call_Name_kw (ld_glob I hg hm ?_ hd)
  refine PySem.W.callWith_KW0 (h₀ := X.base) I.ok.mod.kin hk hall ?_ hl
  refine thn (hkw.run pos pins s σ H _ I h) fun ws s2 ⟨zs, H2, I2, rz, l1, l2, q2⟩ => ⟨I2.kIn, ?_⟩
  rw [hks]
  exact run_fnN (us := []) (vs := []) F hr hb pass0 I2 .nil rz l1 l2 q2
end
/-- what a caller needs of a method of the class at C -/
structure MCal (P : Program) (w : World) (K : PySem.W.Frag) (mg : Str → Option Value) (base : Heap) (C : Addr) (m : Str) (k : Nat) (ps : List Str) (sp : Sp) : Prop where
  ex : ∃ (f : Addr) (fd : FuncData), Meth K C m f ∧ FnOk P w K mg base CX0 k f fd ps sp ∧ Binds K fd ps []
theorem mcal_mk {P : Program} {w : World} {K : PySem.W.Frag} {mg : Str → Option Value} {base : Heap} {C : Addr} {m : Str} {x q : Str} {pa : Arguments} {bd : List Stmt} {sc : Scope} {dv : List V} {kw : List (Str × V)} {k : Nat} {ps : List Str} {sp : Sp} {f : Addr}
    (me : Meth K C m f) (h : ∃ (fd : FuncData), FunD K x q pa bd sc dv kw f fd)
    (ok : ∀ {f : Addr} {fd : FuncData}, FunD K x q pa bd sc dv kw f fd → FnOk P w K mg base CX0 k f fd ps sp)
    (b : ∀ {f : Addr} {fd : FuncData}, FunD K x q pa bd sc dv kw f fd → Binds K fd ps []) : MCal P w K mg base C m k ps sp := by
  obtain ⟨fd, F⟩ := h
  exact ⟨f, fd, me, ok F, b F⟩
/-- what a caller needs of a class that is made by its __init__ -/
structure MkC (P : Program) (w : World) (K : PySem.W.Frag) (mg : Str → Option Value) (base : Heap) (C : Addr) (k : Nat) (ps : List Str) (sp : Sp) : Prop where
  ex : ∃ (f : Addr) (fd : FuncData), Mk K C f ∧ FnOk P w K mg base CX0 k f fd ps sp ∧ Binds K fd ps []
section
variable {X : Cx} {K : PySem.W.Frag} {C : Addr} {k : Nat} {ps : List Str} {sp : Sp} {e o value : Expr} {es : List Expr} {t : TA} {ta tv : TE} {x m f : Str} {p pos pos' apos : Pos}
theorem pe_mcal {pl : Sem Bool} (he : PE X o ta) (c : Cls X.K C) (M : MCal X.prog X.w X.K X.mg X.base C m k ps sp) (hr : Room k X.A) (ha : PA X (e :: es) t)
    (hst : starEach (e :: es) X.env = (false, eval e X.env) :: starEach es X.env := by rfl) (hl : (backTo pos (starEach es X.env)).any (·.1) = false := by rfl)
    (ht : eval (.Call (.Attribute o m apos) (e :: es) [] pos) X.env = (do
      let self_ ← eval o X.env
      standAt apos.atName
      let (fn, first) ← holding [self_] (getMethod self_ m pl)
      callWith pos fn first (backTo pos (starEach (e :: es) X.env)) (backToKw pos (keywordEach [] X.env))) := by rfl) :
    PE X (.Call (.Attribute o m apos) (e :: es) [] pos) (tMeth C m sp [] E0 ta t) := by
  obtain ⟨f, fd, hm, F, hb⟩ := M.ex
  exact pe_meth he c hm F hr hb .nil pass0 ha hst hl ht
theorem pe_mcal0 {pl : Sem Bool} (he : PE X o ta) (c : Cls X.K C) (M : MCal X.prog X.w X.K X.mg X.base C m k ps sp) (hr : Room k X.A)
    (ht : eval (.Call (.Attribute o m apos) [] [] pos) X.env = (do
      let self_ ← eval o X.env
      standAt apos.atName
      let (fn, first) ← holding [self_] (getMethod self_ m pl)
      callWith pos fn first (backTo pos (starEach [] X.env)) (backToKw pos (keywordEach [] X.env))) := by rfl) :
    PE X (.Call (.Attribute o m apos) [] [] pos) (tMeth C m sp [] E0 ta tNil) := by
  obtain ⟨f, fd, hm, F, hb⟩ := M.ex
  exact pe_meth0 he c hm F hr hb .nil pass0 ht
theorem pe_mk (hm : X.mg x = some (.ref C)) (M : MkC X.prog X.w X.K X.mg X.base C k ps sp) (hr : Room (k + 1) X.A) (hg : Gl X x) (ha : PA X (e :: es) t)
    (hd : (x == ("__debug__" : Str)) = false := by decide) (he : starEach (e :: es) X.env = (false, eval e X.env) :: starEach es X.env := by rfl) (hl : (backTo pos (starEach es X.env)).any (·.1) = false := by rfl) :
    PE X (.Call (.Name x p) (e :: es) [] pos) (tMake C sp [] E0 t) := by
  obtain ⟨f, fd, hmk, F, hb⟩ := M.ex
  exact pe_make hmk F hr hg hm hb .nil pass0 ha hd he hl
theorem k_fld (ek : X.K = K) (he : PE X e ta) (hb : attributeBase e f X.env (eval e X.env) = eval e X.env) : PE X (.Attribute e f pos) (tFld K ta f) := by subst ek; exact pe_fld he hb
theorem k_sfld (ek : X.K = K) (ha : PE X o ta) (hv : PE X value tv) (hs : swapsWith value (some (.Attribute o f pos')) pos.line X.env = pure false) : PS X (.Assign [.Attribute o f pos'] value pos) (sFld K ta tv f) := by subst ek; exact ps_fld ha hv hs
end
/-- the parameters' order: the i-th of the values by position (0), of the defaults that lack (1), of the keywords (2) -/
def pick {α : Type} : List (Nat × Nat) → List α → List α → List α → List α
  | [], _, _, _ => []
  | (k, i) :: r, us, mv, ws => match (match k with | 0 => us | 1 => mv | _ => ws)[i]? with
    | some x => x :: pick r us mv ws
    | none => pick r us mv ws
theorem vals_pick : ∀ (ix : List (Nat × Nat)) {vs mz zs : List V} {us mv ws : List Value}, Vals vs us → Vals mz mv → Vals zs ws → Vals (pick ix vs mz zs) (pick ix us mv ws)
  | [], _, _, _, _, _, _, _, _, _ => .nil
  | (k, i) :: r, vs, mz, zs, us, mv, ws, h1, h2, h3 => by
    have hsel : Vals (match k with | 0 => vs | 1 => mz | _ => zs) (match k with | 0 => us | 1 => mv | _ => ws) := by
      match k with
      | 0 => exact h1
      | 1 => exact h2
      | _ + 2 => exact h3
    have ih := vals_pick r h1 h2 h3
    unfold pick
    cases e : (match k with | 0 => vs | 1 => mz | _ => zs)[i]? with
    | none =>
      rw [hsel.none_of e]
      exact ih
    | some x =>
      obtain ⟨u, hu, ru⟩ := hsel.get e
      rw [hu]
      exact .cons ru ih
theorem kbindsN {K : PySem.W.Frag} {x qual : Str} {params : Arguments} {body : List Stmt} {scope : Scope} {f : Addr} {fd : FuncData} {ps : List Str} (F : FunD K x qual params body scope [] [] f fd) (n : Nat) (ks : List Str) (ix : List (Nat × Nat))
    (h : ∀ (kV doc pm : Value) (an : Option Addr) (cdv ct : Value) (us ws : List Value), us.length = n → ws.length = ks.length →
      bindArgs (PySem.W.fnOf x qual params body scope .none kV doc pm an cdv ct) ⟨us, ks.zip ws⟩ = pure (ps.zip (pick ix us [] ws))) : ∃ g, KBn K fd ps n ks g (fun vs zs => pick ix vs [] zs) := by
  obtain ⟨oc, od, dV, kV, doc, pm, an, cdv, ct, osl, rfl, lk, hcd, hD, hK⟩ := F.ex
  rcases hD with ⟨_, rfl⟩ | ⟨e, _⟩
  · exact ⟨fun us ws => pick ix us [] ws, fun s us ws X l1 l2 => .of_eq (h kV doc pm an cdv ct us ws l1 l2), fun r1 r2 => vals_pick ix r1 .nil r2⟩
  · exact absurd rfl e
theorem kbindsK {K : PySem.W.Frag} {x qual : Str} {params : Arguments} {body : List Stmt} {scope : Scope} {kws : List (Str × V)} {f : Addr} {fd : FuncData} {ps : List Str} (F : FunD K x qual params body scope [] kws f fd) (n : Nat) (ks : List Str) (ms : List (Str × V)) (ix : List (Nat × Nat)) (hk : kws ≠ []) (hms : ∀ q ∈ ms, q ∈ kws)
    (h : ∀ (D : Addr) (doc pm : Value) (an : Option Addr) (cdv ct : Value) (us mv ws : List Value), us.length = n → mv.length = ms.length → ws.length = ks.length →
      KwChain D ((ms.map (·.1)).zip mv) (bindArgs (PySem.W.fnOf x qual params body scope .none (.ref D) doc pm an cdv ct) ⟨us, ks.zip ws⟩) (ps.zip (pick ix us mv ws))) : ∃ g, KBn K fd ps n ks g (fun vs zs => pick ix vs (ms.map (·.2)) zs) := by
  obtain ⟨mv, hb⟩ := F.kbinds0 n ks ms (fun us mv ws => pick ix us mv ws) hk hms (fun h1 h2 h3 => vals_pick ix h1 h2 h3) h
  exact ⟨_, hb⟩
/-- all but a stays -/
def Chg (a : Addr) (H H' : Hp) : Prop := ∀ b o, b ≠ a → H b = some o → H' b = some o
theorem Chg.refl {a : Addr} {H : Hp} : Chg a H H := fun _ _ _ h => h
theorem Chg.trans {a : Addr} {H H1 H2 : Hp} (x : Chg a H H1) (y : Chg a H1 H2) : Chg a H H2 := fun b o n h => y b o n (x b o n h)
theorem Chg.upd {a : Addr} {H : Hp} {o : HO} : Chg a H (upd H a o) := fun b _ n h => by rw [upd_ne n]; exact h
theorem Chg.new {a p : Addr} {H : Hp} {o : HO} (hp : H p = none) : Chg a H (L2.upd H p o) := fun b u _ h => by
  rw [upd_ne (ne_of_none h hp)]; exact h
theorem Same.chg {a : Addr} {H H' : Hp} (s : Same H H') : Chg a H H' := fun b o _ h => s b o h
theorem sm_chg {a : Addr} {H H' : Hp} (s : L2.Same H H') : Chg a H H' := fun b o _ h => s b o h
theorem same_new {H : Hp} {p : Addr} {o : HO} (hp : H p = none) : Same H (L2.upd H p o) := fun b u h => by
  rw [upd_ne (ne_of_none h hp)]; exact h

/-- a step of the walk that asks nothing else: found by its head -/
class Step (A : Prop) (B : outParam Prop) : Prop where
  imp : B → A
/-! ### readings, step by step: each g_.. takes one head away -/
section
variable {D : Ends} {σ : L2.St} {H : Hp} {Q : VK} {QB : Bool → Hp → Prop} {QL : List V → Hp → Prop}
theorem g_seq {t u : TS} (h : t { D with nx := u D } σ H) : tSeq t u D σ H := h
instance st_g_seq {t u : TS} : Step (tSeq t u D σ H) (t { D with nx := u D } σ H) := ⟨fun z => g_seq z⟩
theorem g_asg {te : TE} {g : TG} (h : te σ H fun x H1 => g x σ H1 D.nx) : tAsg te g D σ H := h
instance st_g_asg {te : TE} {g : TG} : Step (tAsg te g D σ H) (te σ H fun x H1 => g x σ H1 D.nx) := ⟨fun z => g_asg z⟩
def ParR (i j : Nat) (D : Ends) (σ : L2.St) (vs : List V) (H1 : Hp) : Prop := ∃ v w, vs = [v, w] ∧ D.nx ((σ.set i (some v)).set j (some w)) H1
theorem g_par {i j : Nat} {ta : TA} (h : ta σ H (ParR i j D σ)) : tPar i j ta D σ H := h
instance st_g_par {i j : Nat} {ta : TA} : Step (tPar i j ta D σ H) (ta σ H (ParR i j D σ)) := ⟨fun z => g_par z⟩
theorem g_parR {i j : Nat} {v w : V} (h : gName i v σ H fun σ1 H1 => gName j w σ1 H1 D.nx) : ParR i j D σ [v, w] H := ⟨v, w, rfl, h⟩
instance st_g_parR {i j : Nat} {v w : V} : Step (ParR i j D σ [v, w] H) (gName i v σ H fun σ1 H1 => gName j w σ1 H1 D.nx) := ⟨fun z => g_parR z⟩
def ParR3 (i j l : Nat) (D : Ends) (σ : L2.St) (vs : List V) (H1 : Hp) : Prop := ∃ v w u, vs = [v, w, u] ∧ D.nx (((σ.set i (some v)).set j (some w)).set l (some u)) H1
theorem g_par3 {i j l : Nat} {ta : TA} (h : ta σ H (ParR3 i j l D σ)) : tPar3 i j l ta D σ H := h
instance st_g_par3 {i j l : Nat} {ta : TA} : Step (tPar3 i j l ta D σ H) (ta σ H (ParR3 i j l D σ)) := ⟨fun z => g_par3 z⟩
theorem g_parR3 {i j l : Nat} {v w u : V} (h : gName i v σ H fun σ1 H1 => gName j w σ1 H1 fun σ2 H2 => gName l u σ2 H2 D.nx) : ParR3 i j l D σ [v, w, u] H := ⟨v, w, u, rfl, h⟩
instance st_g_parR3 {i j l : Nat} {v w u : V} : Step (ParR3 i j l D σ [v, w, u] H) (gName i v σ H fun σ1 H1 => gName j w σ1 H1 fun σ2 H2 => gName l u σ2 H2 D.nx) := ⟨fun z => g_parR3 z⟩
theorem g_aug {i : Nat} {te : TE} {ti : TIp} (h : tVar i σ H fun x _ => te σ H fun y H1 => ti x y H1 fun z H2 => gName i z σ H2 D.nx) : tAug i te ti D σ H := h
instance st_g_aug {i : Nat} {te : TE} {ti : TIp} : Step (tAug i te ti D σ H) (tVar i σ H fun x _ => te σ H fun y H1 => ti x y H1 fun z H2 => gName i z σ H2 D.nx) := ⟨fun z => g_aug z⟩
theorem g_ipI {f : Int → Int → Int} {i j : Int} (h : Q (.int (f i j)) H) : ipI f (.int i) (.int j) H Q := ⟨i, j, rfl, rfl, h⟩
instance st_g_ipI {f : Int → Int → Int} {i j : Int} : Step (ipI f (.int i) (.int j) H Q) (Q (.int (f i j)) H) := ⟨fun z => g_ipI z⟩
theorem g_ifS {c : TT} {t u : TS} (h : c σ H fun b H1 => if b = true then t D σ H1 else u D σ H1) : tIfS c t u D σ H := h
instance st_g_ifS {c : TT} {t u : TS} : Step (tIfS c t u D σ H) (c σ H fun b H1 => if b = true then t D σ H1 else u D σ H1) := ⟨fun z => g_ifS z⟩
theorem g_ret {te : TE} (h : te σ H D.rt) : tRet te D σ H := h
instance st_g_ret {te : TE} : Step (tRet te D σ H) (te σ H D.rt) := ⟨fun z => g_ret z⟩
theorem g_retN (h : D.rt .non H) : tRetN D σ H := h
instance st_g_retN : Step (tRetN D σ H) (D.rt .non H) := ⟨fun z => g_retN z⟩
theorem g_drop {te : TE} (h : te σ H fun _ H1 => D.nx σ H1) : tDrop te D σ H := h
instance st_g_drop {te : TE} : Step (tDrop te D σ H) (te σ H fun _ H1 => D.nx σ H1) := ⟨fun z => g_drop z⟩
theorem g_next (h : D.nx σ H) : tNext D σ H := h
instance st_g_next : Step (tNext D σ H) (D.nx σ H) := ⟨fun z => g_next z⟩
theorem g_brk (h : D.bk σ H) : tBreak D σ H := h
instance st_g_brk : Step (tBreak D σ H) (D.bk σ H) := ⟨fun z => g_brk z⟩
theorem g_cont (h : D.ct σ H) : tCont D σ H := h
instance st_g_cont : Step (tCont D σ H) (D.ct σ H) := ⟨fun z => g_cont z⟩
theorem g_c {v : V} (h : Q v H) : tC v σ H Q := h
instance st_g_c {v : V} : Step (tC v σ H Q) (Q v H) := ⟨fun z => g_c z⟩
theorem g_op {r : R2} {ta tb : TE} (h : ta σ H fun x H1 => tb σ H1 fun y H2 => r x y H2 Q) : tOp r ta tb σ H Q := h
instance st_g_op {r : R2} {ta tb : TE} : Step (tOp r ta tb σ H Q) (ta σ H fun x H1 => tb σ H1 fun y H2 => r x y H2 Q) := ⟨fun z => g_op z⟩
theorem g_un {r : V → Hp → VK → Prop} {ta : TE} (h : ta σ H fun x H1 => r x H1 Q) : tUn r ta σ H Q := h
instance st_g_un {r : V → Hp → VK → Prop} {ta : TE} : Step (tUn r ta σ H Q) (ta σ H fun x H1 => r x H1 Q) := ⟨fun z => g_un z⟩
theorem g_cb {r : List V → Hp → VK → Prop} {t : TA} (h : t σ H fun vs H1 => r vs H1 Q) : tCB r t σ H Q := h
instance st_g_cb {r : List V → Hp → VK → Prop} {t : TA} : Step (tCB r t σ H Q) (t σ H fun vs H1 => r vs H1 Q) := ⟨fun z => g_cb z⟩
theorem g_nil (h : QL [] H) : tNil σ H QL := h
instance st_g_nil : Step (tNil σ H QL) (QL [] H) := ⟨fun z => g_nil z⟩
theorem g_cons {ta : TE} {t : TA} (h : ta σ H fun x H1 => t σ H1 fun xs H2 => QL (x :: xs) H2) : tCons ta t σ H QL := h
instance st_g_cons {ta : TE} {t : TA} : Step (tCons ta t σ H QL) (ta σ H fun x H1 => t σ H1 fun xs H2 => QL (x :: xs) H2) := ⟨fun z => g_cons z⟩
def NewL (Q : VK) (xs : List V) (H1 : Hp) : Prop := xs.length ≤ sizeLine ∧ ∀ p, H1 p = none → Q (.ref p) (upd H1 p (.lst xs))
def NewT (Q : VK) (xs : List V) (H1 : Hp) : Prop := xs.length ≤ sizeLine ∧ ∀ p, H1 p = none → Q (.ref p) (upd H1 p (.tup xs))
theorem g_lst {t : TA} (h : t σ H fun xs H1 => NewL Q xs H1) : tLst t σ H Q := h
instance st_g_lst {t : TA} : Step (tLst t σ H Q) (t σ H fun xs H1 => NewL Q xs H1) := ⟨fun z => g_lst z⟩
theorem g_tup {t : TA} (h : t σ H fun xs H1 => NewT Q xs H1) : tTup t σ H Q := h
instance st_g_tup {t : TA} : Step (tTup t σ H Q) (t σ H fun xs H1 => NewT Q xs H1) := ⟨fun z => g_tup z⟩
theorem g_newL {xs : List V} (l : xs.length ≤ 1000) (h : ∀ p, H p = none → Q (.ref p) (upd H p (.lst xs))) : NewL Q xs H := ⟨Nat.le_of_lt (small1000 l), h⟩
theorem g_newT {xs : List V} (l : xs.length ≤ 1000) (h : ∀ p, H p = none → Q (.ref p) (upd H p (.tup xs))) : NewT Q xs H := ⟨Nat.le_of_lt (small1000 l), h⟩
theorem g_call {sp : Sp} {E : XK} {t : TA} (h : t σ H fun vs H1 => sp vs H1 Q E) : tCall sp [] E t σ H Q := by
  show t σ H fun vs H1 => sp (vs ++ []) H1 Q E
  simp only [List.append_nil]
  exact h
instance st_g_call {sp : Sp} {E : XK} {t : TA} : Step (tCall sp [] E t σ H Q) (t σ H fun vs H1 => sp vs H1 Q E) := ⟨fun z => g_call z⟩
theorem g_if {t : TT} {ta tb : TE} (h : t σ H fun c H1 => if c = true then ta σ H1 Q else tb σ H1 Q) : tIf t ta tb σ H Q := h
instance st_g_if {t : TT} {ta tb : TE} : Step (tIf t ta tb σ H Q) (t σ H fun c H1 => if c = true then ta σ H1 Q else tb σ H1 Q) := ⟨fun z => g_if z⟩
theorem g_andV {ta tb : TE} (h : ta σ H fun x H1 => ∃ c, x = .bl c ∧ if c = true then tb σ H1 Q else Q (.bl false) H1) : tAndV ta tb σ H Q := h
instance st_g_andV {ta tb : TE} : Step (tAndV ta tb σ H Q) (ta σ H fun x H1 => ∃ c, x = .bl c ∧ if c = true then tb σ H1 Q else Q (.bl false) H1) := ⟨fun z => g_andV z⟩
theorem g_orV {ta tb : TE} (h : ta σ H fun x H1 => ∃ c, x = .bl c ∧ if c = true then Q (.bl true) H1 else tb σ H1 Q) : tOrV ta tb σ H Q := h
instance st_g_orV {ta tb : TE} : Step (tOrV ta tb σ H Q) (ta σ H fun x H1 => ∃ c, x = .bl c ∧ if c = true then Q (.bl true) H1 else tb σ H1 Q) := ⟨fun z => g_orV z⟩
def ChR (r : R2) (tc : TE) (σ : L2.St) (Q : VK) (y z : V) (H3 : Hp) : Prop := ∃ k, z = .bl k ∧ (if k = true then tc σ H3 fun w H4 => r y w H4 Q else Q (.bl false) H3)
theorem g_chain {r r' : R2} {ta tb tc : TE} (h : ta σ H fun x H1 => tb σ H1 fun y H2 => r x y H2 (ChR r' tc σ Q y)) : tChain r r' ta tb tc σ H Q := h
instance st_g_chain {r r' : R2} {ta tb tc : TE} : Step (tChain r r' ta tb tc σ H Q) (ta σ H fun x H1 => tb σ H1 fun y H2 => r x y H2 (ChR r' tc σ Q y)) := ⟨fun z => g_chain z⟩
theorem g_chR {r : R2} {tc : TE} {y : V} {b : Bool} (h : if b = true then tc σ H fun w H4 => r y w H4 Q else Q (.bl false) H) : ChR r tc σ Q y (.bl b) H := ⟨b, rfl, h⟩
instance st_g_chR {r : R2} {tc : TE} {y : V} {b : Bool} : Step (ChR r tc σ Q y (.bl b) H) (if b = true then tc σ H fun w H4 => r y w H4 Q else Q (.bl false) H) := ⟨fun z => g_chR z⟩
theorem g_notV {ta : TE} (h : ta σ H fun x H1 => ∃ c, x = .bl c ∧ Q (.bl (!c)) H1) : tNotV ta σ H Q := h
instance st_g_notV {ta : TE} : Step (tNotV ta σ H Q) (ta σ H fun x H1 => ∃ c, x = .bl c ∧ Q (.bl (!c)) H1) := ⟨fun z => g_notV z⟩
theorem g_b {t : TE} (h : t σ H fun x H1 => ∃ c, x = .bl c ∧ QB c H1) : tB t σ H QB := h
instance st_g_b {t : TE} : Step (tB t σ H QB) (t σ H fun x H1 => ∃ c, x = .bl c ∧ QB c H1) := ⟨fun z => g_b z⟩
theorem g_test {t : TE} (h : t σ H fun x H1 => ∃ c, x = .bl c ∧ QB c H1) : tTest t σ H QB := h
instance st_g_test {t : TE} : Step (tTest t σ H QB) (t σ H fun x H1 => ∃ c, x = .bl c ∧ QB c H1) := ⟨fun z => g_test z⟩
theorem g_and {t u : TT} (h : t σ H fun c H1 => if c = true then u σ H1 QB else QB false H1) : tAnd t u σ H QB := h
instance st_g_and {t u : TT} : Step (tAnd t u σ H QB) (t σ H fun c H1 => if c = true then u σ H1 QB else QB false H1) := ⟨fun z => g_and z⟩
theorem g_or {t u : TT} (h : t σ H fun c H1 => if c = true then QB true H1 else u σ H1 QB) : tOr t u σ H QB := h
instance st_g_or {t u : TT} : Step (tOr t u σ H QB) (t σ H fun c H1 => if c = true then QB true H1 else u σ H1 QB) := ⟨fun z => g_or z⟩
theorem g_not {t : TT} (h : t σ H fun c H1 => QB (!c) H1) : tNot t σ H QB := h
instance st_g_not {t : TT} : Step (tNot t σ H QB) (t σ H fun c H1 => QB (!c) H1) := ⟨fun z => g_not z⟩
theorem g_yes (h : QB true H) : tYes σ H QB := h
instance st_g_yes : Step (tYes σ H QB) (QB true H) := ⟨fun z => g_yes z⟩
theorem g_bl {b : Bool} {R : Bool → Prop} (h : R b) : ∃ c, V.bl b = V.bl c ∧ R c := ⟨b, rfl, h⟩
instance st_g_bl {b : Bool} {R : Bool → Prop} : Step (∃ c, V.bl b = V.bl c ∧ R c) (R b) := ⟨fun z => g_bl z⟩
theorem g_sub {to ti : TE} {t : TSet} {v : V} {N : L2.St → Hp → Prop} (h : to σ H fun o H1 => ti σ H1 fun i H2 => t o i v H2 fun H3 => N σ H3) : gSub to ti t v σ H N := h
instance st_g_sub {to ti : TE} {t : TSet} {v : V} {N : L2.St → Hp → Prop} : Step (gSub to ti t v σ H N) (to σ H fun o H1 => ti σ H1 fun i H2 => t o i v H2 fun H3 => N σ H3) := ⟨fun z => g_sub z⟩
def KArg (n m : Nat) (sp : Sp) (gV : List V → List V → List V) (E : XK) (Q : VK) (vs zs : List V) (H : Hp) : Prop := vs.length = n ∧ zs.length = m ∧ sp (gV vs zs) H Q E
theorem g_callN {n m : Nat} {sp : Sp} {gV : List V → List V → List V} {E : XK} {t tk : TA} (h : t σ H fun vs H1 => tk σ H1 fun zs H2 => KArg n m sp gV E Q vs zs H2) : tCallN n m sp gV E t tk σ H Q := h
instance st_g_callN {n m : Nat} {sp : Sp} {gV : List V → List V → List V} {E : XK} {t tk : TA} : Step (tCallN n m sp gV E t tk σ H Q) (t σ H fun vs H1 => tk σ H1 fun zs H2 => KArg n m sp gV E Q vs zs H2) := ⟨fun z => g_callN z⟩
theorem g_kArg {n m : Nat} {sp : Sp} {gV : List V → List V → List V} {E : XK} {vs zs ws : List V} (h1 : vs.length = n) (h2 : zs.length = m) (e : gV vs zs = ws) (h : sp ws H Q E) : KArg n m sp gV E Q vs zs H := ⟨h1, h2, by rw [e]; exact h⟩
def BmR (K : PySem.W.Frag) (T : String) (r : V → List V → Hp → VK → Prop) (t : TA) (σ : L2.St) (Q : VK) (x : V) (H1 : Hp) : Prop := tyV K T x H1 ∧ t σ H1 fun xs H2 => r x xs H2 Q
theorem g_bm {K : PySem.W.Frag} {T : String} {r : V → List V → Hp → VK → Prop} {to : TE} {t : TA} (h : to σ H (BmR K T r t σ Q)) : tBM K T r to t σ H Q := h
instance st_g_bm {K : PySem.W.Frag} {T : String} {r : V → List V → Hp → VK → Prop} {to : TE} {t : TA} : Step (tBM K T r to t σ H Q) (to σ H (BmR K T r t σ Q)) := ⟨fun z => g_bm z⟩
theorem g_bmL {K : PySem.W.Frag} {r : V → List V → Hp → VK → Prop} {t : TA} {p : Addr} {xs : List V} (h : SqL K H p xs) (q : t σ H fun ys H2 => r (.ref p) ys H2 Q) : BmR K "list" r t σ Q (.ref p) H := ⟨.inl ⟨rfl, xs, h⟩, q⟩
def FldR (K : PySem.W.Frag) (f : Str) (Q : VK) (x : V) (H1 : Hp) : Prop := ∃ a C dx fs v, x = .ref a ∧ H1 a = some (.ins C dx fs) ∧ Cls K C ∧ NoAttr K C f ∧ fs.lookup f = some v ∧ Q v H1
theorem g_fld {K : PySem.W.Frag} {ta : TE} {f : Str} (h : ta σ H (FldR K f Q)) : tFld K ta f σ H Q := h
instance st_g_fld {K : PySem.W.Frag} {ta : TE} {f : Str} : Step (tFld K ta f σ H Q) (ta σ H (FldR K f Q)) := ⟨fun z => g_fld z⟩
theorem g_fldR {K : PySem.W.Frag} {f : Str} {a C dx : Addr} {fs : List (Str × V)} {v : V} (h : H a = some (.ins C dx fs)) (c : Cls K C) (n : NoAttr K C f) (l : fs.lookup f = some v) (q : Q v H) : FldR K f Q (.ref a) H := ⟨a, C, dx, fs, v, rfl, h, c, n, l, q⟩
def MethR (C : Addr) (m : Str) (sp : Sp) (E : XK) (t : TA) (σ : L2.St) (Q : VK) (x : V) (H1 : Hp) : Prop := ∃ a dx fs, x = .ref a ∧ H1 a = some (.ins C dx fs) ∧ fs.lookup m = none ∧ t σ H1 fun vs H2 => sp (x :: vs) H2 Q E
theorem g_meth {C : Addr} {m : Str} {sp : Sp} {E : XK} {ta : TE} {t : TA} (h : ta σ H (MethR C m sp E t σ Q)) : tMeth C m sp [] E ta t σ H Q := by
  show ta σ H fun x H1 => ∃ a dx fs, x = .ref a ∧ H1 a = some (.ins C dx fs) ∧ fs.lookup m = none ∧ t σ H1 fun vs H2 => sp (x :: (vs ++ [])) H2 Q E
  simp only [List.append_nil]
  exact h
instance st_g_meth {C : Addr} {m : Str} {sp : Sp} {E : XK} {ta : TE} {t : TA} : Step (tMeth C m sp [] E ta t σ H Q) (ta σ H (MethR C m sp E t σ Q)) := ⟨fun z => g_meth z⟩
theorem g_methR {C : Addr} {m : Str} {sp : Sp} {E : XK} {t : TA} {a dx : Addr} {fs : List (Str × V)} (h : H a = some (.ins C dx fs)) (l : fs.lookup m = none) (q : t σ H fun vs H2 => sp (.ref a :: vs) H2 Q E) : MethR C m sp E t σ Q (.ref a) H := ⟨a, dx, fs, rfl, h, l, q⟩
def SFldR (K : PySem.W.Frag) (f : Str) (D : Ends) (σ : L2.St) (y x : V) (H2 : Hp) : Prop := ∃ a C dx fs, x = .ref a ∧ H2 a = some (.ins C dx fs) ∧ Cls K C ∧ NoAttr K C f ∧ fs.length < 1000 ∧ D.nx σ (upd H2 a (.ins C dx (putF f y fs)))
theorem g_sfld {K : PySem.W.Frag} {ta tv : TE} {f : Str} (h : tv σ H fun y H1 => ta σ H1 (SFldR K f D σ y)) : sFld K ta tv f D σ H := h
instance st_g_sfld {K : PySem.W.Frag} {ta tv : TE} {f : Str} : Step (sFld K ta tv f D σ H) (tv σ H fun y H1 => ta σ H1 (SFldR K f D σ y)) := ⟨fun z => g_sfld z⟩
theorem g_sfldR {K : PySem.W.Frag} {f : Str} {a C dx : Addr} {fs : List (Str × V)} {y : V} (h : H a = some (.ins C dx fs)) (c : Cls K C) (n : NoAttr K C f) (l : fs.length < 1000) (q : D.nx σ (upd H a (.ins C dx (putF f y fs)))) : SFldR K f D σ y (.ref a) H := ⟨a, C, dx, fs, rfl, h, c, n, l, q⟩
/-! values -/
theorem g_rI0 {g : Int → Int → V} {i j : Int} (h : Q (g i j) H) : rI0 g (.int i) (.int j) H Q := ⟨i, j, rfl, rfl, h⟩
instance st_g_rI0 {g : Int → Int → V} {i j : Int} : Step (rI0 g (.int i) (.int j) H Q) (Q (g i j) H) := ⟨fun z => g_rI0 z⟩
theorem g_rI {C : Int → Int → Prop} {g : Int → Int → V} {i j : Int} (c : C i j) (h : Q (g i j) H) : rI C g (.int i) (.int j) H Q := ⟨i, j, rfl, rfl, c, h⟩
theorem g_rU {g : Int → V} {i : Int} (h : Q (g i) H) : rU g (.int i) H Q := ⟨i, rfl, h⟩
instance st_g_rU {g : Int → V} {i : Int} : Step (rU g (.int i) H Q) (Q (g i) H) := ⟨fun z => g_rU z⟩
theorem g_eqI {i j : Int} (h : Q (.bl (decide (i = j))) H) : rEq (.int i) (.int j) H Q :=
  ⟨rfl, by rw [show decide (V.int i = V.int j) = decide (i = j) from by simp only [V.int.injEq]]; exact h⟩
instance st_g_eqI {i j : Int} : Step (rEq (.int i) (.int j) H Q) (Q (.bl (decide (i = j))) H) := ⟨fun z => g_eqI z⟩
theorem g_neI {i j : Int} (h : Q (.bl (!decide (i = j))) H) : rNe (.int i) (.int j) H Q :=
  ⟨rfl, by rw [show decide (V.int i = V.int j) = decide (i = j) from by simp only [V.int.injEq]]; exact h⟩
instance st_g_neI {i j : Int} : Step (rNe (.int i) (.int j) H Q) (Q (.bl (!decide (i = j))) H) := ⟨fun z => g_neI z⟩
theorem g_eqS {i j : Str} (h : Q (.bl (decide (i = j))) H) : rEq (.str i) (.str j) H Q :=
  ⟨rfl, by rw [show decide (V.str i = V.str j) = decide (i = j) from by simp only [V.str.injEq]]; exact h⟩
instance st_g_eqS {i j : Str} : Step (rEq (.str i) (.str j) H Q) (Q (.bl (decide (i = j))) H) := ⟨fun z => g_eqS z⟩
theorem g_eqB {i j : Bool} (h : Q (.bl (decide (i = j))) H) : rEq (.bl i) (.bl j) H Q :=
  ⟨rfl, by rw [show decide (V.bl i = V.bl j) = decide (i = j) from by simp only [V.bl.injEq]]; exact h⟩
instance st_g_eqB {i j : Bool} : Step (rEq (.bl i) (.bl j) H Q) (Q (.bl (decide (i = j))) H) := ⟨fun z => g_eqB z⟩
theorem g_neB {i j : Bool} (h : Q (.bl (!decide (i = j))) H) : rNe (.bl i) (.bl j) H Q :=
  ⟨rfl, by rw [show decide (V.bl i = V.bl j) = decide (i = j) from by simp only [V.bl.injEq]]; exact h⟩
instance st_g_neB {i j : Bool} : Step (rNe (.bl i) (.bl j) H Q) (Q (.bl (!decide (i = j))) H) := ⟨fun z => g_neB z⟩
theorem g_isN {x : V} (h : Q (.bl (decide (x = .non))) H) : (∃ _ : Unit, True) ∧ Q (.bl (decide (x = .non))) H := ⟨⟨(), trivial⟩, h⟩
theorem g_ixL {K : PySem.W.Frag} {p : Addr} {xs : List V} {i : Int} {v : V} (h : SqL K H p xs) (e : atI xs i = some v) (q : Q v H) : rIxL K (.ref p) (.int i) H Q := ⟨p, xs, i, v, rfl, rfl, h, e, q⟩
theorem g_setL {p : Addr} {xs : List V} {k : Int} {j : Nat} {v : V} {N : Hp → Prop} (h : H p = some (.lst xs)) (e : ixN xs.length k = some j) (q : N (upd H p (.lst (xs.set j v)))) : rSetL (.ref p) (.int k) v H N := ⟨p, xs, k, j, rfl, rfl, h, e, q⟩
theorem g_p6 (h : Q (.int 1000000) H) : rI CPow (fun i j => V.int (i ^ j.toNat)) (.int 10) (.int 6) H Q := ⟨10, 6, rfl, rfl, ⟨by decide, by decide, by decide⟩, h⟩
instance st_g_p6 : Step (rI CPow (fun i j => V.int (i ^ j.toNat)) (.int 10) (.int 6) H Q) (Q (.int 1000000) H) := ⟨fun z => g_p6 z⟩
theorem g_p18 (h : Q (.int 1000000000000000000) H) : rI CPow (fun i j => V.int (i ^ j.toNat)) (.int 10) (.int 18) H Q := ⟨10, 18, rfl, rfl, ⟨by decide, by decide, by decide⟩, h⟩
instance st_g_p18 : Step (rI CPow (fun i j => V.int (i ^ j.toNat)) (.int 10) (.int 18) H Q) (Q (.int 1000000000000000000) H) := ⟨fun z => g_p18 z⟩
theorem g_sl {r : V → Option Int → Option Int → Hp → VK → Prop} {te : TE} {tl th : TO} (h : te σ H fun x H1 => tl σ H1 fun l H2 => th σ H2 fun u H3 => r x l u H3 Q) : tSl r te tl th σ H Q := h
instance st_g_sl {r : V → Option Int → Option Int → Hp → VK → Prop} {te : TE} {tl th : TO} : Step (tSl r te tl th σ H Q) (te σ H fun x H1 => tl σ H1 fun l H2 => th σ H2 fun u H3 => r x l u H3 Q) := ⟨fun z => g_sl z⟩
def PartR (x : V) (R : Option Int → Hp → Prop) (H : Hp) : Prop := ∃ i, x = .int i ∧ R (some i) H
theorem g_part {te : TE} {R : Option Int → Hp → Prop} (h : te σ H fun x H1 => PartR x R H1) : tPart te σ H R := h
instance st_g_part {te : TE} {R : Option Int → Hp → Prop} : Step (tPart te σ H R) (te σ H fun x H1 => PartR x R H1) := ⟨fun z => g_part z⟩
theorem g_partI {i : Int} {R : Option Int → Hp → Prop} (h : R (some i) H) : PartR (.int i) R H := ⟨i, rfl, h⟩
instance st_g_partI {i : Int} {R : Option Int → Hp → Prop} : Step (PartR (.int i) R H) (R (some i) H) := ⟨fun z => g_partI z⟩
theorem g_cat {l b : Addr} {xs zs : List V} (h1 : H l = some (.lst xs)) (h2 : H b = some (.lst zs)) (hl : xs.length + zs.length ≤ 1000) (q : ∀ p, H p = none → Q (.ref p) (upd H p (.lst (xs ++ zs)))) : rCat (.ref l) (.ref b) H Q :=
  ⟨l, b, xs, zs, rfl, rfl, h1, h2, Nat.le_of_lt (small1000 hl), q⟩
theorem g_ixS {K : PySem.W.Frag} {p : Addr} {xs : List V} {i : Int} {v : V} (h : SqL K H p xs) (e : atI xs i = some v) (q : Q v H) : rIxL K (.ref p) (.int i) H Q := g_ixL h e q
theorem g_noPart {R : Option Int → Hp → Prop} (h : R none H) : tNoPart σ H R := h
instance st_g_noPart {R : Option Int → Hp → Prop} : Step (tNoPart σ H R) (R none H) := ⟨fun z => g_noPart z⟩
theorem g_slL {K : PySem.W.Frag} {a : Addr} {xs : List V} {lo hi : Option Int} (h : SqL K H a xs) (q : ∀ p, H p = none → Q (.ref p) (upd H p (.lst (cutV xs lo hi)))) : rSlL K (.ref a) lo hi H Q := ⟨a, xs, rfl, h, q⟩
theorem g_in {K : PySem.W.Frag} {p : Addr} {x : V} {xs : List V} (h : SqL K H p xs ∨ SqT K H p xs) (fx : flatV x = true) (fs : xs.all flatV = true) (q : Q (.bl (inV x xs)) H) : rIn K false x (.ref p) H Q := ⟨p, xs, rfl, h, fx, fs, q⟩
theorem g_notin {K : PySem.W.Frag} {p : Addr} {x : V} {xs : List V} (h : SqL K H p xs ∨ SqT K H p xs) (fx : flatV x = true) (fs : xs.all flatV = true) (q : Q (.bl (!inV x xs)) H) : rIn K true x (.ref p) H Q := ⟨p, xs, rfl, h, fx, fs, q⟩
theorem flat_ints (ns : List Int) : (ns.map V.int).all flatV = true := by
  induction ns with
  | nil => rfl
  | cons n r ih => rw [List.map_cons, List.all_cons, ih]; rfl
theorem in_ints (i : Int) (ns : List Int) : inV (.int i) (ns.map V.int) = decide (i ∈ ns) := by
  unfold inV
  induction ns with
  | nil => rfl
  | cons n r ih =>
    rw [List.map_cons, List.any_cons, ih]
    show (n == i || decide (i ∈ r)) = decide (i ∈ n :: r)
    by_cases e : n = i
    · subst e; simp
    · have e2 : ¬ i = n := fun z => e z.symm
      simp [e, e2]
theorem g_inI {K : PySem.W.Frag} {p : Addr} {i : Int} {ns : List Int} (h : SqL K H p (ns.map V.int) ∨ SqT K H p (ns.map V.int)) (q : Q (.bl (decide (i ∈ ns))) H) : rIn K false (.int i) (.ref p) H Q :=
  g_in h rfl (flat_ints ns) (by rw [in_ints]; exact q)
theorem g_notinI {K : PySem.W.Frag} {p : Addr} {i : Int} {ns : List Int} (h : SqL K H p (ns.map V.int) ∨ SqT K H p (ns.map V.int)) (q : Q (.bl (!decide (i ∈ ns))) H) : rIn K true (.int i) (.ref p) H Q :=
  g_notin h rfl (flat_ints ns) (by rw [in_ints]; exact q)
/-! tests known and open -/
theorem g_iteD {p A B : Prop} [Decidable p] (h1 : p → A) (h2 : ¬ p → B) : if decide p = true then A else B := by
  by_cases h : p
  · rw [if_pos (decide_eq_true h)]; exact h1 h
  · rw [if_neg (by simp [h])]; exact h2 h
theorem g_iteN {p A B : Prop} [Decidable p] (h1 : ¬ p → A) (h2 : p → B) : if (!decide p) = true then A else B := by
  by_cases h : p
  · rw [if_neg (by simp [h])]; exact h2 h
  · rw [if_pos (by simp [h])]; exact h1 h
theorem g_iteY {p A B : Prop} [Decidable p] (h : p) (h1 : A) : if decide p = true then A else B := by
  rw [if_pos (decide_eq_true h)]; exact h1
theorem g_iteX {p A B : Prop} [Decidable p] (h : ¬ p) (h1 : B) : if decide p = true then A else B := by
  rw [if_neg (by simp [h])]; exact h1
theorem g_iteNY {p A B : Prop} [Decidable p] (h : ¬ p) (h1 : A) : if (!decide p) = true then A else B := by
  rw [if_pos (by simp [h])]; exact h1
theorem g_iteNX {p A B : Prop} [Decidable p] (h : p) (h1 : B) : if (!decide p) = true then A else B := by
  rw [if_neg (by simp [h])]; exact h1
theorem g_iteCT {b : Bool} {A B : Prop} (h : b = true) (q : A) : if b = true then A else B := by rw [if_pos h]; exact q
theorem g_iteCF {b : Bool} {A B : Prop} (h : b = false) (q : B) : if b = true then A else B := by rw [h, if_neg Bool.false_ne_true]; exact q
theorem g_iteBB {b : Bool} {A B : Prop} (h1 : b = true → A) (h2 : b = false → B) : if b = true then A else B := by
  cases b
  · rw [if_neg Bool.false_ne_true]; exact h2 rfl
  · rw [if_pos rfl]; exact h1 rfl
end
/-! ### built-ins, named -/
section
variable {X : Cx} {σ : L2.St} {H : Hp} {Q : VK}
def qInt : List V → Hp → VK → Prop := fun xs H Q => ∃ i, xs = [.int i] ∧ Q (.int i) H
theorem c_int : CallR X (.type "int") qInt := fun pins s σ H xs us Q I r h => call_int1 pins s σ H xs us Q I r (.inl h)
theorem g_int {i : Int} (h : Q (.int i) H) : qInt [.int i] H Q := ⟨i, rfl, h⟩
instance st_g_int {i : Int} : Step (qInt [.int i] H Q) (Q (.int i) H) := ⟨fun z => g_int z⟩
def qLen (K : PySem.W.Frag) : List V → Hp → VK → Prop := fun xs H Q => ∃ p ys, xs = [.ref p] ∧ (SqL K H p ys ∨ SqT K H p ys) ∧ Q (.int ys.length) H
theorem c_len : CallR X (.builtin "len") (qLen X.K) := call_len_seq
theorem g_len {K : PySem.W.Frag} {p : Addr} {ys : List V} (h : SqL K H p ys ∨ SqT K H p ys) (q : Q (.int ys.length) H) : qLen K [.ref p] H Q := ⟨p, ys, rfl, h, q⟩
def qList (K : PySem.W.Frag) : List V → Hp → VK → Prop := fun xs H Q => ∃ p ys, xs = [.ref p] ∧ (SqL K H p ys ∨ SqT K H p ys) ∧ ∀ l, H l = none → Q (.ref l) (upd H l (.lst ys))
theorem c_list : CallR X (.type "list") (qList X.K) := call_list_of
theorem g_list {K : PySem.W.Frag} {p : Addr} {ys : List V} (h : SqL K H p ys ∨ SqT K H p ys) (q : ∀ l, H l = none → Q (.ref l) (upd H l (.lst ys))) : qList K [.ref p] H Q := ⟨p, ys, rfl, h, q⟩
def qTuple (K : PySem.W.Frag) : List V → Hp → VK → Prop := fun xs H Q => ∃ p ys, xs = [.ref p] ∧ SqL K H p ys ∧ ∀ l, H l = none → Q (.ref l) (upd H l (.tup ys))
theorem c_tuple : CallR X (.type "tuple") (qTuple X.K) := fun pins s σ H xs us Q I r ⟨p, ys, e, h, q⟩ => call_tuple_of pins s σ H xs us Q I r ⟨p, ys, e, .inl ⟨h, q⟩⟩
theorem g_tuple {K : PySem.W.Frag} {p : Addr} {ys : List V} (h : SqL K H p ys) (q : ∀ l, H l = none → Q (.ref l) (upd H l (.tup ys))) : qTuple K [.ref p] H Q := ⟨p, ys, rfl, h, q⟩
theorem g_sum {K : PySem.W.Frag} {a : Addr} {ns : List Int} (h : SqL K H a (ns.map V.int)) (q : Q (.int ns.sum) H) : rSum K [.ref a] H Q := ⟨a, ns, rfl, h, q⟩
theorem g_max {K : PySem.W.Frag} {a : Addr} {ns : List Int} (h : SqL K H a (ns.map V.int)) (l : 0 < ns.length) (q : ∀ m, m ∈ ns → (∀ y, y ∈ ns → y ≤ m) → Q (.int m) H) : rMax K [.ref a] H Q := ⟨a, ns, rfl, h, l, q⟩
theorem g_any {K : PySem.W.Frag} {a : Addr} {bs : List Bool} (h : SqL K H a (bs.map V.bl)) (q : Q (.bl (bs.any id)) H) : rAny K [.ref a] H Q := ⟨a, bs, rfl, h, q⟩
theorem g_all {K : PySem.W.Frag} {a : Addr} {bs : List Bool} (h : SqL K H a (bs.map V.bl)) (q : Q (.bl (bs.all id)) H) : rAll K [.ref a] H Q := ⟨a, bs, rfl, h, q⟩
def qIsN : R2 := fun x y H Q => y = .non ∧ Q (.bl (decide (x = .non))) H
theorem o_isN : OpR X (compareOp .Is) qIsN := op_isN
theorem g_isNr {r : Addr} (h : Q (.bl false) H) : qIsN (.ref r) .non H Q := ⟨rfl, by rw [decide_eq_false (by intro e; cases e)]; exact h⟩
instance st_g_isNr {r : Addr} : Step (qIsN (.ref r) .non H Q) (Q (.bl false) H) := ⟨fun z => g_isNr z⟩
theorem g_isNn (h : Q (.bl true) H) : qIsN .non .non H Q := ⟨rfl, h⟩
instance st_g_isNn : Step (qIsN .non .non H Q) (Q (.bl true) H) := ⟨fun z => g_isNn z⟩
theorem g_isNb {b : Bool} (h : Q (.bl false) H) : qIsN (.bl b) .non H Q := ⟨rfl, by rw [decide_eq_false (by intro e; cases e)]; exact h⟩
instance st_g_isNb {b : Bool} : Step (qIsN (.bl b) .non H Q) (Q (.bl false) H) := ⟨fun z => g_isNb z⟩
theorem g_isNs {z : Str} (h : Q (.bl false) H) : qIsN (.str z) .non H Q := ⟨rfl, by rw [decide_eq_false (by intro e; cases e)]; exact h⟩
instance st_g_isNs {z : Str} : Step (qIsN (.str z) .non H Q) (Q (.bl false) H) := ⟨fun z => g_isNs z⟩
theorem g_isNi {i : Int} (h : Q (.bl false) H) : qIsN (.int i) .non H Q := ⟨rfl, by rw [decide_eq_false (by intro e; cases e)]; exact h⟩
instance st_g_isNi {i : Int} : Step (qIsN (.int i) .non H Q) (Q (.bl false) H) := ⟨fun z => g_isNi z⟩
end

theorem g_v0 {v : V} {r : L2.St} {H : Hp} {Q : VK} (h : Q v H) : tVar 0 (some v :: r) H Q := ⟨v, rfl, h⟩
instance st_g_v0 {v : V} {r : L2.St} {H : Hp} {Q : VK} : Step (tVar 0 (some v :: r) H Q) (Q v H) := ⟨fun z => g_v0 z⟩
theorem g_n0 {y : Option V} {v : V} {r : L2.St} {H : Hp} {N : L2.St → Hp → Prop} (h : N (some v :: r) H) : gName 0 v (y :: r) H N := h
instance st_g_n0 {y : Option V} {v : V} {r : L2.St} {H : Hp} {N : L2.St → Hp → Prop} : Step (gName 0 v (y :: r) H N) (N (some v :: r) H) := ⟨fun z => g_n0 z⟩
theorem g_v1 {x0 : Option V} {v : V} {r : L2.St} {H : Hp} {Q : VK} (h : Q v H) : tVar 1 (x0 :: some v :: r) H Q := ⟨v, rfl, h⟩
instance st_g_v1 {x0 : Option V} {v : V} {r : L2.St} {H : Hp} {Q : VK} : Step (tVar 1 (x0 :: some v :: r) H Q) (Q v H) := ⟨fun z => g_v1 z⟩
theorem g_n1 {x0 y : Option V} {v : V} {r : L2.St} {H : Hp} {N : L2.St → Hp → Prop} (h : N (x0 :: some v :: r) H) : gName 1 v (x0 :: y :: r) H N := h
instance st_g_n1 {x0 y : Option V} {v : V} {r : L2.St} {H : Hp} {N : L2.St → Hp → Prop} : Step (gName 1 v (x0 :: y :: r) H N) (N (x0 :: some v :: r) H) := ⟨fun z => g_n1 z⟩
theorem g_v2 {x0 x1 : Option V} {v : V} {r : L2.St} {H : Hp} {Q : VK} (h : Q v H) : tVar 2 (x0 :: x1 :: some v :: r) H Q := ⟨v, rfl, h⟩
instance st_g_v2 {x0 x1 : Option V} {v : V} {r : L2.St} {H : Hp} {Q : VK} : Step (tVar 2 (x0 :: x1 :: some v :: r) H Q) (Q v H) := ⟨fun z => g_v2 z⟩
theorem g_n2 {x0 x1 y : Option V} {v : V} {r : L2.St} {H : Hp} {N : L2.St → Hp → Prop} (h : N (x0 :: x1 :: some v :: r) H) : gName 2 v (x0 :: x1 :: y :: r) H N := h
instance st_g_n2 {x0 x1 y : Option V} {v : V} {r : L2.St} {H : Hp} {N : L2.St → Hp → Prop} : Step (gName 2 v (x0 :: x1 :: y :: r) H N) (N (x0 :: x1 :: some v :: r) H) := ⟨fun z => g_n2 z⟩
theorem g_v3 {x0 x1 x2 : Option V} {v : V} {r : L2.St} {H : Hp} {Q : VK} (h : Q v H) : tVar 3 (x0 :: x1 :: x2 :: some v :: r) H Q := ⟨v, rfl, h⟩
instance st_g_v3 {x0 x1 x2 : Option V} {v : V} {r : L2.St} {H : Hp} {Q : VK} : Step (tVar 3 (x0 :: x1 :: x2 :: some v :: r) H Q) (Q v H) := ⟨fun z => g_v3 z⟩
theorem g_n3 {x0 x1 x2 y : Option V} {v : V} {r : L2.St} {H : Hp} {N : L2.St → Hp → Prop} (h : N (x0 :: x1 :: x2 :: some v :: r) H) : gName 3 v (x0 :: x1 :: x2 :: y :: r) H N := h
instance st_g_n3 {x0 x1 x2 y : Option V} {v : V} {r : L2.St} {H : Hp} {N : L2.St → Hp → Prop} : Step (gName 3 v (x0 :: x1 :: x2 :: y :: r) H N) (N (x0 :: x1 :: x2 :: some v :: r) H) := ⟨fun z => g_n3 z⟩
theorem g_v4 {x0 x1 x2 x3 : Option V} {v : V} {r : L2.St} {H : Hp} {Q : VK} (h : Q v H) : tVar 4 (x0 :: x1 :: x2 :: x3 :: some v :: r) H Q := ⟨v, rfl, h⟩
instance st_g_v4 {x0 x1 x2 x3 : Option V} {v : V} {r : L2.St} {H : Hp} {Q : VK} : Step (tVar 4 (x0 :: x1 :: x2 :: x3 :: some v :: r) H Q) (Q v H) := ⟨fun z => g_v4 z⟩
theorem g_n4 {x0 x1 x2 x3 y : Option V} {v : V} {r : L2.St} {H : Hp} {N : L2.St → Hp → Prop} (h : N (x0 :: x1 :: x2 :: x3 :: some v :: r) H) : gName 4 v (x0 :: x1 :: x2 :: x3 :: y :: r) H N := h
instance st_g_n4 {x0 x1 x2 x3 y : Option V} {v : V} {r : L2.St} {H : Hp} {N : L2.St → Hp → Prop} : Step (gName 4 v (x0 :: x1 :: x2 :: x3 :: y :: r) H N) (N (x0 :: x1 :: x2 :: x3 :: some v :: r) H) := ⟨fun z => g_n4 z⟩
theorem g_v5 {x0 x1 x2 x3 x4 : Option V} {v : V} {r : L2.St} {H : Hp} {Q : VK} (h : Q v H) : tVar 5 (x0 :: x1 :: x2 :: x3 :: x4 :: some v :: r) H Q := ⟨v, rfl, h⟩
instance st_g_v5 {x0 x1 x2 x3 x4 : Option V} {v : V} {r : L2.St} {H : Hp} {Q : VK} : Step (tVar 5 (x0 :: x1 :: x2 :: x3 :: x4 :: some v :: r) H Q) (Q v H) := ⟨fun z => g_v5 z⟩
theorem g_n5 {x0 x1 x2 x3 x4 y : Option V} {v : V} {r : L2.St} {H : Hp} {N : L2.St → Hp → Prop} (h : N (x0 :: x1 :: x2 :: x3 :: x4 :: some v :: r) H) : gName 5 v (x0 :: x1 :: x2 :: x3 :: x4 :: y :: r) H N := h
instance st_g_n5 {x0 x1 x2 x3 x4 y : Option V} {v : V} {r : L2.St} {H : Hp} {N : L2.St → Hp → Prop} : Step (gName 5 v (x0 :: x1 :: x2 :: x3 :: x4 :: y :: r) H N) (N (x0 :: x1 :: x2 :: x3 :: x4 :: some v :: r) H) := ⟨fun z => g_n5 z⟩
theorem g_v6 {x0 x1 x2 x3 x4 x5 : Option V} {v : V} {r : L2.St} {H : Hp} {Q : VK} (h : Q v H) : tVar 6 (x0 :: x1 :: x2 :: x3 :: x4 :: x5 :: some v :: r) H Q := ⟨v, rfl, h⟩
instance st_g_v6 {x0 x1 x2 x3 x4 x5 : Option V} {v : V} {r : L2.St} {H : Hp} {Q : VK} : Step (tVar 6 (x0 :: x1 :: x2 :: x3 :: x4 :: x5 :: some v :: r) H Q) (Q v H) := ⟨fun z => g_v6 z⟩
theorem g_n6 {x0 x1 x2 x3 x4 x5 y : Option V} {v : V} {r : L2.St} {H : Hp} {N : L2.St → Hp → Prop} (h : N (x0 :: x1 :: x2 :: x3 :: x4 :: x5 :: some v :: r) H) : gName 6 v (x0 :: x1 :: x2 :: x3 :: x4 :: x5 :: y :: r) H N := h
instance st_g_n6 {x0 x1 x2 x3 x4 x5 y : Option V} {v : V} {r : L2.St} {H : Hp} {N : L2.St → Hp → Prop} : Step (gName 6 v (x0 :: x1 :: x2 :: x3 :: x4 :: x5 :: y :: r) H N) (N (x0 :: x1 :: x2 :: x3 :: x4 :: x5 :: some v :: r) H) := ⟨fun z => g_n6 z⟩
theorem g_v7 {x0 x1 x2 x3 x4 x5 x6 : Option V} {v : V} {r : L2.St} {H : Hp} {Q : VK} (h : Q v H) : tVar 7 (x0 :: x1 :: x2 :: x3 :: x4 :: x5 :: x6 :: some v :: r) H Q := ⟨v, rfl, h⟩
instance st_g_v7 {x0 x1 x2 x3 x4 x5 x6 : Option V} {v : V} {r : L2.St} {H : Hp} {Q : VK} : Step (tVar 7 (x0 :: x1 :: x2 :: x3 :: x4 :: x5 :: x6 :: some v :: r) H Q) (Q v H) := ⟨fun z => g_v7 z⟩
theorem g_n7 {x0 x1 x2 x3 x4 x5 x6 y : Option V} {v : V} {r : L2.St} {H : Hp} {N : L2.St → Hp → Prop} (h : N (x0 :: x1 :: x2 :: x3 :: x4 :: x5 :: x6 :: some v :: r) H) : gName 7 v (x0 :: x1 :: x2 :: x3 :: x4 :: x5 :: x6 :: y :: r) H N := h
instance st_g_n7 {x0 x1 x2 x3 x4 x5 x6 y : Option V} {v : V} {r : L2.St} {H : Hp} {N : L2.St → Hp → Prop} : Step (gName 7 v (x0 :: x1 :: x2 :: x3 :: x4 :: x5 :: x6 :: y :: r) H N) (N (x0 :: x1 :: x2 :: x3 :: x4 :: x5 :: x6 :: some v :: r) H) := ⟨fun z => g_n7 z⟩
theorem g_v8 {x0 x1 x2 x3 x4 x5 x6 x7 : Option V} {v : V} {r : L2.St} {H : Hp} {Q : VK} (h : Q v H) : tVar 8 (x0 :: x1 :: x2 :: x3 :: x4 :: x5 :: x6 :: x7 :: some v :: r) H Q := ⟨v, rfl, h⟩
instance st_g_v8 {x0 x1 x2 x3 x4 x5 x6 x7 : Option V} {v : V} {r : L2.St} {H : Hp} {Q : VK} : Step (tVar 8 (x0 :: x1 :: x2 :: x3 :: x4 :: x5 :: x6 :: x7 :: some v :: r) H Q) (Q v H) := ⟨fun z => g_v8 z⟩
theorem g_n8 {x0 x1 x2 x3 x4 x5 x6 x7 y : Option V} {v : V} {r : L2.St} {H : Hp} {N : L2.St → Hp → Prop} (h : N (x0 :: x1 :: x2 :: x3 :: x4 :: x5 :: x6 :: x7 :: some v :: r) H) : gName 8 v (x0 :: x1 :: x2 :: x3 :: x4 :: x5 :: x6 :: x7 :: y :: r) H N := h
instance st_g_n8 {x0 x1 x2 x3 x4 x5 x6 x7 y : Option V} {v : V} {r : L2.St} {H : Hp} {N : L2.St → Hp → Prop} : Step (gName 8 v (x0 :: x1 :: x2 :: x3 :: x4 :: x5 :: x6 :: x7 :: y :: r) H N) (N (x0 :: x1 :: x2 :: x3 :: x4 :: x5 :: x6 :: x7 :: some v :: r) H) := ⟨fun z => g_n8 z⟩
theorem g_v9 {x0 x1 x2 x3 x4 x5 x6 x7 x8 : Option V} {v : V} {r : L2.St} {H : Hp} {Q : VK} (h : Q v H) : tVar 9 (x0 :: x1 :: x2 :: x3 :: x4 :: x5 :: x6 :: x7 :: x8 :: some v :: r) H Q := ⟨v, rfl, h⟩
instance st_g_v9 {x0 x1 x2 x3 x4 x5 x6 x7 x8 : Option V} {v : V} {r : L2.St} {H : Hp} {Q : VK} : Step (tVar 9 (x0 :: x1 :: x2 :: x3 :: x4 :: x5 :: x6 :: x7 :: x8 :: some v :: r) H Q) (Q v H) := ⟨fun z => g_v9 z⟩
theorem g_n9 {x0 x1 x2 x3 x4 x5 x6 x7 x8 y : Option V} {v : V} {r : L2.St} {H : Hp} {N : L2.St → Hp → Prop} (h : N (x0 :: x1 :: x2 :: x3 :: x4 :: x5 :: x6 :: x7 :: x8 :: some v :: r) H) : gName 9 v (x0 :: x1 :: x2 :: x3 :: x4 :: x5 :: x6 :: x7 :: x8 :: y :: r) H N := h
instance st_g_n9 {x0 x1 x2 x3 x4 x5 x6 x7 x8 y : Option V} {v : V} {r : L2.St} {H : Hp} {N : L2.St → Hp → Prop} : Step (gName 9 v (x0 :: x1 :: x2 :: x3 :: x4 :: x5 :: x6 :: x7 :: x8 :: y :: r) H N) (N (x0 :: x1 :: x2 :: x3 :: x4 :: x5 :: x6 :: x7 :: x8 :: some v :: r) H) := ⟨fun z => g_n9 z⟩
theorem g_v10 {x0 x1 x2 x3 x4 x5 x6 x7 x8 x9 : Option V} {v : V} {r : L2.St} {H : Hp} {Q : VK} (h : Q v H) : tVar 10 (x0 :: x1 :: x2 :: x3 :: x4 :: x5 :: x6 :: x7 :: x8 :: x9 :: some v :: r) H Q := ⟨v, rfl, h⟩
instance st_g_v10 {x0 x1 x2 x3 x4 x5 x6 x7 x8 x9 : Option V} {v : V} {r : L2.St} {H : Hp} {Q : VK} : Step (tVar 10 (x0 :: x1 :: x2 :: x3 :: x4 :: x5 :: x6 :: x7 :: x8 :: x9 :: some v :: r) H Q) (Q v H) := ⟨fun z => g_v10 z⟩
theorem g_n10 {x0 x1 x2 x3 x4 x5 x6 x7 x8 x9 y : Option V} {v : V} {r : L2.St} {H : Hp} {N : L2.St → Hp → Prop} (h : N (x0 :: x1 :: x2 :: x3 :: x4 :: x5 :: x6 :: x7 :: x8 :: x9 :: some v :: r) H) : gName 10 v (x0 :: x1 :: x2 :: x3 :: x4 :: x5 :: x6 :: x7 :: x8 :: x9 :: y :: r) H N := h
instance st_g_n10 {x0 x1 x2 x3 x4 x5 x6 x7 x8 x9 y : Option V} {v : V} {r : L2.St} {H : Hp} {N : L2.St → Hp → Prop} : Step (gName 10 v (x0 :: x1 :: x2 :: x3 :: x4 :: x5 :: x6 :: x7 :: x8 :: x9 :: y :: r) H N) (N (x0 :: x1 :: x2 :: x3 :: x4 :: x5 :: x6 :: x7 :: x8 :: x9 :: some v :: r) H) := ⟨fun z => g_n10 z⟩
theorem g_v11 {x0 x1 x2 x3 x4 x5 x6 x7 x8 x9 x10 : Option V} {v : V} {r : L2.St} {H : Hp} {Q : VK} (h : Q v H) : tVar 11 (x0 :: x1 :: x2 :: x3 :: x4 :: x5 :: x6 :: x7 :: x8 :: x9 :: x10 :: some v :: r) H Q := ⟨v, rfl, h⟩
instance st_g_v11 {x0 x1 x2 x3 x4 x5 x6 x7 x8 x9 x10 : Option V} {v : V} {r : L2.St} {H : Hp} {Q : VK} : Step (tVar 11 (x0 :: x1 :: x2 :: x3 :: x4 :: x5 :: x6 :: x7 :: x8 :: x9 :: x10 :: some v :: r) H Q) (Q v H) := ⟨fun z => g_v11 z⟩
theorem g_n11 {x0 x1 x2 x3 x4 x5 x6 x7 x8 x9 x10 y : Option V} {v : V} {r : L2.St} {H : Hp} {N : L2.St → Hp → Prop} (h : N (x0 :: x1 :: x2 :: x3 :: x4 :: x5 :: x6 :: x7 :: x8 :: x9 :: x10 :: some v :: r) H) : gName 11 v (x0 :: x1 :: x2 :: x3 :: x4 :: x5 :: x6 :: x7 :: x8 :: x9 :: x10 :: y :: r) H N := h
instance st_g_n11 {x0 x1 x2 x3 x4 x5 x6 x7 x8 x9 x10 y : Option V} {v : V} {r : L2.St} {H : Hp} {N : L2.St → Hp → Prop} : Step (gName 11 v (x0 :: x1 :: x2 :: x3 :: x4 :: x5 :: x6 :: x7 :: x8 :: x9 :: x10 :: y :: r) H N) (N (x0 :: x1 :: x2 :: x3 :: x4 :: x5 :: x6 :: x7 :: x8 :: x9 :: x10 :: some v :: r) H) := ⟨fun z => g_n11 z⟩
theorem g_v12 {x0 x1 x2 x3 x4 x5 x6 x7 x8 x9 x10 x11 : Option V} {v : V} {r : L2.St} {H : Hp} {Q : VK} (h : Q v H) : tVar 12 (x0 :: x1 :: x2 :: x3 :: x4 :: x5 :: x6 :: x7 :: x8 :: x9 :: x10 :: x11 :: some v :: r) H Q := ⟨v, rfl, h⟩
instance st_g_v12 {x0 x1 x2 x3 x4 x5 x6 x7 x8 x9 x10 x11 : Option V} {v : V} {r : L2.St} {H : Hp} {Q : VK} : Step (tVar 12 (x0 :: x1 :: x2 :: x3 :: x4 :: x5 :: x6 :: x7 :: x8 :: x9 :: x10 :: x11 :: some v :: r) H Q) (Q v H) := ⟨fun z => g_v12 z⟩
theorem g_n12 {x0 x1 x2 x3 x4 x5 x6 x7 x8 x9 x10 x11 y : Option V} {v : V} {r : L2.St} {H : Hp} {N : L2.St → Hp → Prop} (h : N (x0 :: x1 :: x2 :: x3 :: x4 :: x5 :: x6 :: x7 :: x8 :: x9 :: x10 :: x11 :: some v :: r) H) : gName 12 v (x0 :: x1 :: x2 :: x3 :: x4 :: x5 :: x6 :: x7 :: x8 :: x9 :: x10 :: x11 :: y :: r) H N := h
instance st_g_n12 {x0 x1 x2 x3 x4 x5 x6 x7 x8 x9 x10 x11 y : Option V} {v : V} {r : L2.St} {H : Hp} {N : L2.St → Hp → Prop} : Step (gName 12 v (x0 :: x1 :: x2 :: x3 :: x4 :: x5 :: x6 :: x7 :: x8 :: x9 :: x10 :: x11 :: y :: r) H N) (N (x0 :: x1 :: x2 :: x3 :: x4 :: x5 :: x6 :: x7 :: x8 :: x9 :: x10 :: x11 :: some v :: r) H) := ⟨fun z => g_n12 z⟩
theorem g_v13 {x0 x1 x2 x3 x4 x5 x6 x7 x8 x9 x10 x11 x12 : Option V} {v : V} {r : L2.St} {H : Hp} {Q : VK} (h : Q v H) : tVar 13 (x0 :: x1 :: x2 :: x3 :: x4 :: x5 :: x6 :: x7 :: x8 :: x9 :: x10 :: x11 :: x12 :: some v :: r) H Q := ⟨v, rfl, h⟩
instance st_g_v13 {x0 x1 x2 x3 x4 x5 x6 x7 x8 x9 x10 x11 x12 : Option V} {v : V} {r : L2.St} {H : Hp} {Q : VK} : Step (tVar 13 (x0 :: x1 :: x2 :: x3 :: x4 :: x5 :: x6 :: x7 :: x8 :: x9 :: x10 :: x11 :: x12 :: some v :: r) H Q) (Q v H) := ⟨fun z => g_v13 z⟩
theorem g_n13 {x0 x1 x2 x3 x4 x5 x6 x7 x8 x9 x10 x11 x12 y : Option V} {v : V} {r : L2.St} {H : Hp} {N : L2.St → Hp → Prop} (h : N (x0 :: x1 :: x2 :: x3 :: x4 :: x5 :: x6 :: x7 :: x8 :: x9 :: x10 :: x11 :: x12 :: some v :: r) H) : gName 13 v (x0 :: x1 :: x2 :: x3 :: x4 :: x5 :: x6 :: x7 :: x8 :: x9 :: x10 :: x11 :: x12 :: y :: r) H N := h
instance st_g_n13 {x0 x1 x2 x3 x4 x5 x6 x7 x8 x9 x10 x11 x12 y : Option V} {v : V} {r : L2.St} {H : Hp} {N : L2.St → Hp → Prop} : Step (gName 13 v (x0 :: x1 :: x2 :: x3 :: x4 :: x5 :: x6 :: x7 :: x8 :: x9 :: x10 :: x11 :: x12 :: y :: r) H N) (N (x0 :: x1 :: x2 :: x3 :: x4 :: x5 :: x6 :: x7 :: x8 :: x9 :: x10 :: x11 :: x12 :: some v :: r) H) := ⟨fun z => g_n13 z⟩
theorem g_v14 {x0 x1 x2 x3 x4 x5 x6 x7 x8 x9 x10 x11 x12 x13 : Option V} {v : V} {r : L2.St} {H : Hp} {Q : VK} (h : Q v H) : tVar 14 (x0 :: x1 :: x2 :: x3 :: x4 :: x5 :: x6 :: x7 :: x8 :: x9 :: x10 :: x11 :: x12 :: x13 :: some v :: r) H Q := ⟨v, rfl, h⟩
instance st_g_v14 {x0 x1 x2 x3 x4 x5 x6 x7 x8 x9 x10 x11 x12 x13 : Option V} {v : V} {r : L2.St} {H : Hp} {Q : VK} : Step (tVar 14 (x0 :: x1 :: x2 :: x3 :: x4 :: x5 :: x6 :: x7 :: x8 :: x9 :: x10 :: x11 :: x12 :: x13 :: some v :: r) H Q) (Q v H) := ⟨fun z => g_v14 z⟩
theorem g_n14 {x0 x1 x2 x3 x4 x5 x6 x7 x8 x9 x10 x11 x12 x13 y : Option V} {v : V} {r : L2.St} {H : Hp} {N : L2.St → Hp → Prop} (h : N (x0 :: x1 :: x2 :: x3 :: x4 :: x5 :: x6 :: x7 :: x8 :: x9 :: x10 :: x11 :: x12 :: x13 :: some v :: r) H) : gName 14 v (x0 :: x1 :: x2 :: x3 :: x4 :: x5 :: x6 :: x7 :: x8 :: x9 :: x10 :: x11 :: x12 :: x13 :: y :: r) H N := h
instance st_g_n14 {x0 x1 x2 x3 x4 x5 x6 x7 x8 x9 x10 x11 x12 x13 y : Option V} {v : V} {r : L2.St} {H : Hp} {N : L2.St → Hp → Prop} : Step (gName 14 v (x0 :: x1 :: x2 :: x3 :: x4 :: x5 :: x6 :: x7 :: x8 :: x9 :: x10 :: x11 :: x12 :: x13 :: y :: r) H N) (N (x0 :: x1 :: x2 :: x3 :: x4 :: x5 :: x6 :: x7 :: x8 :: x9 :: x10 :: x11 :: x12 :: x13 :: some v :: r) H) := ⟨fun z => g_n14 z⟩
theorem g_v15 {x0 x1 x2 x3 x4 x5 x6 x7 x8 x9 x10 x11 x12 x13 x14 : Option V} {v : V} {r : L2.St} {H : Hp} {Q : VK} (h : Q v H) : tVar 15 (x0 :: x1 :: x2 :: x3 :: x4 :: x5 :: x6 :: x7 :: x8 :: x9 :: x10 :: x11 :: x12 :: x13 :: x14 :: some v :: r) H Q := ⟨v, rfl, h⟩
instance st_g_v15 {x0 x1 x2 x3 x4 x5 x6 x7 x8 x9 x10 x11 x12 x13 x14 : Option V} {v : V} {r : L2.St} {H : Hp} {Q : VK} : Step (tVar 15 (x0 :: x1 :: x2 :: x3 :: x4 :: x5 :: x6 :: x7 :: x8 :: x9 :: x10 :: x11 :: x12 :: x13 :: x14 :: some v :: r) H Q) (Q v H) := ⟨fun z => g_v15 z⟩
theorem g_n15 {x0 x1 x2 x3 x4 x5 x6 x7 x8 x9 x10 x11 x12 x13 x14 y : Option V} {v : V} {r : L2.St} {H : Hp} {N : L2.St → Hp → Prop} (h : N (x0 :: x1 :: x2 :: x3 :: x4 :: x5 :: x6 :: x7 :: x8 :: x9 :: x10 :: x11 :: x12 :: x13 :: x14 :: some v :: r) H) : gName 15 v (x0 :: x1 :: x2 :: x3 :: x4 :: x5 :: x6 :: x7 :: x8 :: x9 :: x10 :: x11 :: x12 :: x13 :: x14 :: y :: r) H N := h

instance st_g_n15 {x0 x1 x2 x3 x4 x5 x6 x7 x8 x9 x10 x11 x12 x13 x14 y : Option V} {v : V} {r : L2.St} {H : Hp} {N : L2.St → Hp → Prop} : Step (gName 15 v (x0 :: x1 :: x2 :: x3 :: x4 :: x5 :: x6 :: x7 :: x8 :: x9 :: x10 :: x11 :: x12 :: x13 :: x14 :: y :: r) H N) (N (x0 :: x1 :: x2 :: x3 :: x4 :: x5 :: x6 :: x7 :: x8 :: x9 :: x10 :: x11 :: x12 :: x13 :: x14 :: some v :: r) H) := ⟨fun z => g_n15 z⟩
theorem g_ixL0 {K : PySem.W.Frag} {p : Addr} {H : Hp} {Q : VK} {v : V} {r : List V} (h : SqL K H p (v :: r)) (q : Q v H) : rIxL K (.ref p) (.int 0) H Q := g_ixL h (atI_nat (j := 0) rfl) q
theorem g_setL0 {p : Addr} {H : Hp} {N : Hp → Prop} {y : V} {v : V} {r : List V} (h : H p = some (.lst (y :: r))) (q : N (upd H p (.lst (v :: r)))) : rSetL (.ref p) (.int 0) v H N :=
  ⟨p, _, 0, 0, rfl, rfl, h, by unfold ixN; rw [if_pos (by omega), if_pos (by simp only [List.length_cons]; omega)]; rfl, q⟩
theorem g_ixL1 {K : PySem.W.Frag} {p : Addr} {H : Hp} {Q : VK} {x0 : V} {v : V} {r : List V} (h : SqL K H p (x0 :: v :: r)) (q : Q v H) : rIxL K (.ref p) (.int 1) H Q := g_ixL h (atI_nat (j := 1) rfl) q
theorem g_setL1 {p : Addr} {H : Hp} {N : Hp → Prop} {x0 y : V} {v : V} {r : List V} (h : H p = some (.lst (x0 :: y :: r))) (q : N (upd H p (.lst (x0 :: v :: r)))) : rSetL (.ref p) (.int 1) v H N :=
  ⟨p, _, 1, 1, rfl, rfl, h, by unfold ixN; rw [if_pos (by omega), if_pos (by simp only [List.length_cons]; omega)]; rfl, q⟩
theorem g_ixL2 {K : PySem.W.Frag} {p : Addr} {H : Hp} {Q : VK} {x0 x1 : V} {v : V} {r : List V} (h : SqL K H p (x0 :: x1 :: v :: r)) (q : Q v H) : rIxL K (.ref p) (.int 2) H Q := g_ixL h (atI_nat (j := 2) rfl) q
theorem g_setL2 {p : Addr} {H : Hp} {N : Hp → Prop} {x0 x1 y : V} {v : V} {r : List V} (h : H p = some (.lst (x0 :: x1 :: y :: r))) (q : N (upd H p (.lst (x0 :: x1 :: v :: r)))) : rSetL (.ref p) (.int 2) v H N :=
  ⟨p, _, 2, 2, rfl, rfl, h, by unfold ixN; rw [if_pos (by omega), if_pos (by simp only [List.length_cons]; omega)]; rfl, q⟩
theorem g_ixL3 {K : PySem.W.Frag} {p : Addr} {H : Hp} {Q : VK} {x0 x1 x2 : V} {v : V} {r : List V} (h : SqL K H p (x0 :: x1 :: x2 :: v :: r)) (q : Q v H) : rIxL K (.ref p) (.int 3) H Q := g_ixL h (atI_nat (j := 3) rfl) q
theorem g_setL3 {p : Addr} {H : Hp} {N : Hp → Prop} {x0 x1 x2 y : V} {v : V} {r : List V} (h : H p = some (.lst (x0 :: x1 :: x2 :: y :: r))) (q : N (upd H p (.lst (x0 :: x1 :: x2 :: v :: r)))) : rSetL (.ref p) (.int 3) v H N :=
  ⟨p, _, 3, 3, rfl, rfl, h, by unfold ixN; rw [if_pos (by omega), if_pos (by simp only [List.length_cons]; omega)]; rfl, q⟩
theorem g_ixL4 {K : PySem.W.Frag} {p : Addr} {H : Hp} {Q : VK} {x0 x1 x2 x3 : V} {v : V} {r : List V} (h : SqL K H p (x0 :: x1 :: x2 :: x3 :: v :: r)) (q : Q v H) : rIxL K (.ref p) (.int 4) H Q := g_ixL h (atI_nat (j := 4) rfl) q
theorem g_setL4 {p : Addr} {H : Hp} {N : Hp → Prop} {x0 x1 x2 x3 y : V} {v : V} {r : List V} (h : H p = some (.lst (x0 :: x1 :: x2 :: x3 :: y :: r))) (q : N (upd H p (.lst (x0 :: x1 :: x2 :: x3 :: v :: r)))) : rSetL (.ref p) (.int 4) v H N :=
  ⟨p, _, 4, 4, rfl, rfl, h, by unfold ixN; rw [if_pos (by omega), if_pos (by simp only [List.length_cons]; omega)]; rfl, q⟩
theorem g_ixL5 {K : PySem.W.Frag} {p : Addr} {H : Hp} {Q : VK} {x0 x1 x2 x3 x4 : V} {v : V} {r : List V} (h : SqL K H p (x0 :: x1 :: x2 :: x3 :: x4 :: v :: r)) (q : Q v H) : rIxL K (.ref p) (.int 5) H Q := g_ixL h (atI_nat (j := 5) rfl) q
theorem g_setL5 {p : Addr} {H : Hp} {N : Hp → Prop} {x0 x1 x2 x3 x4 y : V} {v : V} {r : List V} (h : H p = some (.lst (x0 :: x1 :: x2 :: x3 :: x4 :: y :: r))) (q : N (upd H p (.lst (x0 :: x1 :: x2 :: x3 :: x4 :: v :: r)))) : rSetL (.ref p) (.int 5) v H N :=
  ⟨p, _, 5, 5, rfl, rfl, h, by unfold ixN; rw [if_pos (by omega), if_pos (by simp only [List.length_cons]; omega)]; rfl, q⟩
theorem g_ixL6 {K : PySem.W.Frag} {p : Addr} {H : Hp} {Q : VK} {x0 x1 x2 x3 x4 x5 : V} {v : V} {r : List V} (h : SqL K H p (x0 :: x1 :: x2 :: x3 :: x4 :: x5 :: v :: r)) (q : Q v H) : rIxL K (.ref p) (.int 6) H Q := g_ixL h (atI_nat (j := 6) rfl) q
theorem g_setL6 {p : Addr} {H : Hp} {N : Hp → Prop} {x0 x1 x2 x3 x4 x5 y : V} {v : V} {r : List V} (h : H p = some (.lst (x0 :: x1 :: x2 :: x3 :: x4 :: x5 :: y :: r))) (q : N (upd H p (.lst (x0 :: x1 :: x2 :: x3 :: x4 :: x5 :: v :: r)))) : rSetL (.ref p) (.int 6) v H N :=
  ⟨p, _, 6, 6, rfl, rfl, h, by unfold ixN; rw [if_pos (by omega), if_pos (by simp only [List.length_cons]; omega)]; rfl, q⟩
theorem g_ixL7 {K : PySem.W.Frag} {p : Addr} {H : Hp} {Q : VK} {x0 x1 x2 x3 x4 x5 x6 : V} {v : V} {r : List V} (h : SqL K H p (x0 :: x1 :: x2 :: x3 :: x4 :: x5 :: x6 :: v :: r)) (q : Q v H) : rIxL K (.ref p) (.int 7) H Q := g_ixL h (atI_nat (j := 7) rfl) q
theorem g_setL7 {p : Addr} {H : Hp} {N : Hp → Prop} {x0 x1 x2 x3 x4 x5 x6 y : V} {v : V} {r : List V} (h : H p = some (.lst (x0 :: x1 :: x2 :: x3 :: x4 :: x5 :: x6 :: y :: r))) (q : N (upd H p (.lst (x0 :: x1 :: x2 :: x3 :: x4 :: x5 :: x6 :: v :: r)))) : rSetL (.ref p) (.int 7) v H N :=
  ⟨p, _, 7, 7, rfl, rfl, h, by unfold ixN; rw [if_pos (by omega), if_pos (by simp only [List.length_cons]; omega)]; rfl, q⟩
theorem g_ixL8 {K : PySem.W.Frag} {p : Addr} {H : Hp} {Q : VK} {x0 x1 x2 x3 x4 x5 x6 x7 : V} {v : V} {r : List V} (h : SqL K H p (x0 :: x1 :: x2 :: x3 :: x4 :: x5 :: x6 :: x7 :: v :: r)) (q : Q v H) : rIxL K (.ref p) (.int 8) H Q := g_ixL h (atI_nat (j := 8) rfl) q
theorem g_setL8 {p : Addr} {H : Hp} {N : Hp → Prop} {x0 x1 x2 x3 x4 x5 x6 x7 y : V} {v : V} {r : List V} (h : H p = some (.lst (x0 :: x1 :: x2 :: x3 :: x4 :: x5 :: x6 :: x7 :: y :: r))) (q : N (upd H p (.lst (x0 :: x1 :: x2 :: x3 :: x4 :: x5 :: x6 :: x7 :: v :: r)))) : rSetL (.ref p) (.int 8) v H N :=
  ⟨p, _, 8, 8, rfl, rfl, h, by unfold ixN; rw [if_pos (by omega), if_pos (by simp only [List.length_cons]; omega)]; rfl, q⟩
theorem g_ixL9 {K : PySem.W.Frag} {p : Addr} {H : Hp} {Q : VK} {x0 x1 x2 x3 x4 x5 x6 x7 x8 : V} {v : V} {r : List V} (h : SqL K H p (x0 :: x1 :: x2 :: x3 :: x4 :: x5 :: x6 :: x7 :: x8 :: v :: r)) (q : Q v H) : rIxL K (.ref p) (.int 9) H Q := g_ixL h (atI_nat (j := 9) rfl) q
theorem g_setL9 {p : Addr} {H : Hp} {N : Hp → Prop} {x0 x1 x2 x3 x4 x5 x6 x7 x8 y : V} {v : V} {r : List V} (h : H p = some (.lst (x0 :: x1 :: x2 :: x3 :: x4 :: x5 :: x6 :: x7 :: x8 :: y :: r))) (q : N (upd H p (.lst (x0 :: x1 :: x2 :: x3 :: x4 :: x5 :: x6 :: x7 :: x8 :: v :: r)))) : rSetL (.ref p) (.int 9) v H N :=
  ⟨p, _, 9, 9, rfl, rfl, h, by unfold ixN; rw [if_pos (by omega), if_pos (by simp only [List.length_cons]; omega)]; rfl, q⟩

theorem Chg.put {a : Addr} {H H1 : Hp} {o : HO} (h : Chg a H H1) : Chg a H (L2.upd H1 a o) := h.trans Chg.upd
theorem Chg.lay {a p : Addr} {H H1 : Hp} {o : HO} (h : Chg a H H1) (hp : H1 p = none) : Chg a H (L2.upd H1 p o) := h.trans (Chg.new hp)
theorem Chg.putn {a D : Addr} {H H1 : Hp} {o : HO} (h : Chg a H H1) (hD : H D = none) : Chg a H (L2.upd H1 D o) := fun b u n e => by
  rw [upd_ne (ne_of_none e hD)]
  exact h b u n e
theorem Same.lay {p : Addr} {H H1 : Hp} {o : HO} (h : Same H H1) (hp : H1 p = none) : Same H (L2.upd H1 p o) := h.trans (same_new hp)

theorem g_cut {t u : TS} {D : Ends} {σ : L2.St} {H : Hp} (Mid : L2.St → Hp → Prop) (h1 : t { D with nx := Mid } σ H) (h2 : ∀ σ' H', Mid σ' H' → u D σ' H') : C8.tCut t u D σ H := ⟨Mid, h1, h2⟩
/-! ### heaps -/
theorem h_same {H : Hp} {a : Addr} {o u : HO} (e : o = u) : upd H a o a = some u := by rw [upd_same, e]
theorem h_ne {H : Hp} {a b : Addr} {o u : HO} (n : b ≠ a) (h : H b = some u) : upd H a o b = some u := by rw [upd_ne n]; exact h
theorem h_chg {H H' : Hp} {a b : Addr} {u : HO} (c : Chg a H H') (n : b ≠ a) (h : H b = some u) : H' b = some u := c b u n h
theorem h_sm {H H' : Hp} {b : Addr} {u : HO} (c : Same H H') (h : H b = some u) : H' b = some u := c b u h
/-! ### the rules that speak of the written part, with that part as a letter -/
section
variable {X : Cx} {K : PySem.W.Frag}
def qIx (K : PySem.W.Frag) : R2 := fun x y H Q => ∃ p xs i v, x = .ref p ∧ y = .int i ∧ (SqL K H p xs ∨ SqT K H p xs) ∧ atI xs i = some v ∧ Q v H
theorem k_ix (e : X.K = K) : IxR X (qIx K) := by
  subst e
  intro value slice pins s σ H x y v u Q I rx ry h hs
  obtain ⟨p, xs, i, z, e1, e2, h1 | h1, h2, h3⟩ := h
  · exact ix_list value slice pins s σ H x y v u Q I rx ry ⟨p, xs, i, z, e1, e2, h1, h2, h3⟩ hs
  · exact ix_tup value slice pins s σ H x y v u Q I rx ry ⟨p, xs, i, z, e1, e2, h1, h2, h3⟩ hs
theorem g_qix {H : Hp} {Q : VK} {p : Addr} {xs : List V} {i : Int} {v : V} (h : SqL K H p xs ∨ SqT K H p xs) (e : atI xs i = some v) (q : Q v H) : qIx K (.ref p) (.int i) H Q := ⟨p, xs, i, v, rfl, rfl, h, e, q⟩
theorem k_in (e : X.K = K) : OpR X (compareOp .In) (rIn K false) := by subst e; exact op_in_seq
theorem k_notin (e : X.K = K) : OpR X (compareOp .NotIn) (rIn K true) := by subst e; exact op_notIn_seq
theorem k_isi (e : X.K = K) : CallR X (.builtin "isinstance") (rIsi K) := by subst e; exact call_isi
theorem k_isiT (e : X.K = K) : CallR X (.builtin "isinstance") (rIsiT K) := by subst e; exact call_isiT
theorem k_len (e : X.K = K) : CallR X (.builtin "len") (qLen K) := by subst e; exact c_len
theorem k_list (e : X.K = K) : CallR X (.type "list") (qList K) := by subst e; exact c_list
theorem k_tuple (e : X.K = K) : CallR X (.type "tuple") (qTuple K) := by subst e; exact c_tuple
theorem k_sum (e : X.K = K) (c : X.calm = true) : CallR X (.builtin "sum") (rSum K) := by subst e; exact cr_sum c
theorem k_any (e : X.K = K) (c : X.calm = true) : CallR X (.builtin "any") (rAny K) := by subst e; exact cr_any c
theorem k_all (e : X.K = K) (c : X.calm = true) : CallR X (.builtin "all") (rAll K) := by subst e; exact cr_all c
theorem k_max (e : X.K = K) (c : X.calm = true) : CallR X (.builtin "max") (rMax K) := by subst e; exact cr_max c
theorem k_min (e : X.K = K) (c : X.calm = true) : CallR X (.builtin "min") (rMin K) := by subst e; exact cr_min c
theorem k_sl (e : X.K = K) : SlR X (rSlL K) := by subst e; exact sl_list
theorem k_index (e : X.K = K) : MtR X "list.index" (rIndex K) := by subst e; exact mt_index
theorem k_eqD (e : X.K = K) (hu : X.A.units + 64 < cLine) : OpR X (compareOp .Eq) (rEqD K) := by subst e; exact op_eqD hu
theorem k_neD (e : X.K = K) (hu : X.A.units + 64 < cLine) : OpR X (compareOp .NotEq) (rNeD K) := by subst e; exact op_neD hu
theorem k_pil {tg l : Expr} {tl : TE} (e : X.K = K) (hl : PE X l tl) : PI X tg l (iList K tl) := by subst e; exact pi_list hl
theorem k_pit {tg l : Expr} {tl : TE} (e : X.K = K) (hl : PE X l tl) : PI X tg l (iTup K tl) := by subst e; exact pi_tup hl
theorem k_pgt {es : List Expr} {k : Nat} {t : TGs} {n : Nat} {pos : Pos} (e : X.K = K) (hc : X.calm = true) (h : PGs X es t)
    (hn : (assignEach es X.env).length = n) (hst : (assignEach es X.env).findIdx? (·.1) = none) : PG X (.Tuple es k pos) (gTup K n t) := by subst e; exact pg_tup hc h hn hst
end
theorem g_qix0 {K : PySem.W.Frag} {p : Addr} {H : Hp} {Q : VK} {v : V} {r : List V} (h : SqL K H p (v :: r) ∨ SqT K H p (v :: r)) (q : Q v H) : qIx K (.ref p) (.int 0) H Q := g_qix h (atI_nat (j := 0) rfl) q
theorem g_qix1 {K : PySem.W.Frag} {p : Addr} {H : Hp} {Q : VK} {x0 : V} {v : V} {r : List V} (h : SqL K H p (x0 :: v :: r) ∨ SqT K H p (x0 :: v :: r)) (q : Q v H) : qIx K (.ref p) (.int 1) H Q := g_qix h (atI_nat (j := 1) rfl) q
theorem g_qix2 {K : PySem.W.Frag} {p : Addr} {H : Hp} {Q : VK} {x0 x1 : V} {v : V} {r : List V} (h : SqL K H p (x0 :: x1 :: v :: r) ∨ SqT K H p (x0 :: x1 :: v :: r)) (q : Q v H) : qIx K (.ref p) (.int 2) H Q := g_qix h (atI_nat (j := 2) rfl) q
theorem g_qix3 {K : PySem.W.Frag} {p : Addr} {H : Hp} {Q : VK} {x0 x1 x2 : V} {v : V} {r : List V} (h : SqL K H p (x0 :: x1 :: x2 :: v :: r) ∨ SqT K H p (x0 :: x1 :: x2 :: v :: r)) (q : Q v H) : qIx K (.ref p) (.int 3) H Q := g_qix h (atI_nat (j := 3) rfl) q
theorem g_qix4 {K : PySem.W.Frag} {p : Addr} {H : Hp} {Q : VK} {x0 x1 x2 x3 : V} {v : V} {r : List V} (h : SqL K H p (x0 :: x1 :: x2 :: x3 :: v :: r) ∨ SqT K H p (x0 :: x1 :: x2 :: x3 :: v :: r)) (q : Q v H) : qIx K (.ref p) (.int 4) H Q := g_qix h (atI_nat (j := 4) rfl) q
theorem g_qix5 {K : PySem.W.Frag} {p : Addr} {H : Hp} {Q : VK} {x0 x1 x2 x3 x4 : V} {v : V} {r : List V} (h : SqL K H p (x0 :: x1 :: x2 :: x3 :: x4 :: v :: r) ∨ SqT K H p (x0 :: x1 :: x2 :: x3 :: x4 :: v :: r)) (q : Q v H) : qIx K (.ref p) (.int 5) H Q := g_qix h (atI_nat (j := 5) rfl) q
theorem g_qix6 {K : PySem.W.Frag} {p : Addr} {H : Hp} {Q : VK} {x0 x1 x2 x3 x4 x5 : V} {v : V} {r : List V} (h : SqL K H p (x0 :: x1 :: x2 :: x3 :: x4 :: x5 :: v :: r) ∨ SqT K H p (x0 :: x1 :: x2 :: x3 :: x4 :: x5 :: v :: r)) (q : Q v H) : qIx K (.ref p) (.int 6) H Q := g_qix h (atI_nat (j := 6) rfl) q
theorem g_qix7 {K : PySem.W.Frag} {p : Addr} {H : Hp} {Q : VK} {x0 x1 x2 x3 x4 x5 x6 : V} {v : V} {r : List V} (h : SqL K H p (x0 :: x1 :: x2 :: x3 :: x4 :: x5 :: x6 :: v :: r) ∨ SqT K H p (x0 :: x1 :: x2 :: x3 :: x4 :: x5 :: x6 :: v :: r)) (q : Q v H) : qIx K (.ref p) (.int 7) H Q := g_qix h (atI_nat (j := 7) rfl) q
theorem g_qix8 {K : PySem.W.Frag} {p : Addr} {H : Hp} {Q : VK} {x0 x1 x2 x3 x4 x5 x6 x7 : V} {v : V} {r : List V} (h : SqL K H p (x0 :: x1 :: x2 :: x3 :: x4 :: x5 :: x6 :: x7 :: v :: r) ∨ SqT K H p (x0 :: x1 :: x2 :: x3 :: x4 :: x5 :: x6 :: x7 :: v :: r)) (q : Q v H) : qIx K (.ref p) (.int 8) H Q := g_qix h (atI_nat (j := 8) rfl) q
theorem g_qix9 {K : PySem.W.Frag} {p : Addr} {H : Hp} {Q : VK} {x0 x1 x2 x3 x4 x5 x6 x7 x8 : V} {v : V} {r : List V} (h : SqL K H p (x0 :: x1 :: x2 :: x3 :: x4 :: x5 :: x6 :: x7 :: x8 :: v :: r) ∨ SqT K H p (x0 :: x1 :: x2 :: x3 :: x4 :: x5 :: x6 :: x7 :: x8 :: v :: r)) (q : Q v H) : qIx K (.ref p) (.int 9) H Q := g_qix h (atI_nat (j := 9) rfl) q
theorem chg_same {H H' : Hp} {D : Addr} (c : Chg D H H') (hD : H D = none) : Same H H' := fun b o e => c b o (ne_of_none e hD) e
theorem seqT_same {K : PySem.W.Frag} {H H' : Hp} {a : Addr} {xs : List V} (s : Same H H') (h : SqT K H a xs) : SqT K H' a xs := by
  rcases h with (h | ⟨o, h⟩) | h
  · exact .inl (.inl (s _ _ h))
  · exact .inl (.inr ⟨o, s _ _ h⟩)
  · exact .inr h
theorem lt_same {K : PySem.W.Frag} {H H' : Hp} {a : Addr} {xs : List V} (s : Same H H') (h : SqL K H a xs ∨ SqT K H a xs) : SqL K H' a xs ∨ SqT K H' a xs := by
  rcases h with h | h
  · exact .inl (s.seq h)
  · exact .inr (seqT_same s h)
/-! ### a conditional expression as a test -/
def tIfT (t ta tb : TT) : TT := fun σ H Q => t σ H fun k H1 => if k = true then ta σ H1 Q else tb σ H1 Q
theorem pt_ifE {X : Cx} {c a b : Expr} {pos : Pos} {t ta tb : TT} (hc : PT X c t) (ha : PT X a ta) (hb : PT X b tb) : PT X (.IfExp c a b pos) (tIfT t ta tb) := by
  refine ⟨fun pins s σ H Q I hw => PyProof.Rows.isTrue_IfExp (thn (hc.run pins s σ H _ I hw) fun k s1 ⟨H1, I1, q1⟩ => ?_)⟩
  cases k with
  | true => exact ha.run pins s1 σ H1 Q I1 (by simpa using q1)
  | false => exact hb.run pins s1 σ H1 Q I1 (by simpa using q1)
theorem g_ifT {t ta tb : TT} {σ : L2.St} {H : Hp} {Q : Bool → Hp → Prop} (h : t σ H fun k H1 => if k = true then ta σ H1 Q else tb σ H1 Q) : tIfT t ta tb σ H Q := h
instance st_g_ifT {t ta tb : TT} {σ : L2.St} {H : Hp} {Q : Bool → Hp → Prop} : Step (tIfT t ta tb σ H Q) (t σ H fun k H1 => if k = true then ta σ H1 Q else tb σ H1 Q) := ⟨fun z => g_ifT z⟩
/-! ### list(range(..)) -/
section
variable {σ : L2.St} {H : Hp} {Q : VK}
def RgNew (Q : VK) (a b : Int) (H1 : Hp) : Prop := RgOk a b ∧ ∀ q, H1 q = none → Q (.ref q) (upd H1 q (.lst (rgV a b)))
theorem g_lstRg {te : L2.St → Hp → (Int → Int → Hp → Prop) → Prop} (h : te σ H (RgNew Q)) : tLstRg te σ H Q := h
instance st_g_lstRg {te : L2.St → Hp → (Int → Int → Hp → Prop) → Prop} : Step (tLstRg te σ H Q) (te σ H (RgNew Q)) := ⟨fun z => g_lstRg z⟩
def Rg1R (R : Int → Int → Hp → Prop) (x : V) (H : Hp) : Prop := ∃ n, x = .int n ∧ R 0 n H
theorem g_tRg1 {ta : TE} {R : Int → Int → Hp → Prop} (h : ta σ H (Rg1R R)) : tRg1 ta σ H R := h
instance st_g_tRg1 {ta : TE} {R : Int → Int → Hp → Prop} : Step (tRg1 ta σ H R) (ta σ H (Rg1R R)) := ⟨fun z => g_tRg1 z⟩
theorem g_rg1R {R : Int → Int → Hp → Prop} {n : Int} (h : R 0 n H) : Rg1R R (.int n) H := ⟨n, rfl, h⟩
instance st_g_rg1R {R : Int → Int → Hp → Prop} {n : Int} : Step (Rg1R R (.int n) H) (R 0 n H) := ⟨fun z => g_rg1R z⟩
theorem g_rgNew {a b : Int} (c : 0 ≤ a ∧ b ≤ 16777216 ∧ a ≤ 16777216 ∧ 0 ≤ b) (h : ∀ q, H q = none → Q (.ref q) (upd H q (.lst (rgV a b)))) : RgNew Q a b H := ⟨.of_le c.1 c.2.1 c.2.2.1 c.2.2.2, h⟩
end
/-! ### lists of ints compared -/
def dInts (ns : List Int) : List PyData := ns.map PyData.int
theorem dp_ints {K : PySem.W.Frag} {H : Hp} : ∀ ns : List Int, DpAll K H (ns.map V.int) (dInts ns)
  | [] => .nil
  | n :: r => .cons (.int n) (dp_ints r)
theorem can_ints : ∀ ns : List Int, (PyData.list (dInts ns)).canLay0 = true ∧ PyData.depthAll (dInts ns) = 0
  | [] => ⟨rfl, rfl⟩
  | n :: r => by
    obtain ⟨h1, h2⟩ := can_ints r
    refine ⟨?_, ?_⟩
    · show (PyData.canLay0 (.int n) && PyData.canLayAll0 (dInts r)) = true
      rw [show PyData.canLayAll0 (dInts r) = true from h1]
      rfl
    · show max (PyData.depth (.int n)) (PyData.depthAll (dInts r)) = 0
      rw [h2]
      rfl
theorem shaped_ints (ns : List Int) : SeqAt.shaped (.list (dInts ns)) = true := by
  obtain ⟨h1, h2⟩ := can_ints ns
  unfold SeqAt.shaped
  rw [h1, Bool.true_and]
  exact decide_eq_true (by show PyData.depthAll (dInts ns) + 1 ≤ 64; rw [h2]; decide)
theorem eqv_ints : ∀ a b : List Int, PyData.eqvAll (dInts a) (dInts b) = decide (a = b)
  | [], [] => rfl
  | [], _ :: _ => rfl
  | _ :: _, [] => rfl
  | x :: a, y :: b => by
    show (x == y && PyData.eqvAll (dInts a) (dInts b)) = decide (x :: a = y :: b)
    rw [eqv_ints a b]
    by_cases e : x = y
    · subst e; simp
    · simp [e]
theorem g_eqDI {K : PySem.W.Frag} {H : Hp} {Q : VK} {p q : Addr} {a b : List Int} (h1 : SqL K H p (a.map V.int)) (h2 : SqL K H q (b.map V.int)) (h : Q (.bl (decide (a = b))) H) : rEqD K (.ref p) (.ref q) H Q :=
  ⟨.list (dInts a), .list (dInts b), .lst h1 (dp_ints a), .lst h2 (dp_ints b), shaped_ints a, shaped_ints b, by
    have e : PyData.eqv (.list (dInts a)) (.list (dInts b)) = decide (a = b) := eqv_ints a b
    rw [e]; exact h⟩
theorem g_neDI {K : PySem.W.Frag} {H : Hp} {Q : VK} {p q : Addr} {a b : List Int} (h1 : SqL K H p (a.map V.int)) (h2 : SqL K H q (b.map V.int)) (h : Q (.bl (!decide (a = b))) H) : rNeD K (.ref p) (.ref q) H Q :=
  ⟨.list (dInts a), .list (dInts b), .lst h1 (dp_ints a), .lst h2 (dp_ints b), shaped_ints a, shaped_ints b, by
    have e : PyData.eqv (.list (dInts a)) (.list (dInts b)) = decide (a = b) := eqv_ints a b
    rw [e]; exact h⟩
theorem sqL_new {K : PySem.W.Frag} {H : Hp} {p a : Addr} {o : HO} {xs : List V} (hp : H p = none) (h : SqL K H a xs) : SqL K (upd H p o) a xs := (same_new hp).seq h
theorem sqT_new {K : PySem.W.Frag} {H : Hp} {p a : Addr} {o : HO} {xs : List V} (hp : H p = none) (h : SqT K H a xs) : SqT K (upd H p o) a xs := seqT_same (same_new hp) h
theorem sqL_sm {K : PySem.W.Frag} {H H' : Hp} {a : Addr} {xs : List V} (s : L2.Same H H') (h : SqL K H a xs) : SqL K H' a xs := s.seq h
theorem tyL {K : PySem.W.Frag} {H : Hp} {a : Addr} {xs : List V} (h : SqL K H a xs) : TyX K H (.ref a) (.type "list") := by
  rcases h with (h | ⟨o, h⟩) | ⟨o, its, n, h, c, _⟩
  · exact .base (.lst h)
  · exact .base (.frz h)
  · exact .kList h c
theorem tyT {K : PySem.W.Frag} {H : Hp} {a : Addr} {xs : List V} (h : SqT K H a xs) : TyX K H (.ref a) (.type "tuple") := by
  rcases h with (h | ⟨o, h⟩) | ⟨o, its, n, h, c, _⟩
  · exact .base (.tup h)
  · exact .fTuple h
  · exact .kTuple h c
/-! ### isinstance -/
theorem kb_int_int : kitB "int" "int" = some true := by decide +kernel
theorem kb_int_str : kitB "int" "str" = some false := by decide +kernel
theorem kb_int_bool : kitB "int" "bool" = some false := by decide +kernel
theorem kb_int_list : kitB "int" "list" = some false := by decide +kernel
theorem kb_int_tuple : kitB "int" "tuple" = some false := by decide +kernel
theorem kb_str_int : kitB "str" "int" = some false := by decide +kernel
theorem kb_str_str : kitB "str" "str" = some true := by decide +kernel
theorem kb_str_bool : kitB "str" "bool" = some false := by decide +kernel
theorem kb_str_list : kitB "str" "list" = some false := by decide +kernel
theorem kb_str_tuple : kitB "str" "tuple" = some false := by decide +kernel
theorem kb_bool_int : kitB "bool" "int" = some true := by decide +kernel
theorem kb_bool_str : kitB "bool" "str" = some false := by decide +kernel
theorem kb_bool_bool : kitB "bool" "bool" = some true := by decide +kernel
theorem kb_bool_list : kitB "bool" "list" = some false := by decide +kernel
theorem kb_bool_tuple : kitB "bool" "tuple" = some false := by decide +kernel
theorem kb_NoneType_int : kitB "NoneType" "int" = some false := by decide +kernel
theorem kb_NoneType_str : kitB "NoneType" "str" = some false := by decide +kernel
theorem kb_NoneType_bool : kitB "NoneType" "bool" = some false := by decide +kernel
theorem kb_NoneType_list : kitB "NoneType" "list" = some false := by decide +kernel
theorem kb_NoneType_tuple : kitB "NoneType" "tuple" = some false := by decide +kernel
theorem kb_list_int : kitB "list" "int" = some false := by decide +kernel
theorem kb_list_str : kitB "list" "str" = some false := by decide +kernel
theorem kb_list_bool : kitB "list" "bool" = some false := by decide +kernel
theorem kb_list_list : kitB "list" "list" = some true := by decide +kernel
theorem kb_list_tuple : kitB "list" "tuple" = some false := by decide +kernel
theorem kb_tuple_int : kitB "tuple" "int" = some false := by decide +kernel
theorem kb_tuple_str : kitB "tuple" "str" = some false := by decide +kernel
theorem kb_tuple_bool : kitB "tuple" "bool" = some false := by decide +kernel
theorem kb_tuple_list : kitB "tuple" "list" = some false := by decide +kernel
theorem kb_tuple_tuple : kitB "tuple" "tuple" = some true := by decide +kernel
class KbC (t T : String) (b : outParam Bool) : Prop where
  h : kitB t T = some b
instance ki_int_int : KbC "int" "int" true := ⟨kb_int_int⟩
instance ki_int_str : KbC "int" "str" false := ⟨kb_int_str⟩
instance ki_int_bool : KbC "int" "bool" false := ⟨kb_int_bool⟩
instance ki_int_list : KbC "int" "list" false := ⟨kb_int_list⟩
instance ki_int_tuple : KbC "int" "tuple" false := ⟨kb_int_tuple⟩
instance ki_str_int : KbC "str" "int" false := ⟨kb_str_int⟩
instance ki_str_str : KbC "str" "str" true := ⟨kb_str_str⟩
instance ki_str_bool : KbC "str" "bool" false := ⟨kb_str_bool⟩
instance ki_str_list : KbC "str" "list" false := ⟨kb_str_list⟩
instance ki_str_tuple : KbC "str" "tuple" false := ⟨kb_str_tuple⟩
instance ki_bool_int : KbC "bool" "int" true := ⟨kb_bool_int⟩
instance ki_bool_str : KbC "bool" "str" false := ⟨kb_bool_str⟩
instance ki_bool_bool : KbC "bool" "bool" true := ⟨kb_bool_bool⟩
instance ki_bool_list : KbC "bool" "list" false := ⟨kb_bool_list⟩
instance ki_bool_tuple : KbC "bool" "tuple" false := ⟨kb_bool_tuple⟩
instance ki_NoneType_int : KbC "NoneType" "int" false := ⟨kb_NoneType_int⟩
instance ki_NoneType_str : KbC "NoneType" "str" false := ⟨kb_NoneType_str⟩
instance ki_NoneType_bool : KbC "NoneType" "bool" false := ⟨kb_NoneType_bool⟩
instance ki_NoneType_list : KbC "NoneType" "list" false := ⟨kb_NoneType_list⟩
instance ki_NoneType_tuple : KbC "NoneType" "tuple" false := ⟨kb_NoneType_tuple⟩
instance ki_list_int : KbC "list" "int" false := ⟨kb_list_int⟩
instance ki_list_str : KbC "list" "str" false := ⟨kb_list_str⟩
instance ki_list_bool : KbC "list" "bool" false := ⟨kb_list_bool⟩
instance ki_list_list : KbC "list" "list" true := ⟨kb_list_list⟩
instance ki_list_tuple : KbC "list" "tuple" false := ⟨kb_list_tuple⟩
instance ki_tuple_int : KbC "tuple" "int" false := ⟨kb_tuple_int⟩
instance ki_tuple_str : KbC "tuple" "str" false := ⟨kb_tuple_str⟩
instance ki_tuple_bool : KbC "tuple" "bool" false := ⟨kb_tuple_bool⟩
instance ki_tuple_list : KbC "tuple" "list" false := ⟨kb_tuple_list⟩
instance ki_tuple_tuple : KbC "tuple" "tuple" true := ⟨kb_tuple_tuple⟩
theorem g_isi {K : PySem.W.Frag} {H : Hp} {Q : VK} {x : V} {t T : String} {b : Bool} (ty : TyX K H x (.type t)) (hb : kitB t T = some b) (h : Q (.bl b) H) : rIsi K [x, .ty T] H Q :=
  ⟨x, .ty T, .type t, .type T, b, rfl, .ty T, ty, kit_ty hb, h⟩
theorem g_isiT2 {K : PySem.W.Frag} {H : Hp} {Q : VK} {x : V} {tp : Addr} {t T1 T2 : String} {b1 b2 : Bool} (e : H tp = some (.tup [.ty T1, .ty T2])) (ty : TyX K H x (.type t)) (h1 : kitB t T1 = some b1) (h2 : kitB t T2 = some b2)
    (h : Q (.bl (b1 || b2)) H) : rIsiT K [x, .ref tp] H Q := by
  refine ⟨x, tp, [.ty T1, .ty T2], .type t, [.type T1, .type T2], b1 || b2, rfl, e, .cons (.ty _) (.cons (.ty _) .nil), ty, ?_, h⟩
  refine kitAny_cons (kit_ty h1) (fun z => ?_) (fun z => by rw [z]; rfl)
  rw [z, Bool.false_or]
  exact kitAny_cons (kit_ty h2) (fun z => by rw [z]; exact kitAny_nil) (fun z => z)
/-! ### comprehensions and loops -/
section
variable {K : PySem.W.Frag} {g : TG} {tt : TT} {te : TE} {tb : TS} {vs : List Nat} {D0 : Ends} {σ σ0 : L2.St} {H : Hp} {Q : VK} {J : It} {a : Addr}
/-- one turn of a comprehension: the item x, the block's slots σ0, the list at D so far -/
def TurnD (D : Addr) (N : Hp → Prop) (y : V) (H4 : Hp) : Prop := ∃ acc, H4 D = some (.lst acc) ∧ acc.length < sizeLine ∧ N (upd H4 D (.lst (acc ++ [y])))
def TurnC (te : TE) (σ2 : L2.St) (D : Addr) (N : Hp → Prop) (b : Bool) (H3 : Hp) : Prop := if b = true then te σ2 H3 (TurnD D N) else N H3
def TurnB (tt : TT) (te : TE) (vs : List Nat) (σ0 : L2.St) (D : Addr) (N : Hp → Prop) (σ2 : L2.St) (H2 : Hp) : Prop := wipe σ2 vs = σ0 ∧ tt σ2 H2 (TurnC te σ2 D N)
def Turn1 (g : TG) (tt : TT) (te : TE) (vs : List Nat) (σ0 : L2.St) (D : Addr) (x : V) (H : Hp) (N : Hp → Prop) : Prop := g x σ0 H (TurnB tt te vs σ0 D N)
theorem g_turn1 {D : Addr} {x : V} {N : Hp → Prop} (h : g x σ0 H (TurnB tt te vs σ0 D N)) : Turn1 g tt te vs σ0 D x H N := h
instance st_g_turn1 {D : Addr} {x : V} {N : Hp → Prop} : Step (Turn1 g tt te vs σ0 D x H N) (g x σ0 H (TurnB tt te vs σ0 D N)) := ⟨fun z => g_turn1 z⟩
theorem g_turnB {D : Addr} {N : Hp → Prop} (e : wipe σ vs = σ0) (h : tt σ H (TurnC te σ D N)) : TurnB tt te vs σ0 D N σ H := ⟨e, h⟩
theorem g_turnCt {D : Addr} {N : Hp → Prop} (h : te σ H (TurnD D N)) : TurnC te σ D N true H := by unfold TurnC; rw [if_pos rfl]; exact h
instance st_g_turnCt {D : Addr} {N : Hp → Prop} : Step (TurnC te σ D N true H) (te σ H (TurnD D N)) := ⟨fun z => g_turnCt z⟩
theorem g_turnC {D : Addr} {N : Hp → Prop} {p : Prop} [Decidable p] (h1 : p → te σ H (TurnD D N)) (h2 : ¬ p → N H) : TurnC te σ D N (decide p) H := by
  unfold TurnC
  exact g_iteD h1 h2
theorem g_turnCb {D : Addr} {N : Hp → Prop} {b : Bool} (h1 : b = true → te σ H (TurnD D N)) (h2 : b = false → N H) : TurnC te σ D N b H := by
  unfold TurnC
  exact g_iteBB h1 h2
theorem g_turnD {D : Addr} {N : Hp → Prop} {y : V} {acc : List V} (h : H D = some (.lst acc)) (l : acc.length ≤ 1000) (q : N (upd H D (.lst (acc ++ [y])))) : TurnD D N y H := ⟨acc, h, small1000 l, q⟩
def LcG (J : It) (g : TG) (tt : TT) (te : TE) (vs : List Nat) (σ : L2.St) (Q : VK) (H1 : Hp) : Prop := ∀ D, H1 D = none → ∃ W : Nat → Nat → Hp → Prop,
  (∃ m, W 0 m (upd H1 D (.lst []))) ∧ ∀ i m H, W i m H → (J.stop i H ∧ Q (.ref D) H) ∨ (J.go i H ∧ ∃ Nx : Hp → Prop,
    (∀ H', Nx H' → ∃ m', m' < m ∧ W (i + 1) m' H') ∧ ∀ x H', J.yld i H x H' → Turn1 g tt te vs (wipe σ vs) D x H' Nx)
theorem g_lc {wi : TI} (h : wi σ H fun J H1 => LcG J g tt te vs σ Q H1) : tLc wi g tt te vs σ H Q := h
instance st_g_lc {wi : TI} : Step (tLc wi g tt te vs σ H Q) (wi σ H fun J H1 => LcG J g tt te vs σ Q H1) := ⟨fun z => g_lc z⟩
def ForG (J : It) (g : TG) (tb : TS) (D : Ends) (σ : L2.St) (H1 : Hp) : Prop := ∃ W : Nat → Nat → L2.St → Hp → Prop, (∃ m, W 0 m σ H1) ∧ ∀ i m σ H, W i m σ H →
  (J.stop i H ∧ D.nx σ H) ∨ (J.go i H ∧ ∃ N : L2.St → Hp → Prop, (∀ σ' H', N σ' H' → ∃ m', m' < m ∧ W (i + 1) m' σ' H') ∧
    ∀ x H', J.yld i H x H' → g x σ H' fun σ2 H2 => tb { D with nx := N, ct := N, bk := D.nx } σ2 H2)
theorem g_for {wi : TI} (h : wi σ H fun J H1 => ForG J g tb D0 σ H1) : tFor wi g tb D0 σ H := h
instance st_g_for {wi : TI} : Step (tFor wi g tb D0 σ H) (wi σ H fun J H1 => ForG J g tb D0 σ H1) := ⟨fun z => g_for z⟩
variable {R : It → Hp → Prop}
def Rng1R (ws : List V) (R : It → Hp → Prop) (H : Hp) : Prop := ∃ j : Int, ws = [.int j] ∧ -(2 ^ 62) ≤ j ∧ j < 2 ^ 62 ∧ R (Itr 0 j.toNat) H
theorem g_iRng1 {ta : TA} (h : ta σ H fun ws H1 => Rng1R ws R H1) : iRng1 ta σ H R := h
instance st_g_iRng1 {ta : TA} : Step (iRng1 ta σ H R) (ta σ H fun ws H1 => Rng1R ws R H1) := ⟨fun z => g_iRng1 z⟩
theorem g_rng1 {v : Int} (c : -(2 ^ 62) ≤ v ∧ v < 2 ^ 62) (h : R (Itr 0 v.toNat) H) : Rng1R [.int v] R H := ⟨v, rfl, c.1, c.2, h⟩
def Rng2R (ws : List V) (R : It → Hp → Prop) (H : Hp) : Prop := ∃ i j : Int, ws = [.int i, .int j] ∧ (-(2 ^ 62) ≤ i ∧ i < 2 ^ 62 ∧ -(2 ^ 62) ≤ j ∧ j < 2 ^ 62) ∧ R (Itr i (j - i).toNat) H
theorem g_iRng2 {ta : TA} (h : ta σ H fun ws H1 => Rng2R ws R H1) : iRng2 ta σ H R := h
instance st_g_iRng2 {ta : TA} : Step (iRng2 ta σ H R) (ta σ H fun ws H1 => Rng2R ws R H1) := ⟨fun z => g_iRng2 z⟩
theorem g_rng2 {i j : Int} (c : -(2 ^ 62) ≤ i ∧ i < 2 ^ 62 ∧ -(2 ^ 62) ≤ j ∧ j < 2 ^ 62) (h : R (Itr i (j - i).toNat) H) : Rng2R [.int i, .int j] R H := ⟨i, j, rfl, c, h⟩
def LstR (K : PySem.W.Frag) (x : V) (R : It → Hp → Prop) (H : Hp) : Prop := ∃ a, x = .ref a ∧ (∃ xs, SqL K H a xs) ∧ R (Itl K a) H
theorem g_iList {tl : TE} (h : tl σ H fun x H1 => LstR K x R H1) : iList K tl σ H R := h
instance st_g_iList {tl : TE} : Step (iList K tl σ H R) (tl σ H fun x H1 => LstR K x R H1) := ⟨fun z => g_iList z⟩
theorem g_lstR {xs : List V} (c : SqL K H a xs) (h : R (Itl K a) H) : LstR K (.ref a) R H := ⟨a, rfl, ⟨xs, c⟩, h⟩
def TupR (K : PySem.W.Frag) (x : V) (R : It → Hp → Prop) (H : Hp) : Prop := ∃ a, x = .ref a ∧ (∃ xs, SqT K H a xs) ∧ R (Itt K a) H
theorem g_iTup {tl : TE} (h : tl σ H fun x H1 => TupR K x R H1) : iTup K tl σ H R := h
instance st_g_iTup {tl : TE} : Step (iTup K tl σ H R) (tl σ H fun x H1 => TupR K x R H1) := ⟨fun z => g_iTup z⟩
theorem g_tupR {xs : List V} (c : SqT K H a xs) (h : R (Itt K a) H) : TupR K (.ref a) R H := ⟨a, rfl, ⟨xs, c⟩, h⟩
def WhB (tb : TS) (D : Ends) (W : Nat → L2.St → Hp → Prop) (m : Nat) (σ : L2.St) (b : Bool) (H1 : Hp) : Prop :=
  if b = true then ∃ N : L2.St → Hp → Prop, (∀ σ' H', N σ' H' → ∃ m', m' < m ∧ W m' σ' H') ∧ tb { D with nx := N, ct := N, bk := D.nx } σ H1 else D.nx σ H1
theorem g_while {c : TT} (W : Nat → L2.St → Hp → Prop) (h0 : ∃ m, W m σ H) (hs : ∀ m σ H, W m σ H → c σ H (WhB tb D0 W m σ)) : tWhile c tb D0 σ H := ⟨W, h0, hs⟩
theorem g_whB {W : Nat → L2.St → Hp → Prop} {m : Nat} {p : Prop} [Decidable p] (h1 : p → tb { D0 with nx := fun σ' H' => ∃ m', m' < m ∧ W m' σ' H', ct := fun σ' H' => ∃ m', m' < m ∧ W m' σ' H', bk := D0.nx } σ H)
    (h2 : ¬ p → D0.nx σ H) : WhB tb D0 W m σ (decide p) H := by
  unfold WhB
  exact g_iteD (fun h => ⟨_, fun _ _ z => z, h1 h⟩) h2
/-- a comprehension over a range: Pv by the turns done and the heap, the new list at D -/
theorem lcR {lo : Int} {n : Nat} (hw : wipe σ vs = σ0) (h : ∀ D, H D = none → ∃ Pv : Nat → Hp → Prop, Pv 0 (upd H D (.lst [])) ∧
    (∀ (i : Nat) (H' : Hp), i < n → Pv i H' → Turn1 g tt te vs σ0 D (.int (lo + i)) H' (Pv (i + 1))) ∧ ∀ H', Pv n H' → Q (.ref D) H') : LcG (Itr lo n) g tt te vs σ Q H := by
  subst hw
  intro D hD
  obtain ⟨Pv, h0, hs, hd⟩ := h D hD
  refine ⟨fun i m H => m = n - i ∧ i ≤ n ∧ Pv i H, ⟨n, by simp, Nat.zero_le _, h0⟩, ?_⟩
  rintro i m H ⟨rfl, hi, p⟩
  rcases Nat.lt_or_ge i n with hlt | hge
  · exact .inr ⟨hlt, Pv (i + 1), fun H' p' => ⟨n - (i + 1), by omega, rfl, hlt, p'⟩, fun x H' ⟨e1, e2⟩ => by subst e1 e2; exact hs i _ hlt p⟩
  · have e : i = n := by omega
    subst e
    exact .inl ⟨Nat.le_refl _, hd H p⟩
theorem lcL {xs : List V} (hw : wipe σ vs = σ0) (h : ∀ D, H D = none → ∃ Pv : Nat → Hp → Prop, Pv 0 (upd H D (.lst [])) ∧ (∀ i H', i ≤ xs.length → Pv i H' → SqL K H' a xs) ∧
    (∀ (i : Nat) (x : V) (H' : Hp), xs[i]? = some x → Pv i H' → Turn1 g tt te vs σ0 D x H' (Pv (i + 1))) ∧ ∀ H', Pv xs.length H' → Q (.ref D) H') : LcG (Itl K a) g tt te vs σ Q H := by
  subst hw
  intro D hD
  obtain ⟨Pv, h0, hl, hs, hd⟩ := h D hD
  refine ⟨fun i m H => m = xs.length - i ∧ i ≤ xs.length ∧ Pv i H, ⟨xs.length, by simp, Nat.zero_le _, h0⟩, ?_⟩
  rintro i m H ⟨rfl, hi, p⟩
  have q := hl i H hi p
  rcases Nat.lt_or_ge i xs.length with hlt | hge
  · exact .inr ⟨⟨xs, xs[i], q, by simp [hlt]⟩, Pv (i + 1), fun H' p' => ⟨xs.length - (i + 1), by omega, rfl, hlt, p'⟩, fun x H' ⟨e1, e2⟩ => by subst e1; exact hs i x _ (e2 xs q) p⟩
  · have e : i = xs.length := by omega
    subst e
    exact .inl ⟨⟨xs, q, Nat.le_refl _⟩, hd H p⟩
/-- over a list of ints, nothing changed within a turn: p tells which items are kept, f what stands for them -/
theorem lcP {S : List Int} {f : Int → V} {p : Int → Bool} (hw : wipe σ vs = σ0) (hS : SqL K H a (S.map V.int)) (hl : S.length ≤ 1000)
    (turn : ∀ (D : Addr) (acc : List V) (x : Int) (N : Hp → Prop), H D = none → x ∈ S → (p x = true → TurnD D N (f x) (upd H D (.lst acc))) → (p x = false → N (upd H D (.lst acc))) →
      Turn1 g tt te vs σ0 D (.int x) (upd H D (.lst acc)) N)
    (q : ∀ D, H D = none → Q (.ref D) (upd H D (.lst ((S.filter p).map f)))) : LcG (Itl K a) g tt te vs σ Q H := by
  refine lcL (xs := S.map V.int) hw fun D hD => ⟨fun i H' => H' = upd H D (.lst (((S.take i).filter p).map f)), rfl, ?_, ?_, ?_⟩
  · rintro i H' _ rfl
    exact (same_new hD).seq hS
  · rintro i x H' hx rfl
    rw [List.getElem?_map, Option.map_eq_some_iff] at hx
    obtain ⟨n, hn, rfl⟩ := hx
    have hlt : i < S.length := (List.getElem?_eq_some_iff.mp hn).1
    refine turn D _ n _ hD (List.mem_of_getElem? hn) (fun hp => g_turnD upd_same ?_ ?_) (fun hp => ?_)
    · rw [List.length_map]
      have h1 := List.length_filter_le p (S.take i)
      rw [List.length_take] at h1
      omega
    · dsimp only
      rw [upd_upd, List.take_add_one, hn, List.filter_append, List.map_append]
      simp [hp]
    · dsimp only
      rw [List.take_add_one, hn, List.filter_append]
      simp [hp]
  · rintro H' rfl
    rw [List.length_map, List.take_length]
    exact q D hD
/-- the same over range(n) -/
theorem lcPR {n : Nat} {f : Nat → V} {p : Nat → Bool} (hw : wipe σ vs = σ0) (hl : n ≤ 1000)
    (turn : ∀ (D : Addr) (acc : List V) (x : Nat) (N : Hp → Prop), H D = none → x < n → (p x = true → TurnD D N (f x) (upd H D (.lst acc))) → (p x = false → N (upd H D (.lst acc))) →
      Turn1 g tt te vs σ0 D (.int (0 + (x : Int))) (upd H D (.lst acc)) N)
    (q : ∀ D, H D = none → Q (.ref D) (upd H D (.lst (((List.range n).filter p).map f)))) : LcG (Itr 0 n) g tt te vs σ Q H := by
  refine lcR hw fun D hD => ⟨fun i H' => H' = upd H D (.lst (((List.range i).filter p).map f)), rfl, ?_, ?_⟩
  · rintro i H' hi rfl
    refine turn D _ i _ hD hi (fun hp => g_turnD upd_same ?_ ?_) (fun hp => ?_)
    · rw [List.length_map]
      have h1 := List.length_filter_le p (List.range i)
      rw [List.length_range] at h1
      omega
    · dsimp only
      rw [upd_upd, List.range_succ, List.filter_append, List.map_append]
      simp [hp]
    · dsimp only
      rw [List.range_succ, List.filter_append]
      simp [hp]
  · rintro H' rfl
    exact q D hD
theorem forL {xs : List V} (h : ∃ Pv : Nat → L2.St → Hp → Prop, Pv 0 σ H ∧ (∀ i σ' H', i ≤ xs.length → Pv i σ' H' → SqL K H' a xs) ∧
    (∀ i x σ' H', xs[i]? = some x → Pv i σ' H' → g x σ' H' fun σ2 H2 => tb { D0 with nx := Pv (i + 1), ct := Pv (i + 1), bk := D0.nx } σ2 H2) ∧ ∀ σ' H', Pv xs.length σ' H' → D0.nx σ' H') : ForG (Itl K a) g tb D0 σ H := by
  obtain ⟨Pv, h0, hl, hs, hd⟩ := h
  exact for_list Pv h0 hl hs hd
theorem forR {lo : Int} {n : Nat} (h : ∃ Pv : Nat → L2.St → Hp → Prop, Pv 0 σ H ∧
    (∀ i σ' H', i < n → Pv i σ' H' → g (.int (lo + i)) σ' H' fun σ2 H2 => tb { D0 with nx := Pv (i + 1), ct := Pv (i + 1), bk := D0.nx } σ2 H2) ∧ ∀ σ' H', Pv n σ' H' → D0.nx σ' H') : ForG (Itr lo n) g tb D0 σ H := by
  obtain ⟨Pv, h0, hs, hd⟩ := h
  exact for_range Pv h0 hs hd
theorem forT {xs : List V} (h : ∃ Pv : Nat → L2.St → Hp → Prop, Pv 0 σ H ∧ (∀ i σ' H', i ≤ xs.length → Pv i σ' H' → SqT K H' a xs) ∧
    (∀ i x σ' H', xs[i]? = some x → Pv i σ' H' → g x σ' H' fun σ2 H2 => tb { D0 with nx := Pv (i + 1), ct := Pv (i + 1), bk := D0.nx } σ2 H2) ∧ ∀ σ' H', Pv xs.length σ' H' → D0.nx σ' H') : ForG (Itt K a) g tb D0 σ H := by
  obtain ⟨Pv, h0, hl, hs, hd⟩ := h
  exact for_tup Pv h0 hl hs hd
theorem g_app {p : Addr} {xs : List V} {y : V} {H : Hp} {Q : VK} (h : H p = some (.lst xs)) (hl : xs.length < 1000) (q : Q .non (upd H p (.lst (xs ++ [y])))) : rAppend (.ref p) [y] H Q :=
  ⟨p, xs, y, rfl, rfl, h, small1000 (Nat.le_of_lt hl), q⟩
/-- a turn that changes nothing: the item is kept if p says so, and f of it stands in the new list -/
def Pure1 (g : TG) (tt : TT) (te : TE) (vs : List Nat) (σ0 : L2.St) (p : V → Bool) (f : V → V) (x : V) (H : Hp) : Prop :=
  g x σ0 H fun σ2 H2 => wipe σ2 vs = σ0 ∧ tt σ2 H2 fun b H3 => if b = true then te σ2 H3 fun y H4 => p x = true ∧ y = f x ∧ H4 = H else p x = false ∧ H3 = H
end
theorem pure_step {H : Hp} {D : Addr} {xs : List V} {i : Nat} {x y : V} {p : V → Bool} {f : V → V} (hx : xs[i]? = some x) (hp : p x = true) (hy : y = f x) (hl : xs.length ≤ 1000) :
    ∃ acc, (upd H D (.lst (((xs.take i).filter p).map f))) D = some (.lst acc) ∧ acc.length < sizeLine ∧
      upd (upd H D (.lst (((xs.take i).filter p).map f))) D (.lst (acc ++ [y])) = upd H D (.lst (((xs.take (i + 1)).filter p).map f)) := by
  refine ⟨_, upd_same, small1000 ?_, ?_⟩
  · rw [List.length_map]
    have h1 := List.length_filter_le p (xs.take i)
    have h2 : (xs.take i).length ≤ xs.length := by rw [List.length_take]; exact Nat.min_le_right _ _
    omega
  · rw [upd_upd, List.take_add_one, hx, List.filter_append, List.map_append, hy]
    simp [hp]
theorem pure_skip {H : Hp} {D : Addr} {xs : List V} {i : Nat} {x : V} {p : V → Bool} {f : V → V} (hx : xs[i]? = some x) (hp : p x = false) :
    upd H D (.lst (((xs.take i).filter p).map f)) = upd H D (.lst (((xs.take (i + 1)).filter p).map f)) := by
  rw [List.take_add_one, hx, List.filter_append]
  simp [hp]
theorem cxK {CX : CXT} {P : Program} {w : World} {K : PySem.W.Frag} {mg : Str → Option Value} {base : Heap} {N : List Str} {q : Str} {sc : Scope} {f : Addr} {cdv : Value}
    {A : PySem.Around} {outer : List PySem.Env} {s : Shared} {H : Hp} {E : XK} : (cxOf CX P w K mg base N q sc f cdv A outer s H E).K = K := rfl
end Q
-- step instances

set_option Elab.async false
set_option linter.all false
set_option maxRecDepth 100000
namespace PySem
/-! enumerate(t) over a tuple -/
set_option maxHeartbeats 1000000 in
theorem qMeetsEnum {v : Value} {o : Obj} {HH : Heap → Prop} (B : Begins v o HH) :
    Meets (Builtin.«enumerate.__new__» ⟨[.type "enumerate", v], []⟩) (fun _ R s => HH s.heap ∧ R (.ok (.ret (.ref (s.heap.push o).objs.size)))
      { s with heap := (s.heap.push o).push { cls := .type "enumerate", data := .fields #[.none, .bool false, .ref s.heap.objs.size, rawInt 0, .none, .none] } }) :=
  .of_wp fun prog w A R s hyp => by
    obtain ⟨hp, gg, dd, tk, os⟩ := s
    obtain ⟨hstart, hyp⟩ := hyp
    have hsub := sub_enumerate
    have goIter : ∀ {A' : Around} {E : Value → Shared → Prop} {Q : Value → Shared → Prop}, Q (.ref hp.objs.size) ⟨hp.push o, gg, dd, tk, os⟩ → wpAny (model prog w) A' (pyIter v) Q E ⟨hp, gg, dd, tk, os⟩ :=
      fun z => B.iter prog w _ _ ⟨hp, gg, dd, tk, os⟩ _ hstart z
    wp_walk using goIter
    refine wpAny_stack_any fun st => wpAny_pure ?_
    split
    · rename_i c _ _ _ _ _
      cases (c == Value.type "enumerate") <;> (wp_walk using goIter; exact ⟨_, rfl, hyp⟩)
    · wp_walk using goIter
      exact ⟨_, rfl, hyp⟩
theorem qEnumBegin {prog : Program} {w : World} {A : Around} {E : Value → Shared → Prop} {s : Shared} {v : Value} {o : Obj} {HH : Heap → Prop} {Q : Value → Shared → Prop} (B : Begins v o HH) (hb : HH s.heap)
    (done : ∀ h', IsEnum h' (s.heap.objs.size + 1) s.heap.objs.size 0 .none → h'.get? s.heap.objs.size = some o →
      (∀ b o, s.heap.get? b = some o → h'.get? b = some o) → Q (.ref (s.heap.objs.size + 1)) { s with heap := h' }) :
    wpAny (model prog w) A (call (.type "enumerate") [v]) Q E s := by
  refine callType_new F.called_enumerate (by decide) (F.typeCall_enumerate_1 _) (F.newCall_enumerate_1 _) (fun obj => F.args_object_init_2 obj _) F.entry_enumerate_new (qMeetsEnum B) ⟨hb, ?_⟩
  have size1 : (s.heap.push o).objs.size = s.heap.objs.size + 1 := Heap.size_push ..
  show _ ∧ _
  rw [size1]
  have isE : IsEnum ((s.heap.push o).push { cls := .type "enumerate", data := .fields #[.none, .bool false, .ref s.heap.objs.size, rawInt 0, .none, .none] }) (s.heap.objs.size + 1) s.heap.objs.size 0 .none := by
    have z := Heap.get?_push_size (s.heap.push o) (o := { cls := .type "enumerate", data := .fields #[.none, .bool false, .ref s.heap.objs.size, rawInt 0, .none, .none] }) rfl
    rw [size1] at z
    exact z
  exact ⟨⟨_, isE, rfl⟩, done _ isE (Heap.get?_push_of_some _ (Heap.get?_push_size _ B.free)) fun b o x => Heap.get?_push_of_some _ (Heap.get?_push_of_some _ x)⟩
theorem qEnumEnd {prog : Program} {w : World} {A : Around} {E : Value → Shared → Prop} {s : Shared} {e it t : Addr} {i : Nat} {k : Int} {items : Array Value} {old : Value} {Q : Option Value → Shared → Prop} (hh : A.handled = none)
    (isE : IsEnum s.heap e it k old) (iti : s.heap.IsTupleIter it t i) (ht : s.heap.IsTuple t items) (no : items[i]? = none)
    (done : ∀ h', Heap.ExtBut it s.heap h' → Q none { s with heap := h' }) : wpAny (model prog w) A (pyNext (.ref e)) Q E s := by
  have tyE : s.TypeIs (.ref e) "enumerate" := ⟨_, isE, rfl⟩
  unfold pyNext
  refine wpAny_bind (wpAny_attempt (wpAny_callSpecial?_slot (name := Str.ofString "__next__") tyE F.slot_enumerate_next ?_))
  refine wpAny_call_entry F.slot_enumerate_next tyE F.entry_enumerate_next ?_ (F.args_enumerate_next_1 _)
  show wpAny _ _ (field (.ref e) 2 >>= _) _ _ s
  refine wpAny_bind (wpAny_field isE rfl (x := .ref it) rfl (wpAny_bind ?_))
  refine wpAny_nextOf_tuple_end (show A.in1.handled = none from hh) iti ht no fun h' x eb ⟨ox, hox, cx⟩ => ?_
  refine wpAny_bind (wpAny_isInstance (T := "StopIteration") (b := true) ⟨ox, hox, cx⟩ isSubtype_stop ?_)
  exact wpAny_pure (done _ eb)
end PySem
namespace Q
open PySem PySem.Spec L2 RZ
/-- the turns of enumerate over a tuple: a new pair each -/
def Iet (K : PySem.W.Frag) (a : Addr) : It :=
  ⟨fun i H => ∃ (xs : List V) (x : V), SqT K H a xs ∧ xs[i]? = some x,
    fun i H v H' => ∃ T x, v = .ref T ∧ H T = none ∧ H' = upd H T (.tup [.int (i : Nat), x]) ∧ ∀ xs, SqT K H a xs → xs[i]? = some x,
    fun i H => ∃ xs : List V, SqT K H a xs ∧ xs.length ≤ i⟩
theorem turnT {P : Program} {w : World} {K : PySem.W.Frag} {elts : List Expr} {kk : Nat} {tpos : Pos} (a e it : Addr) :
    L2.Turn P w K (.Tuple elts kk tpos) (Iet K a) [e, it] e (fun i h => (∃ old, IsEnum h e it ((i : Nat) : Int) old) ∧ h.IsTupleIter it a i ∧ e ≠ it) where
  mem := List.mem_cons_self ..
  obj := fun i h st b hb => by
    obtain ⟨⟨old, isE⟩, ⟨oi, hoi, _, hdi⟩, _⟩ := st
    rcases List.mem_cons.mp hb with z | z
    · exact ⟨_, by rw [z]; exact isE, fun v q => by cases q⟩
    · have z2 : b = it := by simpa using z
      exact ⟨oi, by rw [z2]; exact hoi, fun v q => by rw [hdi] at q; cases q⟩
  keep := fun i h h' ⟨⟨old, isE⟩, iti, ne⟩ k => ⟨⟨old, k e (by simp) _ isE⟩, iti.at fun o q => k it (by simp) o q, ne⟩
  item := by
    intro X hP hw hK hc i pins s σ H E I hf st hg
    subst hP hw hK
    obtain ⟨⟨old, isE⟩, iti, ne⟩ := st
    obtain ⟨xs, x, hq, hx⟩ := hg
    obtain ⟨its, rv, p, hz⟩ := I.tuple hq
    obtain ⟨u, hu, ru⟩ := rv.get hx
    have hT : s.heap.IsTuple a its.toArray := p
    have sz_e : e < s.heap.objs.size := Heap.lt_size isE
    have sz_i : it < s.heap.objs.size := by obtain ⟨_, q, _⟩ := iti; exact Heap.lt_size q
    have a_it : a ≠ it := fun z => by
      obtain ⟨o1, e1, c1, _⟩ := iti
      obtain ⟨o2, e2, c2, _⟩ := hT
      rw [z, e1] at e2
      cases e2
      rw [c1] at c2
      injection c2 with c3
      exact absurd c3 (by decide)
    have a_e : e ≠ a := fun z => by
      obtain ⟨o2, e2, c2, _⟩ := hT
      rw [← z, isE] at e2
      cases e2
      injection c2 with c3
      exact absurd c3 (by decide)
    have D := Draws.tuple (prog := X.prog) (w := X.w) (A := X.A.in1) (show X.A.in1.handled = none from I.ok.hd hc) it a a_it its.toArray
    have ilt : i < its.toArray.size := by
      have z := List.getElem?_eq_some_iff.mp hu
      rw [List.size_toArray]
      exact z.1
    refine wpAny_pyNext_enum_itemD D isE ⟨iti, hT⟩ ilt ne (by simp [a_e, ne]) fun y h' tk hy ho st' hTup hsz hk => ?_
    have ey : y = u := by
      have z : its.toArray[i]? = some u := by simpa using hu
      rw [z] at hy
      exact (Option.some.inj hy).symm
    subst ey
    refine ⟨_, rfl, wpAny_letOwnedTupleGo_enum (s := { s with heap := h', toks := tk + 1 }) ho fun h'' he' sb => ?_⟩
    have hT2 : h''.get? s.heap.objs.size = some { cls := .type "tuple", data := .seq #[.int i tk, y] } := (sb.2 _ (Nat.ne_of_gt sz_e)).trans hTup
    have new : ObjOk X.prog X.w (upd H s.heap.objs.size (.tup [.int (i : Nat), x])) h'' s.heap.objs.size (.tup [.int (i : Nat), x]) :=
      ⟨by show 2 ≤ sizeLine; decide, [.int i tk, y], .cons ⟨_, rfl⟩ (.cons ru .nil), ⟨_, hT2, rfl, _, rfl⟩⟩
    have I1 : Inv X pins σ (upd H s.heap.objs.size (.tup [.int (i : Nat), x])) { s with heap := h'', toks := tk + 1 } :=
      I.turnedNew (ch := [e, it]) (fun b ob hb q => (sb.2 b (fun z => hb (by simp [z]))).trans (hk b ob (fun z => hb (by simp [z])) (fun z => hb (by simp [z])) q)) hf (Nat.le_refl _) new
    refine ⟨.ref s.heap.objs.size, _, I1, rfl, ⟨_, x, rfl, I.hok.fresh (Nat.le_refl _), rfl, fun ys hy => by rw [I.tuple_inj hy hq]; exact hx⟩,
      ⟨⟨y, ?_⟩, st'.1.at fun o q => (sb.2 it (Ne.symm ne)).trans q, ne⟩, fun b hb => ?_⟩
    · rw [show ((i + 1 : Nat) : Int) = (i : Int) + 1 from by omega]
      exact he'
    · have lt : b < s.heap.objs.size := by
        rcases List.mem_cons.mp hb with z | z
        · rw [z]; exact sz_e
        · rw [show b = it from by simpa using z]; exact sz_i
      rw [upd_ne (Nat.ne_of_lt lt)]
      exact (hf b hb).1
  done := by
    intro X hP hw hK hc i pins s σ H E I hf st hg
    subst hP hw hK
    obtain ⟨⟨old, isE⟩, iti, ne⟩ := st
    obtain ⟨xs, hq, hx⟩ := hg
    obtain ⟨its, rv, p, hz⟩ := I.tuple hq
    obtain ⟨f0, f1, f2, f3, f4, f5⟩ := hf it (by simp)
    have hT : s.heap.IsTuple a its.toArray := p
    have none_i : its.toArray[i]? = none := by
      have z := rv.length
      rw [List.getElem?_toArray]
      exact List.getElem?_eq_none_iff.mpr (by omega)
    exact qEnumEnd (I.ok.hd hc) isE iti hT none_i fun h' eb => ⟨rfl, I.turned (t' := s.toks) (fun b o hb q => eb b o hb q) f0 f1 f3 f4 f5⟩
  self := fun A i s Q E ⟨⟨_, isE⟩, _⟩ hQ => wpAny_pyIter_enum isE hQ
/-- enumerate over a list or a tuple -/
def iEn2 (K : PySem.W.Frag) (ta : TA) : TI := fun σ H R => ta σ H fun vs H1 => ∃ a xs, vs = [.ref a] ∧ ((SqL K H1 a xs ∧ R (Ite K a) H1) ∨ (SqT K H1 a xs ∧ R (Iet K a) H1))
theorem pi_en2 {X : Cx} {e : Expr} {ta : TA} {p pos tpos : Pos} {elts : List Expr} {kk : Nat} (hg : Gl X "enumerate") (hm : X.mg "enumerate" = none) (ha : PA X [e] ta) (hs : starEach [e] X.env = [(false, eval e X.env)] := by rfl) :
    PI X (.Tuple elts kk tpos) (.Call (.Name "enumerate" p) [e] [] pos) (iEn2 X.K ta) := by
  refine ⟨fun pins s σ H R I h => ?_⟩
  refine PyProof.Rows.Call_ (ld_blt I hg hm PyProof.Rows.boot_enumerate (PyProof.Rows.callWith_type1 (thn (ha.run pos pins s σ H _ I h) fun us s1 ⟨vs, H1, I1, r1, q1⟩ => ?_) hs rfl))
  obtain ⟨a, xs, ex, hq⟩ := q1
  subst ex
  cases r1 with
  | cons r rr =>
    cases rr
    cases r
    have places : ∀ b ∈ [s1.heap.objs.size + 1, s1.heap.objs.size], s1.heap.objs.size ≤ b := fun b hb => by
      rcases List.mem_cons.mp hb with z | z
      · omega
      · have z2 : b = s1.heap.objs.size := by simpa using z
        omega
    rcases hq with ⟨hq, q⟩ | ⟨hq, q⟩
    · obtain ⟨its, rv, p', hz⟩ := I1.list hq
      refine call_enumerate_list p'.isList fun h' he hit hsz hk => wpAny_pyIter_enum he ?_
      exact ⟨s1.heap.objs.size + 1, [s1.heap.objs.size + 1, s1.heap.objs.size], _, _, H1, rfl, I1.kept (t' := s1.toks) hk, turn_enum a (s1.heap.objs.size + 1) s1.heap.objs.size,
        ⟨⟨.none, he⟩, hit, Nat.succ_ne_self _⟩, fun b hb => I1.fpOk (places b hb) (I1.hok.fresh (places b hb)), q⟩
    · obtain ⟨its, rv, p', hz⟩ := I1.tuple hq
      have hT : s1.heap.IsTuple a its.toArray := p'
      refine qEnumBegin (begins_tuple a its.toArray) hT fun h' he hit hk => wpAny_pyIter_enum he ?_
      exact ⟨s1.heap.objs.size + 1, [s1.heap.objs.size + 1, s1.heap.objs.size], _, _, H1, rfl, I1.kept (t' := s1.toks) hk, turnT a (s1.heap.objs.size + 1) s1.heap.objs.size,
        ⟨⟨.none, he⟩, ⟨_, hit, rfl, rfl⟩, Nat.succ_ne_self _⟩, fun b hb => I1.fpOk (places b hb) (I1.hok.fresh (places b hb)), q⟩
theorem k_en2 {X : Cx} {K : PySem.W.Frag} {e : Expr} {ta : TA} {p pos tpos : Pos} {elts : List Expr} {kk : Nat} (ek : X.K = K) (hg : Gl X "enumerate") (hm : X.mg "enumerate" = none) (ha : PA X [e] ta) (hs : starEach [e] X.env = [(false, eval e X.env)] := by rfl) :
    PI X (.Tuple elts kk tpos) (.Call (.Name "enumerate" p) [e] [] pos) (iEn2 K ta) := by subst ek; exact pi_en2 hg hm ha hs
section
variable {K : PySem.W.Frag} {g : TG} {tt : TT} {te : TE} {vs : List Nat} {σ σ0 : L2.St} {H : Hp} {Q : VK} {a : Addr} {R : It → Hp → Prop} {N : L2.St → Hp → Prop}
def En2R (K : PySem.W.Frag) (vs : List V) (R : It → Hp → Prop) (H : Hp) : Prop := ∃ a xs, vs = [.ref a] ∧ ((SqL K H a xs ∧ R (Ite K a) H) ∨ (SqT K H a xs ∧ R (Iet K a) H))
theorem g_iEn2 {ta : TA} (h : ta σ H fun ws H1 => En2R K ws R H1) : iEn2 K ta σ H R := h
instance st_g_iEn2 {ta : TA} : Step (iEn2 K ta σ H R) (ta σ H fun ws H1 => En2R K ws R H1) := ⟨fun z => g_iEn2 z⟩
theorem g_en2L {xs : List V} (c : SqL K H a xs) (h : R (Ite K a) H) : En2R K [.ref a] R H := ⟨a, xs, rfl, .inl ⟨c, h⟩⟩
theorem g_en2T {xs : List V} (c : SqT K H a xs) (h : R (Iet K a) H) : En2R K [.ref a] R H := ⟨a, xs, rfl, .inr ⟨c, h⟩⟩
def En1R (K : PySem.W.Frag) (vs : List V) (R : It → Hp → Prop) (H : Hp) : Prop := ∃ a xs, vs = [.ref a] ∧ SqL K H a xs ∧ R (Ite K a) H
theorem g_iEnum {ta : TA} (h : ta σ H fun ws H1 => En1R K ws R H1) : iEnum K ta σ H R := h
instance st_g_iEnum {ta : TA} : Step (iEnum K ta σ H R) (ta σ H fun ws H1 => En1R K ws R H1) := ⟨fun z => g_iEnum z⟩
theorem g_en1 {xs : List V} (c : SqL K H a xs) (h : R (Ite K a) H) : En1R K [.ref a] R H := ⟨a, xs, rfl, c, h⟩
theorem g_gTup {n : Nat} {t : TGs} {p : Addr} {xs : List V} (c : SqT K H p xs) (e : xs.length = n) (h : t xs σ H N) : gTup K n t (.ref p) σ H N := ⟨p, xs, rfl, c, e, h⟩
theorem g_gCons {t : TG} {u : TGs} {v : V} {r : List V} (h : t v σ H fun σ' H' => u r σ' H' N) : gCons t u (v :: r) σ H N := ⟨v, r, rfl, h⟩
instance st_g_gCons {t : TG} {u : TGs} {v : V} {r : List V} : Step (gCons t u (v :: r) σ H N) (t v σ H fun σ' H' => u r σ' H' N) := ⟨fun z => g_gCons z⟩
theorem g_gNil (h : N σ H) : gNil [] σ H N := ⟨rfl, h⟩
instance st_g_gNil : Step (gNil [] σ H N) (N σ H) := ⟨fun z => g_gNil z⟩
theorem lcE {xs : List V} (hw : wipe σ vs = σ0) (h : ∀ D, H D = none → ∃ Pv : Nat → Hp → Prop, Pv 0 (upd H D (.lst [])) ∧ (∀ i H', i ≤ xs.length → Pv i H' → SqL K H' a xs) ∧
    (∀ (i : Nat) (x : V) (T : Addr) (H' : Hp), xs[i]? = some x → Pv i H' → H' T = none → Turn1 g tt te vs σ0 D (.ref T) (upd H' T (.tup [.int (i : Nat), x])) (Pv (i + 1))) ∧
    ∀ H', Pv xs.length H' → Q (.ref D) H') : LcG (Ite K a) g tt te vs σ Q H := by
  subst hw
  intro D hD
  obtain ⟨Pv, h0, hl, hs, hd⟩ := h D hD
  refine ⟨fun i m H => m = xs.length - i ∧ i ≤ xs.length ∧ Pv i H, ⟨xs.length, by simp, Nat.zero_le _, h0⟩, ?_⟩
  rintro i m H ⟨rfl, hi, p⟩
  have q := hl i H hi p
  rcases Nat.lt_or_ge i xs.length with hlt | hge
  · exact .inr ⟨⟨xs, xs[i], q, by simp [hlt]⟩, Pv (i + 1), fun H' p' => ⟨xs.length - (i + 1), by omega, rfl, hlt, p'⟩, fun v H' ⟨T, x, e1, e2, e3, e4⟩ => by subst e1 e3; exact hs i x T _ (e4 xs q) p e2⟩
  · have e : i = xs.length := by omega
    subst e
    exact .inl ⟨⟨xs, q, Nat.le_refl _⟩, hd H p⟩
theorem lcET {xs : List V} (hw : wipe σ vs = σ0) (h : ∀ D, H D = none → ∃ Pv : Nat → Hp → Prop, Pv 0 (upd H D (.lst [])) ∧ (∀ i H', i ≤ xs.length → Pv i H' → SqT K H' a xs) ∧
    (∀ (i : Nat) (x : V) (T : Addr) (H' : Hp), xs[i]? = some x → Pv i H' → H' T = none → Turn1 g tt te vs σ0 D (.ref T) (upd H' T (.tup [.int (i : Nat), x])) (Pv (i + 1))) ∧
    ∀ H', Pv xs.length H' → Q (.ref D) H') : LcG (Iet K a) g tt te vs σ Q H := by
  subst hw
  intro D hD
  obtain ⟨Pv, h0, hl, hs, hd⟩ := h D hD
  refine ⟨fun i m H => m = xs.length - i ∧ i ≤ xs.length ∧ Pv i H, ⟨xs.length, by simp, Nat.zero_le _, h0⟩, ?_⟩
  rintro i m H ⟨rfl, hi, p⟩
  have q := hl i H hi p
  rcases Nat.lt_or_ge i xs.length with hlt | hge
  · exact .inr ⟨⟨xs, xs[i], q, by simp [hlt]⟩, Pv (i + 1), fun H' p' => ⟨xs.length - (i + 1), by omega, rfl, hlt, p'⟩, fun v H' ⟨T, x, e1, e2, e3, e4⟩ => by subst e1 e3; exact hs i x T _ (e4 xs q) p e2⟩
  · have e : i = xs.length := by omega
    subst e
    exact .inl ⟨⟨xs, q, Nat.le_refl _⟩, hd H p⟩
def ZipR (K : PySem.W.Frag) (vs : List V) (R : It → Hp → Prop) (H : Hp) : Prop := ∃ a b xs ys, vs = [.ref a, .ref b] ∧ ((SqL K H a xs ∧ SqL K H b ys ∧ R (Itz K a b) H) ∨ (SqT K H a xs ∧ SqT K H b ys ∧ R (ItzT K a b) H))
theorem g_iZipA {ta : TA} (h : ta σ H fun ws H1 => ZipR K ws R H1) : iZipA K ta σ H R := h
instance st_g_iZipA {ta : TA} : Step (iZipA K ta σ H R) (ta σ H fun ws H1 => ZipR K ws R H1) := ⟨fun z => g_iZipA z⟩
theorem g_zipL {b : Addr} {xs ys : List V} (c : SqL K H a xs) (d : SqL K H b ys) (h : R (Itz K a b) H) : ZipR K [.ref a, .ref b] R H := ⟨a, b, xs, ys, rfl, .inl ⟨c, d, h⟩⟩
theorem g_zipT {b : Addr} {xs ys : List V} (c : SqT K H a xs) (d : SqT K H b ys) (h : R (ItzT K a b) H) : ZipR K [.ref a, .ref b] R H := ⟨a, b, xs, ys, rfl, .inr ⟨c, d, h⟩⟩
theorem lcZ {b : Addr} {xs ys : List V} (hl : xs.length = ys.length) (hw : wipe σ vs = σ0) (h : ∀ D, H D = none → ∃ Pv : Nat → Hp → Prop, Pv 0 (upd H D (.lst [])) ∧ (∀ i H', Pv i H' → SqL K H' a xs ∧ SqL K H' b ys) ∧
    (∀ (i : Nat) (x y : V) (T : Addr) (H' : Hp), xs[i]? = some x → ys[i]? = some y → Pv i H' → H' T = none → Turn1 g tt te vs σ0 D (.ref T) (upd H' T (.tup [x, y])) (Pv (i + 1))) ∧
    ∀ H', Pv xs.length H' → Q (.ref D) H') : LcG (Itz K a b) g tt te vs σ Q H := by
  subst hw
  intro D hD
  obtain ⟨Pv, h0, hq, hs, hd⟩ := h D hD
  refine ⟨fun i m H => m = xs.length - i ∧ i ≤ xs.length ∧ Pv i H, ⟨xs.length, by simp, Nat.zero_le _, h0⟩, ?_⟩
  rintro i m H ⟨rfl, hi, p⟩
  obtain ⟨q1, q2⟩ := hq i H p
  rcases Nat.lt_or_ge i xs.length with hlt | hge
  · exact .inr ⟨⟨xs, ys, xs[i], ys[i]'(by omega), q1, q2, by simp [hlt], by simp⟩, Pv (i + 1), fun H' p' => ⟨xs.length - (i + 1), by omega, rfl, hlt, p'⟩,
      fun v H' ⟨T, x, y, e1, e2, e3, e4, e5⟩ => by subst e1 e3; exact hs i x y T _ (e4 xs q1) (e5 ys q2) p e2⟩
  · have e : i = xs.length := by omega
    subst e
    exact .inl ⟨⟨xs, ys, q1, q2, .inl (Nat.le_refl _)⟩, hd H p⟩
theorem lcZT {b : Addr} {xs ys : List V} (hl : xs.length = ys.length) (hw : wipe σ vs = σ0) (h : ∀ D, H D = none → ∃ Pv : Nat → Hp → Prop, Pv 0 (upd H D (.lst [])) ∧ (∀ i H', Pv i H' → SqT K H' a xs ∧ SqT K H' b ys) ∧
    (∀ (i : Nat) (x y : V) (T : Addr) (H' : Hp), xs[i]? = some x → ys[i]? = some y → Pv i H' → H' T = none → Turn1 g tt te vs σ0 D (.ref T) (upd H' T (.tup [x, y])) (Pv (i + 1))) ∧
    ∀ H', Pv xs.length H' → Q (.ref D) H') : LcG (ItzT K a b) g tt te vs σ Q H := by
  subst hw
  intro D hD
  obtain ⟨Pv, h0, hq, hs, hd⟩ := h D hD
  refine ⟨fun i m H => m = xs.length - i ∧ i ≤ xs.length ∧ Pv i H, ⟨xs.length, by simp, Nat.zero_le _, h0⟩, ?_⟩
  rintro i m H ⟨rfl, hi, p⟩
  obtain ⟨q1, q2⟩ := hq i H p
  rcases Nat.lt_or_ge i xs.length with hlt | hge
  · exact .inr ⟨⟨xs, ys, xs[i], ys[i]'(by omega), q1, q2, by simp [hlt], by simp⟩, Pv (i + 1), fun H' p' => ⟨xs.length - (i + 1), by omega, rfl, hlt, p'⟩,
      fun v H' ⟨T, x, y, e1, e2, e3, e4, e5⟩ => by subst e1 e3; exact hs i x y T _ (e4 xs q1) (e5 ys q2) p e2⟩
  · have e : i = xs.length := by omega
    subst e
    exact .inl ⟨⟨xs, ys, q1, q2, .inl (Nat.le_refl _)⟩, hd H p⟩
end
theorem k_zip {X : Cx} {K : PySem.W.Frag} {e e2 : Expr} {ta : TA} {p pos tpos : Pos} {elts : List Expr} {kk : Nat} (ek : X.K = K) (hg : Gl X "zip") (hm : X.mg "zip" = none) (ha : PA X [e, e2] ta)
    (hs : starEach [e, e2] X.env = (false, eval e X.env) :: starEach [e2] X.env := by rfl) (hl : (backTo pos (starEach [e2] X.env)).any (·.1) = false := by rfl) :
    PI X (.Tuple elts kk tpos) (.Call (.Name "zip" p) [e, e2] [] pos) (iZipA K ta) := by subst ek; exact pi_zipA hg hm ha hs hl
end Q
-- step instances

set_option Elab.async false
set_option linter.all false
set_option maxRecDepth 100000
set_option maxHeartbeats 2000000
/-! zip of lists and tuples, mixed -/
namespace Q
open PySem PySem.Spec L2 RZ
/-- a list (true) or a tuple (false) -/
def SqB (k : Bool) (K : PySem.W.Frag) (H : Hp) (a : Addr) (xs : List V) : Prop := if k = true then SqL K H a xs else SqT K H a xs
def IsB (k : Bool) (h : Heap) (a : Addr) (its : Array Value) : Prop := if k = true then h.IsList a its else h.IsTuple a its
def ItB (k : Bool) (h : Heap) (it a : Addr) (i : Nat) : Prop := if k = true then h.IsListIter it a i else h.IsTupleIter it a i
section
variable {X : Cx} {pins : List (Addr × Obj)} {σ : L2.St} {H : Hp} {s : Shared} {a it : Addr} {xs ys : List V} {k : Bool} {i : Nat} {h h' : Heap}
theorem sqB_of (I : Inv X pins σ H s) (c : SqB k X.K H a xs) : ∃ its : List Value, Vals xs its ∧ IsB k s.heap a its.toArray := by
  cases k
  · obtain ⟨its, r, p, _⟩ := I.tuple (show SqT X.K H a xs from c)
    exact ⟨its, r, show s.heap.IsTuple a its.toArray from p⟩
  · obtain ⟨its, r, p, _⟩ := I.list (show SqL X.K H a xs from c)
    exact ⟨its, r, show s.heap.IsList a its.toArray from p.isList⟩
theorem sqB_inj (I : Inv X pins σ H s) (c : SqB k X.K H a xs) (d : SqB k X.K H a ys) : xs = ys := by
  cases k
  · exact I.tuple_inj (show SqT X.K H a xs from c) d
  · exact I.list_inj (show SqL X.K H a xs from c) d
theorem ItB.keep (c : ItB k h it a i) (q : ∀ o, h.get? it = some o → h'.get? it = some o) : ItB k h' it a i := by
  cases k
  · exact Heap.IsTupleIter.at (show h.IsTupleIter it a i from c) q
  · exact Heap.IsListIter.at (show h.IsListIter it a i from c) q
theorem ItB.obj (c : ItB k h it a i) : ∃ o, h.get? it = some o ∧ ∀ v, o.data ≠ .cell v := by
  cases k
  · obtain ⟨o, e, _, d⟩ := (show h.IsTupleIter it a i from c)
    exact ⟨o, e, fun v z => by rw [d] at z; cases z⟩
  · obtain ⟨o, e, _, d⟩ := (show h.IsListIter it a i from c)
    exact ⟨o, e, fun v z => by rw [d] at z; cases z⟩
theorem IsB.lt {its : Array Value} (c : IsB k h a its) : a < h.objs.size := by
  cases k
  · obtain ⟨o, e, _⟩ := (show h.IsTuple a its from c)
    exact Heap.lt_size e
  · obtain ⟨o, e, _⟩ := (show h.IsList a its from c)
    exact Heap.lt_size e
theorem drawsB {P : Program} {w : World} {A : Around} (hh : A.handled = none) (k : Bool) (it l : Addr) (ne : l ≠ it) (items : Array Value) :
    Draws P w A it [it, l] items.size (fun i v => items[i]? = some v) (fun i h => ItB k h it l i ∧ IsB k h l items) := by
  cases k
  · exact Draws.tuple hh it l ne items
  · exact Draws.list hh it l ne items
def oB (k : Bool) (l : Addr) : Obj := { cls := .type (if k = true then "list_iterator" else "tuple_iterator"), data := .fields #[.ref l, .int 0 0] }
theorem beginsB (k : Bool) (l : Addr) (items : Array Value) : Begins (.ref l) (oB k l) fun h => IsB k h l items := by
  cases k
  · exact begins_tuple l items
  · exact begins_list l items
theorem oB_it {l : Addr} (e : h.get? it = some (oB k l)) : ItB k h it l 0 := by
  cases k
  · exact ⟨_, e, rfl, rfl⟩
  · exact ⟨_, e, rfl, rfl⟩
end
/-- the turns of zip over a and b: a new pair each -/
def Itm (K : PySem.W.Frag) (k l : Bool) (a b : Addr) : It :=
  ⟨fun i H => ∃ (xs ys : List V) (x y : V), SqB k K H a xs ∧ SqB l K H b ys ∧ xs[i]? = some x ∧ ys[i]? = some y,
    fun i H v H' => ∃ T x y, v = .ref T ∧ H T = none ∧ H' = upd H T (.tup [x, y]) ∧ (∀ xs, SqB k K H a xs → xs[i]? = some x) ∧ ∀ ys, SqB l K H b ys → ys[i]? = some y,
    fun i H => ∃ xs ys : List V, SqB k K H a xs ∧ SqB l K H b ys ∧ i ≤ xs.length ∧ i ≤ ys.length ∧ (i = xs.length ∨ i = ys.length)⟩
theorem turnM {P : Program} {w : World} {K : PySem.W.Frag} {elts : List Expr} {kk : Nat} {tpos : Pos} {k l : Bool} {a b z TI TO i1 i2 : Addr} (S : ZipSep2 z TI TO i1 i2 [i1, a] [i2, b]) :
    L2.Turn P w K (.Tuple elts kk tpos) (Itm K k l a b) [z, TI, TO, i1, i2] z
      (fun i h => IsZip h z TI TO .none ∧ IsTupOf2 h TI (.ref i1) (.ref i2) ∧ (∃ x y, IsTupOf2 h TO x y) ∧ ItB k h i1 a i ∧ ItB l h i2 b i) where
  mem := List.mem_cons_self ..
  obj := fun i h ⟨isZ, hTI, ⟨x, y, hTO⟩, t1, t2⟩ c hc => by
    have five : c = z ∨ c = TI ∨ c = TO ∨ c = i1 ∨ c = i2 := by simpa using hc
    rcases five with e | e | e | e | e <;> rw [e]
    · exact ⟨_, isZ, fun v q => by cases q⟩
    · exact ⟨_, hTI, fun v q => by cases q⟩
    · exact ⟨_, hTO, fun v q => by cases q⟩
    · exact t1.obj
    · exact t2.obj
  keep := fun i h h' ⟨isZ, hTI, ⟨x, y, hTO⟩, t1, t2⟩ kp =>
    ⟨kp z (by simp) _ isZ, kp TI (by simp) _ hTI, ⟨x, y, kp TO (by simp) _ hTO⟩, t1.keep fun o q => kp i1 (by simp) o q, t2.keep fun o q => kp i2 (by simp) o q⟩
  item := by
    intro X hP hw hK hc i pins s σ H E I hf ⟨isZ, hTI, ⟨x0, y0, hTO⟩, t1, t2⟩ ⟨xs, ys, x, y, cx, cy, hx, hy⟩
    subst hP hw hK
    obtain ⟨us, ru, pu⟩ := sqB_of I cx
    obtain ⟨vs, rv, pv⟩ := sqB_of I cy
    obtain ⟨u, hu, eu⟩ := ru.get hx
    obtain ⟨v, hv, ev⟩ := rv.get hy
    have hd : X.A.in1.handled = none := I.ok.hd hc
    have n1 : a ≠ i1 := fun e => by
      obtain ⟨o, e1, _⟩ := t1.obj
      have := S.sep1_2
      cases k
      · obtain ⟨o1, g1, c1, _⟩ := (show s.heap.IsTupleIter i1 a i from t1)
        obtain ⟨o2, g2, c2, _⟩ := (show s.heap.IsTuple a us.toArray from pu)
        rw [e, g1] at g2; cases g2; rw [c1] at c2; injection c2 with c3; exact absurd c3 (by decide)
      · obtain ⟨o1, g1, c1, _⟩ := (show s.heap.IsListIter i1 a i from t1)
        obtain ⟨o2, g2, c2, _⟩ := (show s.heap.IsList a us.toArray from pu)
        rw [e, g1] at g2; cases g2; rw [c1] at c2; injection c2 with c3; exact absurd c3 (by decide)
    have n2 : b ≠ i2 := fun e => by
      cases l
      · obtain ⟨o1, g1, c1, _⟩ := (show s.heap.IsTupleIter i2 b i from t2)
        obtain ⟨o2, g2, c2, _⟩ := (show s.heap.IsTuple b vs.toArray from pv)
        rw [e, g1] at g2; cases g2; rw [c1] at c2; injection c2 with c3; exact absurd c3 (by decide)
      · obtain ⟨o1, g1, c1, _⟩ := (show s.heap.IsListIter i2 b i from t2)
        obtain ⟨o2, g2, c2, _⟩ := (show s.heap.IsList b vs.toArray from pv)
        rw [e, g1] at g2; cases g2; rw [c1] at c2; injection c2 with c3; exact absurd c3 (by decide)
    have D1 := drawsB (P := X.prog) (w := X.w) hd k i1 a n1 us.toArray
    have D2 := drawsB (P := X.prog) (w := X.w) hd l i2 b n2 vs.toArray
    have lt1 : i < us.toArray.size := by rw [List.size_toArray]; exact (List.getElem?_eq_some_iff.mp hu).1
    have lt2 : i < vs.toArray.size := by rw [List.size_toArray]; exact (List.getElem?_eq_some_iff.mp hv).1
    have ltz : z < s.heap.objs.size := Heap.lt_size isZ
    refine wpAny_pyNext_zipD2_item S D1 D2 isZ hTI hTO ⟨t1, pu⟩ ⟨t2, pv⟩ lt1 lt2 fun p q h' tk hp hq z' TO' s1' s2' hT hsz hk => ?_
    have ep : u = p := by
      have e : us.toArray[i]? = some u := by simpa using hu
      rw [show us.toArray[i]? = some p from hp] at e
      exact (Option.some.inj e).symm
    have eq : v = q := by
      have e : vs.toArray[i]? = some v := by simpa using hv
      rw [show vs.toArray[i]? = some q from hq] at e
      exact (Option.some.inj e).symm
    subst ep eq
    refine ⟨_, rfl, wpAny_letOwnedTupleGo_zip (s := { s with heap := h', toks := tk }) z' fun h'' z'' sb => ?_⟩
    have pairAt : h''.get? s.heap.objs.size = some { cls := .type "tuple", data := .seq #[u, v] } := (sb.2 _ (Nat.ne_of_gt ltz)).trans hT
    have new : ObjOk X.prog X.w (upd H s.heap.objs.size (.tup [x, y])) h'' s.heap.objs.size (.tup [x, y]) :=
      ⟨by show 2 ≤ sizeLine; decide, [u, v], .cons eu (.cons ev .nil), ⟨_, pairAt, rfl, _, rfl⟩⟩
    have stay : ∀ c o, c ∉ [z, TI, TO, i1, i2] → s.heap.get? c = some o → h''.get? c = some o := fun c o hc e => by
      simp only [List.mem_cons, List.not_mem_nil, or_false, not_or] at hc
      exact (sb.2 c hc.1).trans (hk c o hc.1 hc.2.2.1 hc.2.2.2.1 hc.2.2.2.2 e)
    have I1 : Inv X pins σ (upd H s.heap.objs.size (.tup [x, y])) { s with heap := h'', toks := tk } := I.turnedNew (ch := [z, TI, TO, i1, i2]) stay hf (Nat.le_refl _) new
    refine ⟨.ref s.heap.objs.size, _, I1, rfl, ⟨_, x, y, rfl, I.hok.fresh (Nat.le_refl _), rfl, fun l hl => by rw [sqB_inj I hl cx]; exact hx, fun l hl => by rw [sqB_inj I hl cy]; exact hy⟩,
      ⟨z'', ?_, ⟨u, v, ?_⟩, ?_, ?_⟩, fun c hcm => ?_⟩
    · exact (sb.2 _ S.TIz).trans (hk _ _ S.TIz S.TITO S.TIi1 S.TIi2 hTI)
    · exact (sb.2 _ S.TOz).trans TO'
    · exact s1'.1.keep fun o e => (sb.2 _ S.zi1.symm).trans e
    · exact s2'.1.keep fun o e => (sb.2 _ S.zi2.symm).trans e
    · have five : c = z ∨ c = TI ∨ c = TO ∨ c = i1 ∨ c = i2 := by simpa using hcm
      have lt : c < s.heap.objs.size := by
        rcases five with e | e | e | e | e <;> rw [e]
        · exact ltz
        · exact Heap.lt_size hTI
        · exact Heap.lt_size hTO
        · obtain ⟨o, e1, _⟩ := t1.obj; exact Heap.lt_size e1
        · obtain ⟨o, e1, _⟩ := t2.obj; exact Heap.lt_size e1
      rw [upd_ne (Nat.ne_of_lt lt)]
      exact (hf c hcm).1
  done := by
    intro X hP hw hK hc i pins s σ H E I hf ⟨isZ, hTI, ⟨x0, y0, hTO⟩, t1, t2⟩ ⟨xs, ys, cx, cy, le1, le2, hend⟩
    subst hP hw hK
    obtain ⟨us, ru, pu⟩ := sqB_of I cx
    obtain ⟨vs, rv, pv⟩ := sqB_of I cy
    have l1 := ru.length
    have l2 := rv.length
    have hd : X.A.in1.handled = none := I.ok.hd hc
    have n1 : a ≠ i1 := fun e => by
      cases k
      · obtain ⟨o1, g1, c1, _⟩ := (show s.heap.IsTupleIter i1 a i from t1)
        obtain ⟨o2, g2, c2, _⟩ := (show s.heap.IsTuple a us.toArray from pu)
        rw [e, g1] at g2; cases g2; rw [c1] at c2; injection c2 with c3; exact absurd c3 (by decide)
      · obtain ⟨o1, g1, c1, _⟩ := (show s.heap.IsListIter i1 a i from t1)
        obtain ⟨o2, g2, c2, _⟩ := (show s.heap.IsList a us.toArray from pu)
        rw [e, g1] at g2; cases g2; rw [c1] at c2; injection c2 with c3; exact absurd c3 (by decide)
    have n2 : b ≠ i2 := fun e => by
      cases l
      · obtain ⟨o1, g1, c1, _⟩ := (show s.heap.IsTupleIter i2 b i from t2)
        obtain ⟨o2, g2, c2, _⟩ := (show s.heap.IsTuple b vs.toArray from pv)
        rw [e, g1] at g2; cases g2; rw [c1] at c2; injection c2 with c3; exact absurd c3 (by decide)
      · obtain ⟨o1, g1, c1, _⟩ := (show s.heap.IsListIter i2 b i from t2)
        obtain ⟨o2, g2, c2, _⟩ := (show s.heap.IsList b vs.toArray from pv)
        rw [e, g1] at g2; cases g2; rw [c1] at c2; injection c2 with c3; exact absurd c3 (by decide)
    have D1 := drawsB (P := X.prog) (w := X.w) hd k i1 a n1 us.toArray
    have D2 := drawsB (P := X.prog) (w := X.w) hd l i2 b n2 vs.toArray
    refine wpAny_pyNext_zipD2_end S D1 D2 isZ hTI hTO ⟨t1, pu⟩ ⟨t2, pv⟩ (by rw [List.size_toArray]; omega) (by rw [List.size_toArray]; omega) (by rw [List.size_toArray, List.size_toArray]; omega) fun h' tk hk => ⟨rfl, ?_⟩
    refine I.turnedL (t' := tk) (ch := [z, TI, TO, i1, i2]) (fun c o hc e => ?_) hf
    simp only [List.mem_cons, List.not_mem_nil, or_false, not_or] at hc
    exact hk c o hc.1 hc.2.2.1 hc.2.2.2.1 hc.2.2.2.2 e
  self := fun A i s Q E st go => wpAny_pyIter_zip st.1 go
/-- zip of two, each a list or a tuple -/
def iZm (K : PySem.W.Frag) (ta : TA) : TI := fun σ H R => ta σ H fun vs H1 => ∃ (k l : Bool) (a b : Addr) (xs ys : List V), vs = [.ref a, .ref b] ∧ SqB k K H1 a xs ∧ SqB l K H1 b ys ∧ R (Itm K k l a b) H1
theorem pi_zm {X : Cx} {e e2 : Expr} {ta : TA} {p pos tpos : Pos} {elts : List Expr} {kk : Nat} (hg : Gl X "zip") (hm : X.mg "zip" = none) (ha : PA X [e, e2] ta)
    (st : starEach [e, e2] X.env = (false, eval e X.env) :: starEach [e2] X.env := by rfl) (nost : (backTo pos (starEach [e2] X.env)).any (·.1) = false := by rfl) :
    PI X (.Tuple elts kk tpos) (.Call (.Name "zip" p) [e, e2] [] pos) (iZm X.K ta) := by
  refine ⟨fun pins s σ H R I h => ?_⟩
  refine PyProof.Rows.Call_ (ld_blt I hg hm PyProof.Rows.boot_zip (PyProof.Rows.callWith_type1 (thn (ha.run pos pins s σ H _ I h) fun us s1 ⟨vs, H1, I1, r1, q1⟩ => ?_) st nost))
  obtain ⟨k, l, a, b, xs, ys, ex, cx, cy, q1⟩ := q1
  subst ex
  cases r1 with
  | cons r rr =>
    cases rr with
    | cons r' rr =>
      cases rr
      cases r
      cases r'
      obtain ⟨u, ru, pu⟩ := sqB_of I1 cx
      obtain ⟨v, rv, pv⟩ := sqB_of I1 cy
      have apart : ∀ c ∈ [s1.heap.objs.size + 4, s1.heap.objs.size + 2, s1.heap.objs.size + 3, s1.heap.objs.size, s1.heap.objs.size + 1], FpOk X pins H1 c := fun c hc => by
        have five : c = s1.heap.objs.size + 4 ∨ c = s1.heap.objs.size + 2 ∨ c = s1.heap.objs.size + 3 ∨ c = s1.heap.objs.size ∨ c = s1.heap.objs.size + 1 := by simpa using hc
        have le : s1.heap.objs.size ≤ c := by
          rcases five with z | z | z | z | z
          · rw [z]; exact Nat.le_add_right ..
          · rw [z]; exact Nat.le_add_right ..
          · rw [z]; exact Nat.le_add_right ..
          · rw [z]; exact Nat.le_refl _
          · rw [z]; exact Nat.le_add_right ..
        exact I1.fpOk le (I1.hok.fresh le)
      refine zip_begins2 (beginsB k a u.toArray) (beginsB l b v.toArray) pu pv fun h' isZ hTI hTO g1 g2 hsz hk => wpAny_pyIter_zip isZ ?_
      refine ⟨s1.heap.objs.size + 4, [s1.heap.objs.size + 4, s1.heap.objs.size + 2, s1.heap.objs.size + 3, s1.heap.objs.size, s1.heap.objs.size + 1], _, _, H1, rfl, I1.kept (t' := s1.toks) hk,
        turnM (k := k) (l := l) (zip_sep2 (fp1 := [a]) (fp2 := [b]) (fun c hc => ?_) (fun c hc => ?_)), ⟨isZ, hTI, ⟨_, _, hTO⟩, oB_it g1, oB_it g2⟩, apart, q1⟩
      · rw [show c = a from by simpa using hc]; exact pu.lt
      · rw [show c = b from by simpa using hc]; exact pv.lt
theorem k_zm {X : Cx} {K : PySem.W.Frag} {e e2 : Expr} {ta : TA} {p pos tpos : Pos} {elts : List Expr} {kk : Nat} (ek : X.K = K) (hg : Gl X "zip") (hm : X.mg "zip" = none) (ha : PA X [e, e2] ta)
    (st : starEach [e, e2] X.env = (false, eval e X.env) :: starEach [e2] X.env := by rfl) (nost : (backTo pos (starEach [e2] X.env)).any (·.1) = false := by rfl) :
    PI X (.Tuple elts kk tpos) (.Call (.Name "zip" p) [e, e2] [] pos) (iZm K ta) := by subst ek; exact pi_zm hg hm ha st nost
section
variable {K : PySem.W.Frag} {g : TG} {tt : TT} {te : TE} {vs : List Nat} {σ σ0 : L2.St} {H : Hp} {Q : VK} {a b : Addr} {R : It → Hp → Prop} {k l : Bool}
def ZmR (K : PySem.W.Frag) (vs : List V) (R : It → Hp → Prop) (H : Hp) : Prop := ∃ (k l : Bool) (a b : Addr) (xs ys : List V), vs = [.ref a, .ref b] ∧ SqB k K H a xs ∧ SqB l K H b ys ∧ R (Itm K k l a b) H
theorem g_iZm {ta : TA} (h : ta σ H fun ws H1 => ZmR K ws R H1) : iZm K ta σ H R := h
instance st_g_iZm {ta : TA} : Step (iZm K ta σ H R) (ta σ H fun ws H1 => ZmR K ws R H1) := ⟨fun z => g_iZm z⟩
theorem g_zm {xs ys : List V} (c : SqB k K H a xs) (d : SqB l K H b ys) (h : R (Itm K k l a b) H) : ZmR K [.ref a, .ref b] R H := ⟨k, l, a, b, xs, ys, rfl, c, d, h⟩
theorem sqB_same {xs : List V} {H' : Hp} (c : SqB k K H a xs) (e : L2.Same H H') : SqB k K H' a xs := by
  cases k
  · exact seqT_same e (show SqT K H a xs from c)
  · exact e.seq (show SqL K H a xs from c)
theorem lcM {xs ys : List V} (len : xs.length = ys.length) (hw : wipe σ vs = σ0) (h : ∀ D, H D = none → ∃ Pv : Nat → Hp → Prop, Pv 0 (upd H D (.lst [])) ∧ (∀ i H', Pv i H' → SqB k K H' a xs ∧ SqB l K H' b ys) ∧
    (∀ (i : Nat) (x y : V) (T : Addr) (H' : Hp), xs[i]? = some x → ys[i]? = some y → Pv i H' → H' T = none → Turn1 g tt te vs σ0 D (.ref T) (upd H' T (.tup [x, y])) (Pv (i + 1))) ∧
    ∀ H', Pv xs.length H' → Q (.ref D) H') : LcG (Itm K k l a b) g tt te vs σ Q H := by
  subst hw
  intro D hD
  obtain ⟨Pv, h0, hq, hs, fin⟩ := h D hD
  refine ⟨fun i m H => m = xs.length - i ∧ i ≤ xs.length ∧ Pv i H, ⟨xs.length, by simp, Nat.zero_le _, h0⟩, ?_⟩
  rintro i m H ⟨rfl, hi, p⟩
  obtain ⟨q1, q2⟩ := hq i H p
  rcases Nat.lt_or_ge i xs.length with lt | ge
  · exact .inr ⟨⟨xs, ys, xs[i], ys[i]'(by omega), q1, q2, by simp [lt], by simp⟩, Pv (i + 1), fun H' p' => ⟨xs.length - (i + 1), by omega, rfl, lt, p'⟩,
      fun v H' ⟨T, x, y, e1, e2, e3, e4, e5⟩ => by subst e1 e3; exact hs i x y T _ (e4 xs q1) (e5 ys q2) p e2⟩
  · have e : i = xs.length := by omega
    subst e
    exact .inl ⟨⟨xs, ys, q1, q2, Nat.le_refl _, by omega, .inl rfl⟩, fin H p⟩
end
section
variable {K : PySem.W.Frag} {g : TG} {tt : TT} {te : TE} {tb : TS} {vs : List Nat} {D0 : Ends} {σ σ0 : L2.St} {H : Hp} {Q : VK} {J : It} {a : Addr}
theorem lcT {xs : List V} (hw : wipe σ vs = σ0) (h : ∀ D, H D = none → ∃ Pv : Nat → Hp → Prop, Pv 0 (upd H D (.lst [])) ∧ (∀ i H', i ≤ xs.length → Pv i H' → SqT K H' a xs) ∧
    (∀ (i : Nat) (x : V) (H' : Hp), xs[i]? = some x → Pv i H' → Turn1 g tt te vs σ0 D x H' (Pv (i + 1))) ∧ ∀ H', Pv xs.length H' → Q (.ref D) H') : LcG (Itt K a) g tt te vs σ Q H := by
  subst hw
  intro D hD
  obtain ⟨Pv, h0, hl, hs, hd⟩ := h D hD
  refine ⟨fun i m H => m = xs.length - i ∧ i ≤ xs.length ∧ Pv i H, ⟨xs.length, by simp, Nat.zero_le _, h0⟩, ?_⟩
  rintro i m H ⟨rfl, hi, p⟩
  have q := hl i H hi p
  rcases Nat.lt_or_ge i xs.length with hlt | hge
  · exact .inr ⟨⟨xs, xs[i], q, by simp [hlt]⟩, Pv (i + 1), fun H' p' => ⟨xs.length - (i + 1), by omega, rfl, hlt, p'⟩, fun x H' ⟨e1, e2⟩ => by subst e1; exact hs i x _ (e2 xs q) p⟩
  · have e : i = xs.length := by omega
    subst e
    exact .inl ⟨⟨xs, q, Nat.le_refl _⟩, hd H p⟩
theorem lcPT {S : List Int} {f : Int → V} {p : Int → Bool} (hw : wipe σ vs = σ0) (hS : SqT K H a (S.map V.int)) (hl : S.length ≤ 1000)
    (turn : ∀ (D : Addr) (acc : List V) (x : Int) (N : Hp → Prop), H D = none → x ∈ S → (p x = true → TurnD D N (f x) (upd H D (.lst acc))) → (p x = false → N (upd H D (.lst acc))) →
      Turn1 g tt te vs σ0 D (.int x) (upd H D (.lst acc)) N)
    (q : ∀ D, H D = none → Q (.ref D) (upd H D (.lst ((S.filter p).map f)))) : LcG (Itt K a) g tt te vs σ Q H := by
  refine lcT (xs := S.map V.int) hw fun D hD => ⟨fun i H' => H' = upd H D (.lst (((S.take i).filter p).map f)), rfl, ?_, ?_, ?_⟩
  · rintro i H' _ rfl
    exact seqT_same (same_new hD) hS
  · rintro i x H' hx rfl
    rw [List.getElem?_map, Option.map_eq_some_iff] at hx
    obtain ⟨n, hn, rfl⟩ := hx
    have hlt : i < S.length := (List.getElem?_eq_some_iff.mp hn).1
    refine turn D _ n _ hD (List.mem_of_getElem? hn) (fun hp => g_turnD upd_same ?_ ?_) (fun hp => ?_)
    · rw [List.length_map]
      have h1 := List.length_filter_le p (S.take i)
      rw [List.length_take] at h1
      omega
    · dsimp only
      rw [upd_upd, List.take_add_one, hn, List.filter_append, List.map_append]
      simp [hp]
    · dsimp only
      rw [List.take_add_one, hn, List.filter_append]
      simp [hp]
  · rintro H' rfl
    rw [List.length_map, List.take_length]
    exact q D hD
end
/-! a comprehension within a comprehension -/
theorem blkOk_rel {N : List Str} {sc scope S : Scope} {own : List (Str × Nat)} (h : blkC N (relS S sc) scope own = true) : BlkOk N (relS S sc) scope own := blkOk_by h
theorem ps_weak {X : Cx} {st : Stmt} {t u : TS} (h : PS X st t) (wk : ∀ D σ H, u D σ H → t D σ H) : PS X st u := ⟨fun pins s σ H D I q => h.run pins s σ H D I (wk D σ H q)⟩
end Q
-- step instances

set_option Elab.async false
set_option linter.all false
set_option maxRecDepth 100000
set_option maxHeartbeats 2000000
/-! classes: methods called with keywords and defaults, properties, own len, repr, bool -/
namespace PySem
/-- a built-in type called: what its __new__ does in this program and World -/
theorem qTypeIn {prog : Program} {w : World} {A : Around} {E : Value → Shared → Prop} {s : Shared} {T newId : String} {Bn : Builtin} {args : List Value} {S : Spec} {Q : Value → Shared → Prop} (ft : TypeCalled T newId "object.__init__")
    (ne : (some newId != some "object.__new__") = true) (c1 : checkTypeCall T ⟨args, []⟩ = pure ()) (c2 : checkBuiltinCall newId ⟨.type T :: args, []⟩ = pure ())
    (ok : ∀ obj, argsOk "object.__init__" ⟨obj :: args, []⟩) (en : entryFor table newId = some Bn) (g : MeetsIn prog w (Bn ⟨.type T :: args, []⟩) S)
    (h : S A.in1 (wants (fun obj t => t.TypeIs obj T ∧ Q obj t) E) s) : wpAny (model prog w) A (call (.type T) args) Q E s := by
  obtain ⟨c, tl, hmro⟩ := ft.mro
  have x1 := ft.made
  have x2 := ft.sub
  have x3 := ft.notType
  have x4 := ft.canCreate
  refine wpAny_call (codeAny_of_tree ?_)
  show wpAny _ _ (callAny (.type T) _) _ _ _
  refine wpAny_pure ⟨Code.quiet_builtin _ (by decide +kernel), codeAny_builtin F.entry_type_call ?_⟩
  rw [Around.under_plain (weight_type_call_type T args []) (units_type_call_type T args [])]
  repeat (any_goals (first | assumption | wp_step))
  refine codeAny_mono (codeAny_call_builtin ft.plain en (wpAny_of_eq c2 (g A.in1 _ s h))) fun res t hres => ?_
  cases res with
  | error e => exact hres
  | ok fl =>
    cases fl with
    | ret obj =>
      obtain ⟨tyO, hq⟩ := hres
      have y1 := ft.init.lookup
      have y2 := ft.init.bind obj
      repeat (any_goals (first | assumption | wp_step))
      refine codeAny_mono (codeAny_call_builtin ft.init.plain F.entry_object_init (ft.init.check _ _ _ _ _ _ _ _ tyO (ok obj)
        (object_init_meets ft.init.lookup ft.made ne prog w A.in1 (wants (fun r t2 => r = .none ∧ Q obj t2) E) t ⟨tyO, rfl, hq⟩))) fun res2 t2 hres2 => ?_
      cases res2 with
      | error e => exact hres2
      | ok fl2 =>
        cases fl2 with
        | ret r =>
          obtain ⟨rfl, hq2⟩ := hres2
          repeat (any_goals (first | assumption | wp_step))
        | _ => exact hres2.elim
    | _ => exact hres.elim
theorem qBoolIn {prog : Program} {w : World} {x : Value} :
    MeetsIn prog w (Builtin.«bool.__new__» ⟨[.type "bool", x], []⟩) (fun A R s => wpAny (model prog w) A.in1 (truthy x) (fun b t => R (.ok (.ret (.bool b))) t) (fun e t => R (.error e) t) s) :=
  MeetsIn.of_wp fun A R s hs => by
    obtain ⟨hp, g, d, tk, os⟩ := s
    have sb := F.conv_sub_bool
    repeat (any_goals (first | assumption | (refine wpAny_bind (wpAny_mono hs (fun b t hb => ?_) fun _ _ z => z)) | wp_step))
    all_goals first | exact ⟨_, rfl, hb⟩ | skip
end PySem
namespace Q
open PySem PySem.Spec L2
/-- what a caller of a method needs: n values by position behind self, the keywords ks; the rest by the defaults -/
structure MKCal (P : Program) (w : World) (K : PySem.W.Frag) (mg : Str → Option Value) (base : Heap) (C : Addr) (m : Str) (k n : Nat) (ks : List Str) (gV : List V → List V → List V) (sp : Sp) : Prop where
  ex : ∃ (f : Addr) (fd : FuncData) (ps : List Str) (g : List Value → List Value → List Value), Meth K C m f ∧ FnOk P w K mg base CX0 k f fd ps sp ∧ KBn K fd ps (n + 1) ks g gV
/-- what a caller of a class needs -/
structure MkK (P : Program) (w : World) (K : PySem.W.Frag) (mg : Str → Option Value) (base : Heap) (C : Addr) (k n : Nat) (ks : List Str) (gV : List V → List V → List V) (sp : Sp) : Prop where
  ex : ∃ (f : Addr) (fd : FuncData) (ps : List Str) (g : List Value → List Value → List Value), Mk K C f ∧ FnOk P w K mg base CX0 k f fd ps sp ∧ KBn K fd ps (n + 1) ks g gV
/-- a property -/
structure PropC (P : Program) (w : World) (K : PySem.W.Frag) (mg : Str → Option Value) (base : Heap) (C : Addr) (x : Str) (k : Nat) (sp : Sp) : Prop where
  ex : ∃ (p g : Addr) (fd : FuncData), PropOf K C x p g ∧ FnOk P w K mg base CX0 k g fd ["self"] sp ∧ Binds K fd ["self"] []
def tMethN (C : Addr) (m : Str) (n j : Nat) (sp : Sp) (gV : List V → List V → List V) (E : XK) (to : TE) (t tk : TA) : TE := fun σ H Q => to σ H fun x H1 => ∃ a dx fs, x = .ref a ∧ H1 a = some (.ins C dx fs) ∧ fs.lookup m = none ∧
  t σ H1 fun vs H2 => tk σ H2 fun zs H3 => vs.length = n ∧ zs.length = j ∧ sp (gV (.ref a :: vs) zs) H3 Q E
section
variable {X : Cx} {C : Addr} {m x : Str} {k n : Nat} {ks ps : List Str} {gV : List V → List V → List V} {sp : Sp} {o e : Expr} {es : List Expr} {kws : List Keyword} {to : TE} {t tk : TA} {p pos apos : Pos}
theorem pe_mkcal {pl : Sem Bool} (he : PE X o to) (c : Cls X.K C) (M : MKCal X.prog X.w X.K X.mg X.base C m k n ks gV sp) (hr : Room k X.A) (ha : PA X (e :: es) t) (hkw : PK X kws tk)
    (some_ : (backToKw pos (keywordEach kws X.env)).all (·.1.isSome) = true := by rfl) (names : (backToKw pos (keywordEach kws X.env)).filterMap (·.1) = ks := by rfl)
    (st : starEach (e :: es) X.env = (false, eval e X.env) :: starEach es X.env := by rfl)
    (nost : ((backTo pos (starEach (e :: es) X.env)).any (·.1) || (backToKw pos (keywordEach kws X.env)).any (·.1.isNone)) = false := by rfl)
    (shape : eval (.Call (.Attribute o m apos) (e :: es) kws pos) X.env = (do
      let self_ ← eval o X.env
      standAt apos.atName
      let (fn, first) ← holding [self_] (getMethod self_ m pl)
      callWith pos fn first (backTo pos (starEach (e :: es) X.env)) (backToKw pos (keywordEach kws X.env))) := by rfl) :
    PE X (.Call (.Attribute o m apos) (e :: es) kws pos) (tMethN C m n ks.length sp gV E0 to t tk) := by
  obtain ⟨f, fd, ps, g, hm, F, hb⟩ := M.ex
  refine ⟨fun pins s σ H Q I h => ?_⟩
  refine PySem.W.methodCall_KW (pl := pl) (thn (he.run pins s σ H _ I h) fun u s1 ⟨y, H1, I1, ry, a, dx, fs, ey, ea, l, q⟩ => ?_) shape
  subst ey
  obtain rfl : u = Value.ref a := ry
  refine getmeth_ok I1 ea c hm l ?_
  refine PySem.W.callWith_KW (first := [.ref a]) (h₀ := X.base) I.ok.mod.kin hm.kp some_ (thn (ha.run pos pins s1 σ H1 _ I1 q) fun us s2 ⟨vs, H2, I2, r, q2⟩ => ?_) nost st
  refine thn (hkw.run pos pins s2 σ H2 _ I2 q2) fun ws s3 ⟨zs, H3, I3, rz, l1, l2, q3⟩ => ⟨I3.kIn, ?_⟩
  rw [names]
  exact run_fnN (us := .ref a :: us) (vs := .ref a :: vs) F hr hb pass0 I3 (.cons rfl r) rz (by rw [List.length_cons, l1]) l2 q3
theorem pe_mkcal0 {pl : Sem Bool} (he : PE X o to) (c : Cls X.K C) (M : MKCal X.prog X.w X.K X.mg X.base C m k 0 ks gV sp) (hr : Room k X.A) (hkw : PK X kws tk)
    (some_ : (backToKw pos (keywordEach kws X.env)).all (·.1.isSome) = true := by rfl) (names : (backToKw pos (keywordEach kws X.env)).filterMap (·.1) = ks := by rfl)
    (nost : ((backTo pos (starEach [] X.env)).any (·.1) || (backToKw pos (keywordEach kws X.env)).any (·.1.isNone)) = false := by rfl)
    (shape : eval (.Call (.Attribute o m apos) [] kws pos) X.env = (do
      let self_ ← eval o X.env
      standAt apos.atName
      let (fn, first) ← holding [self_] (getMethod self_ m pl)
      callWith pos fn first (backTo pos (starEach [] X.env)) (backToKw pos (keywordEach kws X.env))) := by rfl) :
    PE X (.Call (.Attribute o m apos) [] kws pos) (tMethN C m 0 ks.length sp gV E0 to tNil tk) := by
  obtain ⟨f, fd, ps, g, hm, F, hb⟩ := M.ex
  refine ⟨fun pins s σ H Q I h => ?_⟩
  refine PySem.W.methodCall_KW (pl := pl) (thn (he.run pins s σ H _ I h) fun u s1 ⟨y, H1, I1, ry, a, dx, fs, ey, ea, l, q⟩ => ?_) shape
  subst ey
  obtain rfl : u = Value.ref a := ry
  refine getmeth_ok I1 ea c hm l ?_
  refine PySem.W.callWith_KW0 (first := [.ref a]) (h₀ := X.base) I.ok.mod.kin hm.kp some_ ?_ nost
  refine thn (hkw.run pos pins s1 σ H1 _ I1 q) fun ws s3 ⟨zs, H3, I3, rz, l1, l2, q3⟩ => ⟨I3.kIn, ?_⟩
  rw [names]
  exact run_fnN (us := [.ref a]) (vs := [.ref a]) F hr hb pass0 I3 (.cons rfl .nil) rz rfl l2 q3
theorem pe_mkk (hm : X.mg x = some (.ref C)) (M : MkK X.prog X.w X.K X.mg X.base C k n ks gV sp) (hr : Room (k + 1) X.A) (hg : Gl X x) (ha : PA X (e :: es) t) (hkw : PK X kws tk)
    (some_ : (backToKw pos (keywordEach kws X.env)).all (·.1.isSome) = true := by rfl) (names : (backToKw pos (keywordEach kws X.env)).filterMap (·.1) = ks := by rfl)
    (dbg : (x == ("__debug__" : Str)) = false := by decide) (st : starEach (e :: es) X.env = (false, eval e X.env) :: starEach es X.env := by rfl)
    (nost : ((backTo pos (starEach (e :: es) X.env)).any (·.1) || (backToKw pos (keywordEach kws X.env)).any (·.1.isNone)) = false := by rfl) :
    PE X (.Call (.Name x p) (e :: es) kws pos) (tMakeK C n ks.length sp gV E0 t tk) := by
  obtain ⟨f, fd, ps, g, hmk, F, hb⟩ := M.ex
  exact pe_makeK hmk F hr hg hm hb pass0 ha hkw some_ names dbg st nost
theorem pe_mkk0 (hm : X.mg x = some (.ref C)) (M : MkK X.prog X.w X.K X.mg X.base C k 0 ks gV sp) (hr : Room (k + 1) X.A) (hg : Gl X x) (hkw : PK X kws tk)
    (some_ : (backToKw pos (keywordEach kws X.env)).all (·.1.isSome) = true := by rfl) (names : (backToKw pos (keywordEach kws X.env)).filterMap (·.1) = ks := by rfl)
    (dbg : (x == ("__debug__" : Str)) = false := by decide)
    (nost : ((backTo pos (starEach [] X.env)).any (·.1) || (backToKw pos (keywordEach kws X.env)).any (·.1.isNone)) = false := by rfl) :
    PE X (.Call (.Name x p) [] kws pos) (tMakeK C 0 ks.length sp gV E0 tNil tk) := by
  obtain ⟨f, fd, ps, g, hmk, F, hb⟩ := M.ex
  exact pe_makeK0 hmk F hr hg hm hb pass0 hkw some_ names dbg nost
theorem pe_propc (he : PE X o to) (c : Cls X.K C) (M : PropC X.prog X.w X.K X.mg X.base C x k sp) (hr : Room (k + 1) X.A) (hab : attributeBase o x X.env (eval o X.env) = eval o X.env) :
    PE X (.Attribute o x pos) (tProp C sp [] E0 to) := by
  obtain ⟨pa, g, fd, hp, F, hb⟩ := M.ex
  exact pe_prop he c hp F hr hb .nil pass0 hab
end
/-! own len, repr, bool -/
section
variable {X : Cx} {C : Addr} {k : Nat} {ps : List Str} {sp : Sp}
/-- a def called with one object, in the room of a built-in that asks it -/
theorem run_own {pins : List (Addr × Obj)} {σ : L2.St} {H : Hp} {s : Shared} {A : Around} {m : Str} {a : Addr} {Q : VK} {f : Addr} {fd : FuncData} (F : FnOk X.prog X.w X.K X.mg X.base CX0 k f fd ps sp) (hb : Binds X.K fd ps []) (hr : Room k A) (fr : A.frames = X.A.frames)
    (I : Inv X pins σ H s) (h : sp [.ref a] H Q E0) : wpAny (model X.prog X.w) A (call (.ref f) [.ref a]) (EP X pins σ Q) X.xe s := by
  have e0 : Env0 X.prog X.w X.K X.mg X.base A X.stack s H := by
    have e := I.env0
    exact ⟨by rw [fr]; exact e.frames, e.mod, e.bs, e.bsz, e.funs, e.frf, e.hok, e.bare⟩
  have hl := F.len _ _ _ _ h
  have bt : BindsTo s fd ⟨[.ref a], []⟩ (ps.zip [.ref a]) := by
    have z := hb s [.ref a] I.kIn (by simpa using hl)
    simpa using z
  refine wpAny_call (codeAny_mono (F.run A X.stack s H ⟨[.ref a], []⟩ [.ref a] [.ref a] Q E0 hr e0 bt (.cons rfl .nil) h) fun res t hres => ?_)
  cases res with
  | error e => exact pass0 pins σ H s e t I hres
  | ok fl =>
    cases fl with
    | ret u =>
      obtain ⟨z, H', I', rz, ez⟩ := I.after hres
      exact ⟨z, H', I', rz, ez⟩
    | next => exact False.elim hres
    | brk => exact False.elim hres
    | cont => exact False.elim hres
def rOwnLen (C : Addr) (sp : Sp) : List V → Hp → VK → Prop := fun xs H Q => ∃ a dx fs, xs = [.ref a] ∧ H a = some (.ins C dx fs) ∧ sp [.ref a] H (fun v H' => ∃ n : Int, v = .int n ∧ 0 ≤ n ∧ n < 2 ^ 63 ∧ Q (.int n) H') E0
theorem call_ownLen (M : MCal X.prog X.w X.K X.mg X.base C "__len__" k ps sp) (hr : Room (k + 1) X.A) : CallR X (.builtin "len") (rOwnLen C sp) := by
  intro pins s σ H xs us Q I r h
  obtain ⟨a, dx, fs, rfl, ha, hs⟩ := h
  obtain rfl := Vals.ref1 r
  obtain ⟨f, fd, hm, F, hb⟩ := M.ex
  obtain ⟨_, J, _⟩ := ins_get I.hok ha
  obtain ⟨od, J, _⟩ := J.look
  obtain ⟨mm, hF⟩ := I.fr
  refine PySem.W.len_K hF I.ok.mod.kin J hm.at_ hm.fn (thn (run_own (m := "__len__") F hb hr.in1 rfl I hs) fun u t ⟨z, H', I', rz, n, ez, n0, n1, q⟩ => ?_)
  subst ez
  obtain ⟨tk, rfl⟩ := rz
  exact ⟨⟨n0, n1⟩, .int n, H', I'.tok _, ⟨_, rfl⟩, q⟩
def rOwnRepr (C : Addr) (sp : Sp) : List V → Hp → VK → Prop := fun xs H Q => ∃ a dx fs, xs = [.ref a] ∧ H a = some (.ins C dx fs) ∧ sp [.ref a] H (fun v H' => ∃ z : Str, v = .str z ∧ Q (.str z) H') E0
theorem call_ownRepr (M : MCal X.prog X.w X.K X.mg X.base C "__repr__" k ps sp) (hr : Room (k + 1) X.A) : CallR X (.builtin "repr") (rOwnRepr C sp) := by
  intro pins s σ H xs us Q I r h
  obtain ⟨a, dx, fs, rfl, ha, hs⟩ := h
  obtain rfl := Vals.ref1 r
  obtain ⟨f, fd, hm, F, hb⟩ := M.ex
  obtain ⟨_, J, _⟩ := ins_get I.hok ha
  obtain ⟨od, J, _⟩ := J.look
  obtain ⟨mm, hF⟩ := I.fr
  refine PySem.W.repr_K hr.in1.units0 hF I.ok.mod.kin J hm.at_ hm.fn (thn (run_own (m := "__repr__") F hb hr.in1 rfl I hs) fun u t ⟨z, H', I', rz, x, ez, q⟩ => ?_)
  subst ez
  obtain ⟨tk, rfl⟩ := rz
  exact ⟨.str x, H', I', ⟨_, rfl⟩, q⟩
def rOwnBool (C : Addr) (sp : Sp) : List V → Hp → VK → Prop := fun xs H Q => ∃ a dx fs, xs = [.ref a] ∧ H a = some (.ins C dx fs) ∧ sp [.ref a] H (fun v H' => ∃ b : Bool, v = .bl b ∧ Q (.bl b) H') E0
theorem call_ownBool (M : MCal X.prog X.w X.K X.mg X.base C "__bool__" k ps sp) (hr : Room (k + 2) X.A) : CallR X (.type "bool") (rOwnBool C sp) := by
  intro pins s σ H xs us Q I r h
  obtain ⟨a, dx, fs, rfl, ha, hs⟩ := h
  obtain rfl := Vals.ref1 r
  obtain ⟨f, fd, hm, F, hb⟩ := M.ex
  obtain ⟨_, J, _⟩ := ins_get I.hok ha
  obtain ⟨od, J, _⟩ := J.look
  obtain ⟨mm, hF⟩ := I.fr
  refine qTypeIn PySem.F.called_bool PySem.F.newNe_bool (PySem.F.typeCall_bool_1 _) (PySem.F.newCall_bool_1 _) (fun obj => PySem.F.args_object_init_2 obj _) PySem.F.entry_bool_new qBoolIn ?_
  refine PySem.W.truthy_K hF I.ok.mod.kin J hm.at_ hm.fn (thn (run_own (m := "__bool__") F hb hr.in1.in1 rfl I hs) fun u t ⟨z, H', I', rz, b, ez, q⟩ => ?_)
  subst ez
  obtain rfl := rz
  exact ⟨typeIs_bool _ _, .bl b, H', I', rfl, q⟩
end
/-! the head's facts about properties -/
def prpP (K : PySem.W.Frag) (c x : Str) : Addr := match PySem.W.findIn K (.ref (He.ga K c)) x with
  | some (some (.ref p)) => p
  | _ => 0
def prpG (K : PySem.W.Frag) (c x : Str) : Addr := match PySem.W.recIn K (prpP K c x) "property" with
  | some (.ref g :: _) => g
  | _ => 0
structure PrpD where
  cls : Str
  attr : Str
  name : Str
  qual : Str
  params : Arguments
  body : List Stmt
  scope : Scope
def PrpD.ok (K : PySem.W.Frag) (d : PrpD) : Bool := He.eqO (PySem.W.findIn K (.ref (He.ga K d.cls)) d.attr) (some (some (.ref (prpP K d.cls d.attr)))) &&
  (He.eqO (PySem.W.specialIn K (.ref (prpP K d.cls d.attr)) "__get__") (some (some (.builtin "property.__get__"))) && (decide (PySem.W.takesIn K (.ref (prpP K d.cls d.attr)) = some true) &&
  (decide ((PySem.W.recIn K (prpP K d.cls d.attr) "property").map (·.head?) = some (some (.ref (prpG K d.cls d.attr)))) && (PySem.W.keepIn K (.ref (prpG K d.cls d.attr)) &&
  (match K.lookup (prpG K d.cls d.attr) with
    | some ⟨_, _, .func q, _⟩ => PySem.W.codeIn K q.code d.qual && (He.dflB K q.defaults [] && He.kwdB K q.kwdefaults [])
    | _ => false)))))
def PrpD.w (K : PySem.W.Frag) (d : PrpD) : He.FnW := match K.lookup (prpG K d.cls d.attr) with
  | some ⟨_, _, .func q, _⟩ => some (q.name, q.qualname, q.params, q.body, q.scope, q.globals, q.closure, q.builtins)
  | _ => none
def PrpD.val (d : PrpD) : He.FnW := some (d.name, d.qual, d.params, .stmts d.body, d.scope, mainGlobals, [], builtinsNs)
theorem PrpD.use {K : PySem.W.Frag} {d : PrpD} (e : d.w K = d.val) (c : d.ok K = true) : PropOf K (He.ga K d.cls) d.attr (prpP K d.cls d.attr) (prpG K d.cls d.attr) ∧ ∃ fd, FunD K d.name d.qual d.params d.body d.scope [] [] (prpG K d.cls d.attr) fd := by
  obtain ⟨c1, c⟩ := He.ba c
  obtain ⟨c2, c⟩ := He.ba c
  obtain ⟨c3, c⟩ := He.ba c
  obtain ⟨c4, c⟩ := He.ba c
  obtain ⟨c5, c6⟩ := He.ba c
  have r1 : ∃ rest, PySem.W.recIn K (prpP K d.cls d.attr) "property" = some (.ref (prpG K d.cls d.attr) :: rest) := by
    have z := of_decide_eq_true c4
    cases q : PySem.W.recIn K (prpP K d.cls d.attr) "property" with
    | none => rw [q] at z; cases z
    | some vs =>
      rw [q] at z
      cases vs with
      | nil => cases z
      | cons v r =>
        have z2 : some (some v) = some (some (Value.ref (prpG K d.cls d.attr))) := z
        injection z2 with z2
        injection z2 with z2
        exact ⟨r, by rw [z2]⟩
  refine ⟨⟨He.eqO_ok c1, He.eqO_ok c2, of_decide_eq_true c3, r1⟩, ?_⟩
  unfold PrpD.w at e
  cases q : K.lookup (prpG K d.cls d.attr) with
  | none => rw [q] at c6; cases c6
  | some ob =>
    obtain ⟨o1, o2, dat, o3⟩ := ob
    rw [q] at c6 e
    cases dat with
    | func fq =>
      obtain ⟨a1, a2, a3, a4, a5, a6, a7, a8, a9, b1, b2, b3, b4, b5, b6⟩ := fq
      have e2 : (some (a1, a2, a3, a4, a5, a6, a7, b6) : He.FnW) = some (d.name, d.qual, d.params, .stmts d.body, d.scope, mainGlobals, [], builtinsNs) := e
      simp only [Option.some.injEq, Prod.mk.injEq] at e2
      obtain ⟨rfl, rfl, rfl, rfl, rfl, rfl, rfl, rfl⟩ := e2
      have k0 : (PySem.W.codeIn K b4 d.qual && (He.dflB K a8 [] && He.kwdB K a9 [])) = true := c6
      obtain ⟨k1, k2⟩ := He.ba k0
      obtain ⟨k3, k4⟩ := He.ba k2
      exact ⟨_, ⟨o1, o2, a8, a9, b1, b2, b3, b4, b5, o3, rfl, q, k1, He.dflB_ok k3, He.kwdB_ok k4⟩, c5⟩
    | _ => cases c6
abbrev AlP : Type := He.AlD × (Bool × List He.FnW)
def obsP (fa : List He.Fa) (fn : List He.DefD) (pr : List PrpD) (K : PySem.W.Frag) : AlP := (He.obsD fa fn K, (pr.all fun d => d.ok K, pr.map fun d => d.w K))
def valP (fn : List He.DefD) (pr : List PrpD) : AlP := (He.valD fn, (true, pr.map PrpD.val))
structure SaysP (fa : List He.Fa) (fn : List He.DefD) (pr : List PrpD) (K : PySem.W.Frag) : Prop where
  eq : obsP fa fn pr K = valP fn pr
def obsPG (n : Nat) (fa : List He.Fa) (fn : List He.DefD) (pr : List PrpD) (g : Addr → Option Obj) : AlP := obsP fa fn pr (He.frG g (He.asD g n))
def hookP (n : Nat) (fa : List He.Fa) (fn : List He.DefD) (pr : List PrpD) : PySem.W.Hook where
  α := AlP
  obs := fun s => obsPG n fa fn pr s.heap.get?
  val := fun _ => valP fn pr
  says := fun _ h => ∃ K : PySem.W.Frag, K.In h ∧ SaysP fa fn pr K
  of := fun _ _ e => ⟨_, He.frG_in, ⟨e⟩⟩
  keeps := fun _ _ _ ⟨K, inK, c⟩ kp => ⟨K, PySem.W.Frag.In.keeps inK kp, c⟩
theorem obsPG_eq {n : Nat} {fa : List He.Fa} {fn : List He.DefD} {pr : List PrpD} {g : Addr → Option Obj} {s : Shared} (h : ∀ a, g a = s.heap.get? a) : obsPG n fa fn pr g = (hookP n fa fn pr).obs s := by
  obtain rfl : g = s.heap.get? := funext h
  rfl
section
variable {fa : List He.Fa} {fn : List He.DefD} {pr : List PrpD} {K : PySem.W.Frag}
theorem SaysP.d (c : SaysP fa fn pr K) : He.SaysD fa fn K := congrArg (fun z : AlP => z.1) c.eq
theorem SaysP.prp (c : SaysP fa fn pr K) (i : Nat) {d : PrpD} (h : pr[i]? = some d := by rfl) : PropOf K (He.ga K d.cls) d.attr (prpP K d.cls d.attr) (prpG K d.cls d.attr) ∧ ∃ fd, FunD K d.name d.qual d.params d.body d.scope [] [] (prpG K d.cls d.attr) fd := by
  have z := congrArg (fun z : AlP => z.2) c.eq
  have z1 : (pr.all fun d => d.ok K) = true := congrArg (fun z : Bool × List He.FnW => z.1) z
  have z2 : pr.map (fun d => d.w K) = pr.map PrpD.val := congrArg (fun z : Bool × List He.FnW => z.2) z
  have z3 : (pr.map fun d => d.w K)[i]? = (pr.map PrpD.val)[i]? := by rw [z2]
  rw [List.getElem?_map, List.getElem?_map, h] at z3
  exact PrpD.use (Option.some.inj z3) (List.all_eq_true.mp z1 d (List.mem_of_getElem? h))
end
section
variable {K : PySem.W.Frag} {x qual : Str} {params : Arguments} {body : List Stmt} {scope : Scope} {dvs : List V} {f : Addr} {fd : FuncData} {ps : List Str}
theorem mkbD (F : FunD K x qual params body scope dvs [] f fd) (n : Nat) (ks : List Str) (ix : List (Nat × Nat)) (hd : dvs ≠ [])
    (h : ∀ (T : Addr) (kV doc pm : Value) (an : Option Addr) (cdv ct : Value) (us its ws : List Value), us.length = n → its.length = dvs.length → ws.length = ks.length →
      ∃ k, bindArgs (PySem.W.fnOf x qual params body scope (.ref T) kV doc pm an cdv ct) ⟨us, ks.zip ws⟩ = seqItems? (.ref T) >>= k ∧ k (some its.toArray) = pure (ps.zip (pick ix us its ws))) :
    ∃ g, KBn K fd ps n ks g (fun vs zs => pick ix vs dvs zs) := by
  obtain ⟨its, kb⟩ := F.kbindsD n ks (fun us its ws => pick ix us its ws) hd (fun r1 r2 r3 => vals_pick ix r1 r2 r3) h
  exact ⟨_, kb⟩
end
theorem mkcal_mk {P : Program} {w : World} {K : PySem.W.Frag} {mg : Str → Option Value} {base : Heap} {C : Addr} {m : Str} {x q : Str} {pa : Arguments} {bd : List Stmt} {sc : Scope} {dv : List V} {kw : List (Str × V)} {k n : Nat} {ks ps : List Str} {gV : List V → List V → List V} {sp : Sp} {f : Addr}
    (me : Meth K C m f) (h : ∃ (fd : FuncData), FunD K x q pa bd sc dv kw f fd)
    (ok : ∀ {f : Addr} {fd : FuncData}, FunD K x q pa bd sc dv kw f fd → FnOk P w K mg base CX0 k f fd ps sp)
    (b : ∀ {f : Addr} {fd : FuncData}, FunD K x q pa bd sc dv kw f fd → ∃ g, KBn K fd ps (n + 1) ks g gV) : MKCal P w K mg base C m k n ks gV sp := by
  obtain ⟨fd, F⟩ := h
  obtain ⟨g, kb⟩ := b F
  exact ⟨f, fd, ps, g, me, ok F, kb⟩
theorem mkk_mk {P : Program} {w : World} {K : PySem.W.Frag} {mg : Str → Option Value} {base : Heap} {C : Addr} {x q : Str} {pa : Arguments} {bd : List Stmt} {sc : Scope} {dv : List V} {kw : List (Str × V)} {k n : Nat} {ks ps : List Str} {gV : List V → List V → List V} {sp : Sp} {f : Addr}
    (mk : Mk K C f) (h : ∃ (fd : FuncData), FunD K x q pa bd sc dv kw f fd)
    (ok : ∀ {f : Addr} {fd : FuncData}, FunD K x q pa bd sc dv kw f fd → FnOk P w K mg base CX0 k f fd ps sp)
    (b : ∀ {f : Addr} {fd : FuncData}, FunD K x q pa bd sc dv kw f fd → ∃ g, KBn K fd ps (n + 1) ks g gV) : MkK P w K mg base C k n ks gV sp := by
  obtain ⟨fd, F⟩ := h
  obtain ⟨g, kb⟩ := b F
  exact ⟨f, fd, ps, g, mk, ok F, kb⟩
theorem propc_mk {P : Program} {w : World} {K : PySem.W.Frag} {mg : Str → Option Value} {base : Heap} {C : Addr} {m : Str} {x q : Str} {pa : Arguments} {bd : List Stmt} {sc : Scope} {k : Nat} {sp : Sp}
    (h : ∃ (p g : Addr) (fd : FuncData), PropOf K C m p g ∧ FunD K x q pa bd sc [] [] g fd)
    (ok : ∀ {f : Addr} {fd : FuncData}, FunD K x q pa bd sc [] [] f fd → FnOk P w K mg base CX0 k f fd ["self"] sp)
    (b : ∀ {f : Addr} {fd : FuncData}, FunD K x q pa bd sc [] [] f fd → Binds K fd ["self"] []) : PropC P w K mg base C m k sp := by
  obtain ⟨p, g, fd, hp, F⟩ := h
  exact ⟨p, g, fd, hp, ok F, b F⟩
theorem k_pgl {X : Cx} {K : PySem.W.Frag} {es : List Expr} {k : Nat} {t : TGs} {n : Nat} {pos : Pos} (ek : X.K = K) (hc : X.calm = true) (h : PGs X es t)
    (many : (assignEach es X.env).length = n) (nostar : (assignEach es X.env).findIdx? (·.1) = none) : PG X (.Tuple es k pos) (gLst K n t) := by subst ek; exact pg_lst hc h many nostar
def qIntB : List V → Hp → VK → Prop := fun xs H Q => ∃ b, xs = [.bl b] ∧ Q (.int (if b then 1 else 0)) H
theorem c_intB {X : Cx} : CallR X (.type "int") qIntB := fun pins s σ H xs us Q I r h => call_int1 pins s σ H xs us Q I r (.inr h)
theorem g_intB {p : Prop} [Decidable p] {H : Hp} {Q : VK} (h : Q (.int (if p then 1 else 0)) H) : qIntB [.bl (decide p)] H Q := ⟨decide p, rfl, by
  by_cases c : p
  · rw [if_pos c] at h; rw [if_pos (decide_eq_true c)]; exact h
  · rw [if_neg c] at h; rw [if_neg (by simp [c])]; exact h⟩
instance st_g_intB {p : Prop} [Decidable p] {H : Hp} {Q : VK} : Step (qIntB [.bl (decide p)] H Q) (Q (.int (if p then 1 else 0)) H) := ⟨fun z => g_intB z⟩
theorem k_join {X : Cx} {K : PySem.W.Frag} {o e : Expr} {to te : TE} {apos pos : Pos} (ek : X.K = K) (ho : PE X o to) (he : PE X e te) (hs : starEach [e] X.env = [(false, eval e X.env)] := by rfl) (hb : attributeBase o "join" X.env (eval o X.env) = eval o X.env := by rfl) (hl : (apos.endLine == pos.line) = true := by rfl) :
    PE X (.Call (.Attribute o "join" apos) [e] [] pos) (tM1 (fun x xs H Q => ∃ a p, ∃ ys : List Str, x = .str a ∧ xs = [.ref p] ∧ (SqL K H p (ys.map V.str) ∨ SqT K H p (ys.map V.str)) ∧
      (ys.map (·.length)).sum + ys.length * a.length ≤ 16777216 ∧ Q (.str (Txt.join a ys)) H) to te) := by subst ek; exact pe_join ho he hs hb hl
end Q
-- step instances

set_option Elab.async false
set_option linter.all false
set_option maxRecDepth 100000
set_option maxHeartbeats 4000000
namespace Q
open PySem PySem.Builtin.Str PySem.StrLaws
abbrev sOf (cs : List Nat) : Str := ⟨cs.toArray⟩
theorem sOf_len (cs : List Nat) : (sOf cs).length = cs.length := by simp [sOf, Str.length]
theorem sOf_app (a b : List Nat) : sOf a ++ sOf b = sOf (a ++ b) := by
  show (⟨a.toArray ++ b.toArray⟩ : Str) = ⟨(a ++ b).toArray⟩
  rw [List.append_toArray]
theorem sOf_cps (x : Str) : sOf x.cps.toList = x := by cases x; simp [sOf]
theorem sOf_inj {a b : List Nat} (h : sOf a = sOf b) : a = b := by
  have := congrArg (fun s : Str => s.cps.toList) h
  simpa using this
/-- the pieces between the line feeds -/
def spl : List Nat → List (List Nat)
  | [] => [[]]
  | x :: t => if x = 10 then [] :: spl t else match spl t with
    | p :: ps => (x :: p) :: ps
    | [] => [[x]]
theorem spl_ne : ∀ t, spl t ≠ []
  | [] => by simp [spl]
  | x :: t => by
    unfold spl
    split
    · simp
    · split <;> simp
theorem spl_nl (t : List Nat) : spl (10 :: t) = [] :: spl t := by rw [spl, if_pos rfl]
theorem spl_cons {x : Nat} {t p : List Nat} {ps : List (List Nat)} (h : x ≠ 10) (e : spl t = p :: ps) : spl (x :: t) = (x :: p) :: ps := by rw [spl, if_neg h, e]
theorem spl_some (t : List Nat) : ∃ p ps, spl t = p :: ps := by
  cases e : spl t with
  | nil => exact absurd e (spl_ne t)
  | cons p ps => exact ⟨p, ps, rfl⟩
/-- the places of the line feeds -/
def posN : List Nat → Nat → List Nat
  | [], _ => []
  | x :: t, i => if x = 10 then i :: posN t (i + 1) else posN t (i + 1)
theorem occ_pos (a : List Nat) : ∀ (t pre : List Nat) (acc : Array Nat) (free : Nat), a = pre ++ t → free ≤ pre.length → acc.size ≤ pre.length →
    (forIn (List.range' pre.length (t.length + 1)) (acc, free) (occBody (sOf a) ⟨#[10]⟩ a.length (a.length + 1))).run.fst.toList = acc.toList ++ posN t pre.length
  | [], pre, acc, free, e, hf, hs => by
    have no : ¬ (((acc.size < a.length + 1 ∧ free ≤ pre.length) ∧ pre.length + (⟨#[10]⟩ : Str).length ≤ a.length) ∧ subAt (sOf a) ⟨#[10]⟩ pre.length = true) := fun z => by
      have z2 : pre.length + 1 ≤ a.length := z.1.2
      rw [e, List.append_nil] at z2
      omega
    show (Id.run (forIn [pre.length] (acc, free) _)).fst.toList = _
    rw [List.forIn_cons]
    unfold occBody
    rw [if_neg no]
    simp [posN]
  | x :: t, pre, acc, free, e, hf, hs => by
    have hl : a.length = pre.length + (t.length + 1) := by rw [e]; simp
    have ex : a[pre.length]? = some x := by rw [e]; simp
    show (Id.run (forIn (pre.length :: List.range' (pre.length + 1) (t.length + 1)) (acc, free) _)).fst.toList = _
    rw [List.forIn_cons]
    have hl2 : (sOf a).length = a.length := sOf_len a
    by_cases hx : x = 10
    · subst hx
      have sub := (subAt_one (sOf a) 10 pre.length).mpr (by simpa using ex)
      rw [hl2] at sub
      have yes : ((acc.size < a.length + 1 ∧ free ≤ pre.length) ∧ pre.length + (⟨#[10]⟩ : Str).length ≤ a.length) ∧ subAt (sOf a) ⟨#[10]⟩ pre.length = true := ⟨⟨⟨by omega, hf⟩, sub.1⟩, sub.2⟩
      have step : occBody (sOf a) ⟨#[10]⟩ a.length (a.length + 1) pre.length (acc, free) = pure (ForInStep.yield (acc.push pre.length, pre.length + 1)) := by
        unfold occBody
        rw [if_pos yes]
        rfl
      rw [step]
      have ih := occ_pos a t (pre ++ [10]) (acc.push pre.length) (pre.length + 1) (by rw [e]; simp) (by simp) (by simp; omega)
      have el : List.length (pre ++ [10]) = pre.length + 1 := by simp
      rw [el] at ih
      rw [show posN (10 :: t) pre.length = pre.length :: posN t (pre.length + 1) by rw [posN, if_pos rfl]]
      show (Id.run (forIn (List.range' (pre.length + 1) (t.length + 1)) (acc.push pre.length, pre.length + 1) _)).fst.toList = _
      rw [ih]
      simp
    · have no : ¬ (((acc.size < a.length + 1 ∧ free ≤ pre.length) ∧ pre.length + (⟨#[10]⟩ : Str).length ≤ a.length) ∧ subAt (sOf a) ⟨#[10]⟩ pre.length = true) := fun z => by
        have z2 := (subAt_one (sOf a) 10 pre.length).mp ⟨by rw [hl2]; exact z.1.2, z.2⟩
        have z3 : a[pre.length]? = some 10 := by simpa using z2
        rw [ex] at z3
        exact hx (Option.some.inj z3)
      have step : occBody (sOf a) ⟨#[10]⟩ a.length (a.length + 1) pre.length (acc, free) = pure (ForInStep.yield (acc, free)) := by
        unfold occBody
        rw [if_neg no]
      rw [step]
      have ih := occ_pos a t (pre ++ [x]) acc free (by rw [e]; simp) (by simp; omega) (by simp; omega)
      have el : List.length (pre ++ [x]) = pre.length + 1 := by simp
      rw [el] at ih
      rw [show posN (x :: t) pre.length = posN t (pre.length + 1) by rw [posN, if_neg hx]]
      exact ih
theorem occ_nl (a : List Nat) : occurrences (sOf a) ⟨#[10]⟩ 0 (sOf a).length ((sOf a).length + 1) = posN a 0 := by
  rw [occ_eq, sOf_len]
  have z := occ_pos a a [] #[] 0 rfl (Nat.le_refl _) (Nat.le_refl _)
  rw [Nat.sub_zero]
  exact z.trans (by simp)
def seg (a : List Nat) (st i : Nat) : List Nat := (a.drop st).take (i - st)
theorem strSub_seg (a : List Nat) (i j : Nat) : strSub (sOf a) i j = sOf (seg a i j) := by
  unfold strSub sOf seg
  congr 1
  apply Array.ext'
  simp [Array.toList_extract, List.extract_eq_drop_take]
theorem parts_spl (a : List Nat) : ∀ (t pre : List Nat) (st : Nat), a = pre ++ t → st ≤ pre.length →
    ((st :: (posN t pre.length).map (· + 1)).zip (posN t pre.length ++ [a.length])).map (fun (i, j) => strSub (sOf a) i j) =
      (match spl t with
      | p :: ps => sOf (seg a st pre.length ++ p) :: ps.map sOf
      | [] => [])
  | [], pre, st, e, hst => by
    have e0 : a = pre := by rw [e, List.append_nil]
    subst e0
    simp [posN, spl, strSub_seg]
  | x :: t, pre, st, e, hst => by
    by_cases hx : x = 10
    · subst hx
      have ih := parts_spl a t (pre ++ [10]) (pre.length + 1) (by rw [e]; simp) (by simp)
      have el : List.length (pre ++ [10]) = pre.length + 1 := by simp
      rw [el] at ih
      rw [show posN (10 :: t) pre.length = pre.length :: posN t (pre.length + 1) by rw [posN, if_pos rfl], spl_nl]
      obtain ⟨p, ps, ep⟩ := spl_some t
      rw [ep] at ih ⊢
      have z : seg a (pre.length + 1) (pre.length + 1) = [] := by unfold seg; simp
      simp only [z, List.nil_append] at ih
      simp only [List.map_cons, List.cons_append, List.zip_cons_cons, List.append_nil]
      rw [ih, strSub_seg]
    · have ih := parts_spl a t (pre ++ [x]) st (by rw [e]; simp) (by simp; omega)
      have el : List.length (pre ++ [x]) = pre.length + 1 := by simp
      rw [el] at ih
      rw [show posN (x :: t) pre.length = posN t (pre.length + 1) by rw [posN, if_neg hx]]
      obtain ⟨p, ps, ep⟩ := spl_some t
      rw [spl_cons hx ep]
      rw [ep] at ih
      rw [ih]
      have z : seg a st (pre.length + 1) = seg a st pre.length ++ [x] := by
        unfold seg
        rw [show pre.length + 1 - st = (pre.length - st) + 1 by omega, List.take_add_one, List.getElem?_drop, show st + (pre.length - st) = pre.length by omega]
        have ex : a[pre.length]? = some x := by rw [e]; simp
        rw [ex]
        rfl
      simp only [z, List.append_assoc, List.singleton_append]
theorem kind_pos (x : Str) : 1 ≤ Builtin.Str.strKind x := by
  unfold Builtin.Str.strKind
  split
  · decide
  · split <;> decide
theorem split_nl (a : List Nat) : Txt.split (sOf a) ⟨#[10]⟩ = (spl a).map sOf := by
  unfold Txt.split
  rw [occ_nl]
  have k1 : decide (Builtin.Str.strKind (sOf a) < Builtin.Str.strKind ⟨#[10]⟩) = false := decide_eq_false (by
    have := kind_pos (sOf a)
    have e : Builtin.Str.strKind (⟨#[10]⟩ : Str) = 1 := by simp [Builtin.Str.strKind]
    omega)
  rw [k1, Bool.or_false]
  have full : partsBetween (sOf a) (posN a 0) (⟨#[10]⟩ : Str).length = (spl a).map sOf := by
    unfold partsBetween
    have z := parts_spl a a [] 0 rfl (Nat.le_refl _)
    rw [sOf_len]
    obtain ⟨p, ps, ep⟩ := spl_some a
    rw [ep] at z ⊢
    have s0 : seg a 0 0 = [] := by simp [seg]
    simp only [List.length_nil, s0, List.nil_append] at z
    exact z
  split
  · rename_i h
    have hl : (sOf a).length < 1 := of_decide_eq_true h
    rw [sOf_len] at hl
    have : a = [] := List.length_eq_zero_iff.mp (by omega)
    subst this
    rfl
  · split
    · rename_i h
      rw [List.isEmpty_iff] at h
      rw [← full, h]
      unfold partsBetween
      simp [strSub_seg, seg, sOf_len]
    · exact full
theorem glue_fold (xs : List (List Nat)) : ∀ acc : Array Nat, (xs.map sOf).foldl (fun acc p => acc ++ (sOf []).cps ++ p.cps) acc = acc ++ xs.flatten.toArray := by
  induction xs with
  | nil => intro acc; simp
  | cons x r ih =>
    intro acc
    rw [List.map_cons, List.foldl_cons, ih]
    apply Array.ext'
    simp
theorem join_e (xs : List (List Nat)) : Txt.join (sOf []) (xs.map sOf) = sOf xs.flatten := by
  unfold Txt.join glued
  cases xs with
  | nil => rfl
  | cons x r =>
    show (⟨(r.map sOf).foldl _ (sOf x).cps⟩ : Str) = _
    rw [glue_fold]
    show (⟨x.toArray ++ r.flatten.toArray⟩ : Str) = ⟨(x :: r).flatten.toArray⟩
    rw [List.append_toArray]
    rfl
/-! the last line feed -/
def kp : List Nat → Nat
  | [] => 0
  | x :: t => if 0 < kp t then kp t + 1 else if x = 10 then 1 else 0
theorem kp_le : ∀ t, kp t ≤ t.length
  | [] => Nat.le_refl _
  | x :: t => by
    have := kp_le t
    unfold kp
    split
    · simp; omega
    · split <;> simp
def lastBody (s sub : Str) (hi : Nat) (i : Nat) (st : Option Nat) : Id (ForInStep (Option Nat)) :=
  if i + sub.length ≤ hi ∧ subAt s sub i = true then pure (ForInStep.yield (some i)) else pure (ForInStep.yield st)
theorem last_eq (s sub : Str) (lo hi : Nat) : lastOccurrence s sub lo hi = (forIn (List.range' lo (hi + 1 - lo)) none (lastBody s sub hi)).run := by
  unfold lastOccurrence lastBody
  simp
theorem last_kp (a : List Nat) : ∀ (t pre : List Nat) (o : Option Nat), a = pre ++ t →
    (forIn (List.range' pre.length (t.length + 1)) o (lastBody (sOf a) ⟨#[10]⟩ a.length)).run = if 0 < kp t then some (pre.length + kp t - 1) else o
  | [], pre, o, e => by
    have no : ¬ (pre.length + (⟨#[10]⟩ : Str).length ≤ a.length ∧ subAt (sOf a) ⟨#[10]⟩ pre.length = true) := fun z => by
      have z2 : pre.length + 1 ≤ a.length := z.1
      rw [e, List.append_nil] at z2
      omega
    show Id.run (forIn [pre.length] o _) = _
    rw [List.forIn_cons]
    unfold lastBody
    rw [if_neg no]
    simp [kp]
  | x :: t, pre, o, e => by
    have ex : a[pre.length]? = some x := by rw [e]; simp
    have hl2 : (sOf a).length = a.length := sOf_len a
    show Id.run (forIn (pre.length :: List.range' (pre.length + 1) (t.length + 1)) o _) = _
    rw [List.forIn_cons]
    have step : lastBody (sOf a) ⟨#[10]⟩ a.length pre.length o = pure (ForInStep.yield (if x = 10 then some pre.length else o)) := by
      unfold lastBody
      by_cases hx : x = 10
      · subst hx
        have sub := (subAt_one (sOf a) 10 pre.length).mpr (by simpa using ex)
        rw [hl2] at sub
        rw [if_pos sub, if_pos rfl]
      · have no : ¬ (pre.length + (⟨#[10]⟩ : Str).length ≤ a.length ∧ subAt (sOf a) ⟨#[10]⟩ pre.length = true) := fun z => by
          have z2 := (subAt_one (sOf a) 10 pre.length).mp ⟨by rw [hl2]; exact z.1, z.2⟩
          have z3 : a[pre.length]? = some 10 := by simpa using z2
          rw [ex] at z3
          exact hx (Option.some.inj z3)
        rw [if_neg no, if_neg hx]
    rw [step]
    have ih := last_kp a t (pre ++ [x]) (if x = 10 then some pre.length else o) (by rw [e]; simp)
    have el : List.length (pre ++ [x]) = pre.length + 1 := by simp
    rw [el] at ih
    refine ih.trans ?_
    rw [kp]
    by_cases h1 : 0 < kp t
    · rw [if_pos h1, if_pos h1, if_pos (by omega)]
      congr 1
      omega
    · rw [if_neg h1, if_neg h1]
      by_cases hx : x = 10
      · rw [if_pos hx, if_pos hx, if_pos (by omega)]
        rfl
      · rw [if_neg hx, if_neg hx, if_neg (by omega)]
theorem rfind_nl (a : List Nat) : Txt.rfind (sOf a) ⟨#[10]⟩ = (kp a : Int) - 1 := by
  unfold Txt.rfind
  rw [last_eq, sOf_len, Nat.sub_zero]
  have z := last_kp a a [] none rfl
  rw [List.length_nil] at z
  rw [z]
  by_cases h : 0 < kp a
  · rw [if_pos h]
    show ((0 + kp a - 1 : Nat) : Int) = _
    omega
  · rw [if_neg h]
    show (-1 : Int) = _
    omega
/-- the whole lines -/
def whole (a : List Nat) : List (List Nat) := (spl a).dropLast
theorem trim_kp : ∀ a : List Nat, ((whole a).map (· ++ [10])).flatten = a.take (kp a)
  | [] => rfl
  | x :: t => by
    have ih := trim_kp t
    unfold whole at ih ⊢
    obtain ⟨p, ps, ep⟩ := spl_some t
    by_cases hx : x = 10
    · subst hx
      rw [spl_nl, List.dropLast_cons_of_ne_nil (spl_ne t), List.map_cons, List.flatten_cons, ih]
      have e : kp (10 :: t) = kp t + 1 := by
        rw [kp]
        by_cases h : 0 < kp t
        · rw [if_pos h]
        · rw [if_neg h, if_pos rfl]; omega
      rw [e]
      rfl
    · rw [spl_cons hx ep]
      rw [ep] at ih
      have hk := kp_le t
      cases ps with
      | nil =>
        have z : (t.take (kp t)).length = 0 := by rw [← ih]; rfl
        rw [List.length_take] at z
        have e : kp (x :: t) = 0 := by rw [kp, if_neg (by omega), if_neg hx]
        rw [e]
        rfl
      | cons q qs =>
        have l : 0 < (t.take (kp t)).length := by
          rw [← ih]
          simp
          omega
        rw [List.length_take] at l
        have e : kp (x :: t) = kp t + 1 := by rw [kp, if_pos (by omega)]
        rw [e, List.take_succ_cons, ← ih]
        simp
/-! what a fall leaves -/
def fallF : List Nat → Nat → Nat → List Nat
  | [], _, _ => []
  | x :: t, 0, r => if x = 10 ∨ r = 0 then [] else x :: fallF t 0 (r - 1)
  | x :: t, k + 1, r => x :: fallF t (if x = 10 then k else k + 1) r
def fallP (t : List Nat) (k r : Nat) : List Nat := (((whole t).take k).map (· ++ [10])).flatten ++ ((spl t).getD ((whole t).take k).length []).take r
/-- whole lines alone -/
def Nl (t : List Nat) : Prop := kp t = t.length
theorem nl_tail {x : Nat} {t : List Nat} (h : Nl (x :: t)) : Nl t := by
  unfold Nl at *
  have := kp_le t
  rw [kp] at h
  split at h
  · simp at h; exact h
  · split at h
    · simp at h; simp [h, kp]
    · simp at h
theorem nl_first {x : Nat} {t : List Nat} (h : Nl (x :: t)) (hx : x ≠ 10) : 0 < kp t := by
  unfold Nl at h
  rw [kp] at h
  split at h
  · assumption
  · simp [hx] at h
theorem fall_eq : ∀ (t : List Nat) (k r : Nat), Nl t → fallP t k r = fallF t k r
  | [], k, r, _ => by simp [fallP, fallF, whole, spl]
  | x :: t, 0, r, h => by
    unfold fallP
    rw [fallF]
    obtain ⟨p, ps, ep⟩ := spl_some t
    by_cases hx : x = 10
    · subst hx
      rw [spl_nl, if_pos (.inl rfl)]
      simp
    · rw [spl_cons hx ep]
      cases r with
      | zero => rw [if_pos (.inr rfl)]; simp
      | succ r =>
        have ih := fall_eq t 0 r (nl_tail h)
        unfold fallP at ih
        rw [ep] at ih
        rw [if_neg (by rintro (z | z); exact hx z; omega)]
        show _ = x :: fallF t 0 r
        rw [← ih]
        simp
  | x :: t, k + 1, r, h => by
    unfold fallP
    rw [fallF]
    obtain ⟨p, ps, ep⟩ := spl_some t
    by_cases hx : x = 10
    · subst hx
      have ih := fall_eq t k r (nl_tail h)
      unfold fallP whole at ih
      unfold whole
      rw [spl_nl, if_pos rfl, List.dropLast_cons_of_ne_nil (spl_ne t), ← ih]
      simp
    · have ih := fall_eq t (k + 1) r (nl_tail h)
      have hk := nl_first h hx
      have tk := trim_kp t
      have kl := kp_le t
      unfold fallP whole at ih
      unfold whole at tk ⊢
      rw [ep] at ih tk
      rw [spl_cons hx ep, if_neg hx, ← ih]
      cases ps with
      | nil =>
        have z : (t.take (kp t)).length = 0 := by rw [← tk]; rfl
        rw [List.length_take] at z
        omega
      | cons q qs => simp
theorem spl_snoc (x : Nat) : ∀ a : List Nat, spl (a ++ [x]) = if x = 10 then spl a ++ [[]] else (spl a).dropLast ++ [(spl a).getLastD [] ++ [x]]
  | [] => by
    by_cases hx : x = 10
    · subst hx; simp [spl]
    · simp [spl, hx]
  | y :: a => by
    have ih := spl_snoc x a
    obtain ⟨p, ps, ep⟩ := spl_some a
    by_cases hy : y = 10
    · subst hy
      rw [List.cons_append, spl_nl, spl_nl, ih, ep]
      by_cases hx : x = 10
      · rw [if_pos hx, if_pos hx]; simp
      · rw [if_neg hx, if_neg hx]; simp
    · rw [List.cons_append, spl_cons hy ep]
      by_cases hx : x = 10
      · rw [if_pos hx, ep] at ih
        rw [if_pos hx, spl_cons hy ih]
        simp
      · rw [if_neg hx, ep] at ih
        rw [if_neg hx]
        cases ps with
        | nil => rw [spl_cons (p := p ++ [x]) (ps := []) hy (by simpa using ih)]; simp
        | cons q qs =>
          rw [spl_cons (p := p) (ps := (q :: qs).dropLast ++ [(q :: qs).getLastD [] ++ [x]]) hy (by rw [ih]; simp)]
          simp
end Q

set_option Elab.async false
set_option linter.all false
set_option maxRecDepth 100000
namespace Q
open PySem PySem.Spec L2
/-! readings, step by step -/
section
variable {D : Ends} {σ : L2.St} {H : Hp} {Q : VK} {K : PySem.W.Frag}
def PropR (C : Addr) (sp : Sp) (Q : VK) (x : V) (H1 : Hp) : Prop := ∃ a dx fs, x = .ref a ∧ H1 a = some (.ins C dx fs) ∧ sp [.ref a] H1 Q E0
theorem g_prop {C : Addr} {sp : Sp} {ta : TE} (h : ta σ H (PropR C sp Q)) : tProp C sp [] E0 ta σ H Q := h
instance st_g_prop {C : Addr} {sp : Sp} {ta : TE} : Step (tProp C sp [] E0 ta σ H Q) (ta σ H (PropR C sp Q)) := ⟨fun z => g_prop z⟩
theorem g_propR {C : Addr} {sp : Sp} {a dx : Addr} {fs : List (Str × V)} (h : H a = some (.ins C dx fs)) (q : sp [.ref a] H Q E0) : PropR C sp Q (.ref a) H := ⟨a, dx, fs, rfl, h, q⟩
def M1R (r : V → List V → Hp → VK → Prop) (te : TE) (σ : L2.St) (Q : VK) (x : V) (H1 : Hp) : Prop := (∃ a, x = .str a) ∧ te σ H1 fun y H2 => r x [y] H2 Q
theorem g_m1 {r : V → List V → Hp → VK → Prop} {to te : TE} (h : to σ H (M1R r te σ Q)) : tM1 r to te σ H Q := h
instance st_g_m1 {r : V → List V → Hp → VK → Prop} {to te : TE} : Step (tM1 r to te σ H Q) (to σ H (M1R r te σ Q)) := ⟨fun z => g_m1 z⟩
theorem g_m1R {r : V → List V → Hp → VK → Prop} {te : TE} {a : Str} (h : te σ H fun y H2 => r (.str a) [y] H2 Q) : M1R r te σ Q (.str a) H := ⟨⟨a, rfl⟩, h⟩
instance st_g_m1R {r : V → List V → Hp → VK → Prop} {te : TE} {a : Str} : Step (M1R r te σ Q (.str a) H) (te σ H fun y H2 => r (.str a) [y] H2 Q) := ⟨fun z => g_m1R z⟩
def FmtR (Q : VK) (x : V) (H1 : Hp) : Prop := (∃ y : Str, x = .str y ∧ y.length ≤ sizeLine ∧ Q (.str y) H1) ∨ ∃ i : Int, x = .int i ∧ i.natAbs.log2 < 1920 ∧ Q (.str (toString i)) H1
theorem g_fmt {te : TE} (h : te σ H (FmtR Q)) : tFmt te σ H Q := h
instance st_g_fmt {te : TE} : Step (tFmt te σ H Q) (te σ H (FmtR Q)) := ⟨fun z => g_fmt z⟩
theorem g_fmtS {y : Str} (l : y.length ≤ sizeLine) (h : Q (.str y) H) : FmtR Q (.str y) H := .inl ⟨y, rfl, l, h⟩
theorem g_fmtI {i : Int} (l : i.natAbs.log2 < 1920) (h : Q (.str (toString i)) H) : FmtR Q (.int i) H := .inr ⟨i, rfl, l, h⟩
def JR (ts : List TE) (acc : Str) (σ : L2.St) (R : Str → Hp → Prop) (x : V) (H1 : Hp) : Prop := ∃ y : Str, x = .str y ∧ (acc ++ y).length ≤ sizeLine ∧ tJs ts (acc ++ y) σ H1 R
theorem g_jsC {t : TE} {ts : List TE} {acc : Str} {R : Str → Hp → Prop} (h : t σ H (JR ts acc σ R)) : tJs (t :: ts) acc σ H R := h
instance st_g_jsC {t : TE} {ts : List TE} {acc : Str} {R : Str → Hp → Prop} : Step (tJs (t :: ts) acc σ H R) (t σ H (JR ts acc σ R)) := ⟨fun z => g_jsC z⟩
theorem g_jsN {acc : Str} {R : Str → Hp → Prop} (h : R acc H) : tJs [] acc σ H R := h
instance st_g_jsN {acc : Str} {R : Str → Hp → Prop} : Step (tJs [] acc σ H R) (R acc H) := ⟨fun z => g_jsN z⟩
theorem g_jR {ts : List TE} {acc y : Str} {R : Str → Hp → Prop} (l : (acc ++ y).length ≤ sizeLine) (h : tJs ts (acc ++ y) σ H R) : JR ts acc σ R (.str y) H := ⟨y, rfl, l, h⟩
def MkR (C : Addr) (n m : Nat) (sp : Sp) (gV : List V → List V → List V) (Q : VK) (vs zs : List V) (H2 : Hp) : Prop := vs.length = n ∧ zs.length = m ∧ ∀ x dx, H2 x = none → H2 dx = none → dx ≠ x →
  sp (gV (.ref x :: vs) zs) (upd (upd H2 dx (.own x)) x (.ins C dx [])) (fun v H3 => v = .non ∧ Q (.ref x) H3) E0
theorem g_mk {C : Addr} {n m : Nat} {sp : Sp} {gV : List V → List V → List V} {t tk : TA} (h : t σ H fun vs H1 => tk σ H1 fun zs H2 => MkR C n m sp gV Q vs zs H2) : tMakeK C n m sp gV E0 t tk σ H Q := h
instance st_g_mk {C : Addr} {n m : Nat} {sp : Sp} {gV : List V → List V → List V} {t tk : TA} : Step (tMakeK C n m sp gV E0 t tk σ H Q) (t σ H fun vs H1 => tk σ H1 fun zs H2 => MkR C n m sp gV Q vs zs H2) := ⟨fun z => g_mk z⟩
theorem g_mkR {C : Addr} {n m : Nat} {sp : Sp} {gV : List V → List V → List V} {vs zs ws : List V} (h1 : vs.length = n) (h2 : zs.length = m) (e : ∀ x, gV (.ref x :: vs) zs = .ref x :: ws)
    (h : ∀ x dx, H x = none → H dx = none → dx ≠ x → sp (.ref x :: ws) (upd (upd H dx (.own x)) x (.ins C dx [])) (fun v H3 => v = .non ∧ Q (.ref x) H3) E0) : MkR C n m sp gV Q vs zs H :=
  ⟨h1, h2, fun x dx a b c => by rw [e]; exact h x dx a b c⟩
def MtR2 (C : Addr) (m : Str) (n j : Nat) (sp : Sp) (gV : List V → List V → List V) (t tk : TA) (σ : L2.St) (Q : VK) (x : V) (H1 : Hp) : Prop := ∃ a dx fs, x = .ref a ∧ H1 a = some (.ins C dx fs) ∧ fs.lookup m = none ∧
  t σ H1 fun vs H2 => tk σ H2 fun zs H3 => vs.length = n ∧ zs.length = j ∧ sp (gV (.ref a :: vs) zs) H3 Q E0
theorem g_methN {C : Addr} {m : Str} {n j : Nat} {sp : Sp} {gV : List V → List V → List V} {to : TE} {t tk : TA} (h : to σ H (MtR2 C m n j sp gV t tk σ Q)) : tMethN C m n j sp gV E0 to t tk σ H Q := h
instance st_g_methN {C : Addr} {m : Str} {n j : Nat} {sp : Sp} {gV : List V → List V → List V} {to : TE} {t tk : TA} : Step (tMethN C m n j sp gV E0 to t tk σ H Q) (to σ H (MtR2 C m n j sp gV t tk σ Q)) := ⟨fun z => g_methN z⟩
def MtR3 (n j : Nat) (sp : Sp) (gV : List V → List V → List V) (a : Addr) (Q : VK) (vs zs : List V) (H3 : Hp) : Prop := vs.length = n ∧ zs.length = j ∧ sp (gV (.ref a :: vs) zs) H3 Q E0
theorem g_methN2 {C : Addr} {m : Str} {n j : Nat} {sp : Sp} {gV : List V → List V → List V} {t tk : TA} {a dx : Addr} {fs : List (Str × V)} (h : H a = some (.ins C dx fs)) (l : fs.lookup m = none)
    (q : t σ H fun vs H2 => tk σ H2 fun zs H3 => MtR3 n j sp gV a Q vs zs H3) : MtR2 C m n j sp gV t tk σ Q (.ref a) H := ⟨a, dx, fs, rfl, h, l, q⟩
theorem g_methN3 {n j : Nat} {sp : Sp} {gV : List V → List V → List V} {a : Addr} {vs zs ws : List V} (h1 : vs.length = n) (h2 : zs.length = j) (e : gV (.ref a :: vs) zs = ws) (h : sp ws H Q E0) : MtR3 n j sp gV a Q vs zs H := ⟨h1, h2, by rw [e]; exact h⟩
theorem g_ownLen {C : Addr} {sp : Sp} {a dx : Addr} {fs : List (Str × V)} (h : H a = some (.ins C dx fs)) (q : sp [.ref a] H (fun v H' => ∃ n : Int, v = .int n ∧ 0 ≤ n ∧ n < 2 ^ 63 ∧ Q (.int n) H') E0) : rOwnLen C sp [.ref a] H Q := ⟨a, dx, fs, rfl, h, q⟩
theorem g_ownRepr {C : Addr} {sp : Sp} {a dx : Addr} {fs : List (Str × V)} (h : H a = some (.ins C dx fs)) (q : sp [.ref a] H (fun v H' => ∃ z : Str, v = .str z ∧ Q (.str z) H') E0) : rOwnRepr C sp [.ref a] H Q := ⟨a, dx, fs, rfl, h, q⟩
theorem g_ownBool {C : Addr} {sp : Sp} {a dx : Addr} {fs : List (Str × V)} (h : H a = some (.ins C dx fs)) (q : sp [.ref a] H (fun v H' => ∃ b : Bool, v = .bl b ∧ Q (.bl b) H') E0) : rOwnBool C sp [.ref a] H Q := ⟨a, dx, fs, rfl, h, q⟩
end
theorem sz_ok {n : Nat} (h : n ≤ 100000) : n ≤ sizeLine := Nat.le_trans h (by decide)
theorem str_app_len (a b : Str) : (a ++ b).length = a.length + b.length := by
  show (a.cps ++ b.cps).size = a.cps.size + b.cps.size
  exact Array.size_append
/-! texts -/
section
variable {σ : L2.St} {H : Hp} {Q : VK} {K : PySem.W.Frag}
theorem g_lenS {z : Str} (l : z.length ≤ sizeLine) (h : Q (.int z.length) H) : (∃ y : Str, [V.str z] = [.str y] ∧ y.length ≤ sizeLine ∧ Q (.int y.length) H) := ⟨z, rfl, l, h⟩
theorem g_slS {z : Str} {lo hi : Option Int} (l : z.length ≤ sizeLine) (h : Q (.str (cutS z lo hi)) H) : rSlS (.str z) lo hi H Q := ⟨z, rfl, l, h⟩
def qMax2 : List V → Hp → VK → Prop := fun xs H Q => ∃ i j, xs = [.int i, .int j] ∧ Q (.int (if j > i then j else i)) H
theorem c_max2 {X : Cx} (c : X.calm = true) : CallR X (.builtin "max") qMax2 := call_max2 c
theorem g_max2 {i j : Int} (h : Q (.int (if j > i then j else i)) H) : qMax2 [.int i, .int j] H Q := ⟨i, j, rfl, h⟩
instance st_g_max2 {i j : Int} : Step (qMax2 [.int i, .int j] H Q) (Q (.int (if j > i then j else i)) H) := ⟨fun z => g_max2 z⟩
def qMin2 : List V → Hp → VK → Prop := fun xs H Q => ∃ i j, xs = [.int i, .int j] ∧ Q (.int (if j < i then j else i)) H
theorem c_min2 {X : Cx} (c : X.calm = true) : CallR X (.builtin "min") qMin2 := call_min2 c
theorem g_min2 {i j : Int} (h : Q (.int (if j < i then j else i)) H) : qMin2 [.int i, .int j] H Q := ⟨i, j, rfl, h⟩
instance st_g_min2 {i j : Int} : Step (qMin2 [.int i, .int j] H Q) (Q (.int (if j < i then j else i)) H) := ⟨fun z => g_min2 z⟩
theorem g_addS {x y : Str} (l : x.length + y.length ≤ sizeLine) (h : Q (.str (x ++ y)) H) : (∃ i j : Str, V.str x = .str i ∧ V.str y = .str j ∧ i.length + j.length ≤ sizeLine ∧ Q (.str (i ++ j)) H) := ⟨x, y, rfl, rfl, l, h⟩
end
theorem cut_from (cs : List Nat) (n : Nat) : cutS (sOf cs) (some (n : Int)) none = sOf (cs.drop n) := by
  unfold cutS
  rw [HT.sIx_nat, HT.sIx_none, sOf_len]
  show (⟨((cs.drop (min n cs.length)).take (cs.length - min n cs.length)).toArray⟩ : Str) = ⟨(cs.drop n).toArray⟩
  rcases Nat.le_total n cs.length with h | h
  · rw [Nat.min_eq_left h, List.take_of_length_le (by rw [List.length_drop]; omega)]
  · rw [Nat.min_eq_right h, Nat.sub_self, List.take_zero, List.drop_eq_nil_of_le h]
theorem cut_to (cs : List Nat) (n : Nat) : cutS (sOf cs) none (some (n : Int)) = sOf (cs.take n) := by
  unfold cutS
  rw [HT.sIx_nat, HT.sIx_none, sOf_len, Nat.sub_zero]
  show (⟨((cs.drop 0).take (min n cs.length)).toArray⟩ : Str) = ⟨(cs.take n).toArray⟩
  rw [List.drop_zero]
  rcases Nat.le_total n cs.length with h | h
  · rw [Nat.min_eq_left h]
  · rw [Nat.min_eq_right h, List.take_length, List.take_of_length_le h]
theorem cutV_to (xs : List V) (n : Nat) : cutV xs none (some (n : Int)) = xs.take n := by
  unfold cutV
  rw [HT.sIx_nat, HT.sIx_none, Nat.sub_zero, List.drop_zero]
  rcases Nat.le_total n xs.length with h | h
  · rw [Nat.min_eq_left h]
  · rw [Nat.min_eq_right h, List.take_length, List.take_of_length_le h]
theorem cutV_last (xs : List V) : cutV xs none (some (-1)) = xs.dropLast := by
  unfold cutV
  rw [HT.sIx_none, Nat.sub_zero, List.drop_zero]
  have e : HT.sIx xs.length xs.length (some (-1)) = xs.length - 1 := by
    show (if (-1 : Int) < 0 then ((-1 : Int) + (xs.length : Int)).toNat else min (-1 : Int).toNat xs.length) = _
    rw [if_pos (by decide)]
    omega
  rw [e, List.dropLast_eq_take]
/-- a number as a text -/
abbrev nTxt (n : Nat) : Str := Str.ofString (toString (n : Int))
theorem nTxt_len {n : Nat} (h : n < 100000) : (nTxt n).length ≤ 10 := by
  have e := int_text_length_le10 (k := 5) (a := (n : Int)) (by decide) (by show n < 10 ^ 5; omega)
  rw [PySem.ofString_length]
  omega
theorem log_ok {n : Nat} (h : n < 100000) : (n : Int).natAbs.log2 < 1920 := Nat.lt_trans (PySem.Flt.log2_lt_of (k := 20) (by decide) (show n < 2 ^ 20 by omega)) (by decide)
section
variable {K : PySem.W.Frag} {g : TG} {tt : TT} {te : TE} {vs : List Nat} {σ σ0 : L2.St} {H : Hp} {Q : VK} {a : Addr}
/-- a comprehension over a list, an item for each item -/
theorem lcMap {α : Type} {S : List α} {g0 f : α → V} (hw : wipe σ vs = σ0) (hS : SqL K H a (S.map g0)) (hl : S.length ≤ 1000)
    (turn : ∀ (D : Addr) (acc : List V) (x : α) (N : Hp → Prop), H D = none → x ∈ S → TurnD D N (f x) (upd H D (.lst acc)) → Turn1 g tt te vs σ0 D (g0 x) (upd H D (.lst acc)) N)
    (q : ∀ D, H D = none → Q (.ref D) (upd H D (.lst (S.map f)))) : LcG (Itl K a) g tt te vs σ Q H := by
  refine lcL (xs := S.map g0) hw fun D hD => ⟨fun i H' => H' = upd H D (.lst ((S.take i).map f)), rfl, ?_, ?_, ?_⟩
  · rintro i H' _ rfl
    exact (same_new hD).seq hS
  · rintro i x H' hx rfl
    rw [List.getElem?_map, Option.map_eq_some_iff] at hx
    obtain ⟨n, hn, rfl⟩ := hx
    have lt : i < S.length := (List.getElem?_eq_some_iff.mp hn).1
    refine turn D _ n _ hD (List.mem_of_getElem? hn) (g_turnD upd_same ?_ ?_)
    · rw [List.length_map, List.length_take]
      omega
    · dsimp only
      rw [upd_upd, List.take_add_one, hn, List.map_append]
      rfl
  · rintro H' rfl
    rw [List.length_map, List.take_length]
    exact q D hD
end
/-! over the signs of a text -/
section
variable {K : PySem.W.Frag} {g : TG} {tt : TT} {te : TE} {tb : TS} {vs : List Nat} {D0 : Ends} {σ σ0 : L2.St} {H : Hp} {Q : VK} {R : It → Hp → Prop}
def StrR (x : V) (R : It → Hp → Prop) (H : Hp) : Prop := ∃ z, x = .str z ∧ R (Its z) H
theorem g_iStr {te : TE} (h : te σ H fun x H1 => StrR x R H1) : iStr te σ H R := h
instance st_g_iStr {te : TE} : Step (iStr te σ H R) (te σ H fun x H1 => StrR x R H1) := ⟨fun z => g_iStr z⟩
theorem g_strR {z : Str} (h : R (Its z) H) : StrR (.str z) R H := ⟨z, rfl, h⟩
instance st_g_strR {z : Str} : Step (StrR (.str z) R H) (R (Its z) H) := ⟨fun z => g_strR z⟩
theorem forS {cs : List Nat} (h : ∃ Pv : Nat → L2.St → Hp → Prop, Pv 0 σ H ∧
    (∀ i c σ' H', cs[i]? = some c → Pv i σ' H' → g (.str (sOf [c])) σ' H' fun σ2 H2 => tb { D0 with nx := Pv (i + 1), ct := Pv (i + 1), bk := D0.nx } σ2 H2) ∧ ∀ σ' H', Pv cs.length σ' H' → D0.nx σ' H') : ForG (Its (sOf cs)) g tb D0 σ H := by
  obtain ⟨Pv, h0, hs, hd⟩ := h
  have sz : (sOf cs).cps.size = cs.length := sOf_len cs
  refine ⟨fun i m σ H => m = cs.length - i ∧ i ≤ cs.length ∧ Pv i σ H, ⟨cs.length, by simp, Nat.zero_le _, h0⟩, ?_⟩
  rintro i m σ H ⟨rfl, hi, p⟩
  rcases Nat.lt_or_ge i cs.length with lt | ge
  · refine .inr ⟨show i < (sOf cs).cps.size by omega, Pv (i + 1), fun σ' H' p' => ⟨cs.length - (i + 1), by omega, rfl, lt, p'⟩, ?_⟩
    rintro x H' ⟨rfl, c, hc, rfl⟩
    exact hs i c σ _ (by simpa using hc) p
  · have e : i = cs.length := by omega
    subst e
    exact .inl ⟨show (sOf cs).cps.size ≤ cs.length by omega, hd σ H p⟩
theorem lcS {cs : List Nat} {f : Nat → V} (hw : wipe σ vs = σ0) (hl : cs.length ≤ 1000)
    (turn : ∀ (D : Addr) (acc : List V) (c : Nat) (N : Hp → Prop), H D = none → c ∈ cs → TurnD D N (f c) (upd H D (.lst acc)) → Turn1 g tt te vs σ0 D (.str (sOf [c])) (upd H D (.lst acc)) N)
    (q : ∀ D, H D = none → Q (.ref D) (upd H D (.lst (cs.map f)))) : LcG (Its (sOf cs)) g tt te vs σ Q H := by
  subst hw
  intro D hD
  have sz : (sOf cs).cps.size = cs.length := sOf_len cs
  refine ⟨fun i m H' => m = cs.length - i ∧ i ≤ cs.length ∧ H' = upd H D (.lst ((cs.take i).map f)), ⟨cs.length, by simp, Nat.zero_le _, rfl⟩, ?_⟩
  rintro i m H' ⟨rfl, hi, rfl⟩
  rcases Nat.lt_or_ge i cs.length with lt | ge
  · refine .inr ⟨show i < (sOf cs).cps.size by omega, fun H' => H' = upd H D (.lst ((cs.take (i + 1)).map f)), fun H' p' => ⟨cs.length - (i + 1), by omega, rfl, lt, p'⟩, ?_⟩
    rintro x H' ⟨rfl, c, hc, rfl⟩
    have hc2 : cs[i]? = some c := by simpa using hc
    refine turn D _ c _ hD (List.mem_of_getElem? hc2) (g_turnD upd_same (by rw [List.length_map, List.length_take]; omega) ?_)
    rw [upd_upd, List.take_add_one, hc2, List.map_append]
    rfl
  · have e : i = cs.length := by omega
    subst e
    rw [List.take_length]
    exact .inl ⟨show (sOf cs).cps.size ≤ cs.length by omega, q D hD⟩
end
theorem join_len (sep : Str) (xs : List Str) : (Txt.join sep xs).length ≤ (xs.map (·.length)).sum + xs.length * sep.length := by
  unfold Txt.join
  rw [StrLaws.glued_eq_join]
  exact StrLaws.join_length_le sep xs
theorem sum_le {xs : List Nat} {b : Nat} (h : ∀ x ∈ xs, x ≤ b) : xs.sum ≤ xs.length * b := by
  induction xs with
  | nil => simp
  | cons x r ih =>
    have h1 := h x (List.mem_cons_self ..)
    have h2 := ih fun y hy => h y (List.mem_cons_of_mem _ hy)
    rw [List.sum_cons, List.length_cons, Nat.add_mul]
    omega
theorem g_gLst {K : PySem.W.Frag} {n : Nat} {t : TGs} {p : Addr} {xs : List V} {σ : L2.St} {H : Hp} {N : L2.St → Hp → Prop} (c : SqL K H p xs) (e : xs.length = n) (h : t xs σ H N) : gLst K n t (.ref p) σ H N := ⟨p, xs, rfl, c, e, h⟩
end Q
-- step instances

set_option Elab.async false
set_option linter.all false
set_option maxRecDepth 100000
set_option maxHeartbeats 4000000
namespace PySem
open PySem.Builtin.Str
theorem qStrIn {prog : Program} {w : World} {a : Addr} :
    MeetsIn prog w (Builtin.«str.__new__» ⟨[.type "str", .ref a], []⟩) (fun A R s => wpAny (model prog w) A.in1 (Builtin.Str.strOf (.ref a)) (fun v t => R (.ok (.ret v)) t) (fun e t => R (.error e) t) s) :=
  MeetsIn.of_wp fun A R s hs => by
    rw [str_new_tree (.ref a)]
    refine wpAny_bind (wpAny_pure ?_)
    refine wpAny_bind (wpAny_of_eq isSubtype_str_str ?_)
    exact wpAny_bind (wpAny_mono hs (fun r t hq => wpAny_pure ⟨_, rfl, hq⟩) fun _ _ z => z)
end PySem
namespace Q
open PySem PySem.Spec L2
section
variable {X : Cx} {C : Addr} {k : Nat} {ps : List Str} {sp : Sp}
def rOwnStr (C : Addr) (sp : Sp) : List V → Hp → VK → Prop := fun xs H Q => ∃ a dx fs, xs = [.ref a] ∧ H a = some (.ins C dx fs) ∧ sp [.ref a] H (fun v H' => ∃ z : Str, v = .str z ∧ Q (.str z) H') E0
theorem call_ownStr (M : MCal X.prog X.w X.K X.mg X.base C "__str__" k ps sp) (hr : Room (k + 2) X.A) : CallR X (.type "str") (rOwnStr C sp) := by
  intro pins s σ H xs us Q I r h
  obtain ⟨a, dx, fs, rfl, ha, hs⟩ := h
  obtain rfl := Vals.ref1 r
  obtain ⟨f, fd, hm, F, hb⟩ := M.ex
  obtain ⟨_, J, _⟩ := ins_get I.hok ha
  obtain ⟨od, J, _⟩ := J.look
  obtain ⟨mm, hF⟩ := I.fr
  refine qTypeIn PySem.F.called_str (by decide) (PySem.F.typeCall_str_1 _) (PySem.F.newCall_str_1 _) (fun obj => PySem.F.args_object_init_2 obj _) PySem.F.entry_str_new qStrIn ?_
  unfold PySem.Builtin.Str.strOf
  rw [show Builtin.Str.isExactStr (Value.ref a) = false from rfl]
  simp only [Bool.false_eq_true, if_false, pure_bind]
  refine wpAny_bind (wpAny_cRoomFor hr.in1.in1.units0 ?_)
  refine wpAny_bind (m := callSpecial? (.ref a) (Str.ofString "__str__")) (PySem.W.special_fn (I.ok.mod.kin.keeps hF.keep) J hm.at_ (beq_iff_eq.mp hm.fn) (thn (run_own (m := "__str__") F hb hr.in1.in1 rfl I hs) fun u t ⟨z, H', I', rz, b, ez, q⟩ => ?_))
  subst ez
  obtain ⟨tk, rfl⟩ := rz
  show wpAny _ _ (do
    let o ← asStr? (Value.str b tk)
    if o.isNone = true then _ else _) _ _ _
  refine wpAny_bind (wpAny_pure ?_)
  rw [if_neg (by simp)]
  exact wpAny_pure ⟨typeIs_str _ _ _, .str b, H', I', ⟨_, rfl⟩, q⟩
theorem g_ownStr {H : Hp} {Q : VK} {a dx : Addr} {fs : List (Str × V)} (h : H a = some (.ins C dx fs)) (q : sp [.ref a] H (fun v H' => ∃ z : Str, v = .str z ∧ Q (.str z) H') E0) : rOwnStr C sp [.ref a] H Q := ⟨a, dx, fs, rfl, h, q⟩
end
end Q

set_option Elab.async false
set_option linter.all false
set_option maxRecDepth 100000
set_option maxHeartbeats 4000000
/-! own operators, own ==, -x, truth; more facts of the head -/
namespace Q
open PySem PySem.Spec PyProof.Rows L2
section
variable {X : Cx} {C : Addr} {k : Nat} {ps : List Str} {sp : Sp}
/-- a def of a class called with values -/
theorem run_vals {pins : List (Addr × Obj)} {σ : L2.St} {H : Hp} {s : Shared} {m : Str} {vs : List V} {us : List Value} {Q : VK} (M : MCal X.prog X.w X.K X.mg X.base C m k ps sp) (hr : Room k X.A)
    (I : Inv X pins σ H s) (r : Vals vs us) (h : sp vs H Q E0) : ∃ f, Meth X.K C m f ∧ wpAny (model X.prog X.w) X.A (call (.ref f) us) (EP X pins σ Q) X.xe s := by
  obtain ⟨f, fd, hm, F, hb⟩ := M.ex
  exact ⟨f, hm, run_fn F hr hb .nil pass0 I r (by rw [List.append_nil]; exact h)⟩
theorem cmpBack {pins : List (Addr × Obj)} {σ : L2.St} {Q : VK} {v : Value} {s' : Shared} (h : EP X pins σ Q v s') : PySem.W.CmpBack (EP X pins σ Q) v s' := by
  cases v with
  | notImplemented =>
    obtain ⟨z, H', I', rz, _⟩ := h
    cases z with
    | non => cases rz
    | bl b => cases rz
    | int i => obtain ⟨t, e⟩ := rz; cases e
    | str i => obtain ⟨t, e⟩ := rz; cases e
    | byt i => obtain ⟨t, e⟩ := rz; cases e
    | flt i => obtain ⟨t, e⟩ := rz; cases e
    | ref i => cases rz
    | ty i => cases rz
  | _ => exact h
def rOwnBin (C : Addr) (sp : Sp) : R2 := fun x y H Q => ∃ a dx fs b dx2 fs2, x = .ref a ∧ y = .ref b ∧ H a = some (.ins C dx fs) ∧ H b = some (.ins C dx2 fs2) ∧ sp [.ref a, .ref b] H Q E0
theorem op_ownBin {op : Operator} {m : Str} (em : PySem.dunder op.info.2 = m) (sf : PySem.W.selfFirst X.K C = true) (M : MCal X.prog X.w X.K X.mg X.base C m k ps sp) (hr : Room k X.A) : OpR X (binaryOp op) (rOwnBin C sp) := by
  intro pins s σ H x y v u Q I rx ry h
  obtain ⟨a, dx, fs, b, dx2, fs2, rfl, rfl, ha, hb, hs⟩ := h
  cases rx
  cases ry
  obtain ⟨_, J, _⟩ := ins_get I.hok ha
  obtain ⟨od, J, _⟩ := J.look
  obtain ⟨_, J', _⟩ := ins_get I.hok hb
  obtain ⟨od', J', _⟩ := J'.look
  obtain ⟨mm, hF⟩ := I.fr
  obtain ⟨f, hm, hw⟩ := run_vals M hr I (vs := [.ref a, .ref b]) (us := [.ref a, .ref b]) (.cons rfl (.cons rfl .nil)) hs
  exact PySem.W.binop_K hF I.ok.mod.kin J J'.type sf (by rw [em]; exact hm.at_) hm.fn (wpAny_mono hw (fun v s' z => cmpBack z) fun _ _ z => z)
def rOwnEq (K : PySem.W.Frag) (C : Addr) (sp : Sp) : R2 := fun x y H Q => ∃ a dx fs t, x = .ref a ∧ H a = some (.ins C dx fs) ∧ TyX K H y t ∧ PySem.W.notFirst K C t = true ∧ sp [.ref a, y] H Q E0
theorem op_ownEq (M : MCal X.prog X.w X.K X.mg X.base C "__eq__" k ps sp) (hr : Room k X.A) : OpR X (compareOp .Eq) (rOwnEq X.K C sp) := by
  intro pins s σ H x y v u Q I rx ry h
  obtain ⟨a, dx, fs, t, rfl, ha, ty, nf, hs⟩ := h
  cases rx
  obtain ⟨_, J, _⟩ := ins_get I.hok ha
  obtain ⟨od, J, _⟩ := J.look
  obtain ⟨mm, hF⟩ := I.fr
  obtain ⟨P, Z, p, hx⟩ := kit_of I ry ty
  obtain ⟨f, hm, hw⟩ := run_vals M hr I (vs := [.ref a, y]) (us := [.ref a, u]) (.cons rfl (.cons ry .nil)) hs
  exact PySem.W.cmp_K (op := .Eq) (tb := t) hr.units0 hF I.ok.mod.kin J (Z.ty _ _ I.kIn p) nf hm.at_ hm.fn (wpAny_mono hw (fun v s' z => cmpBack z) fun _ _ z => z)
def rOwnUn (C : Addr) (sp : Sp) : V → Hp → VK → Prop := fun x H Q => ∃ a dx fs, x = .ref a ∧ H a = some (.ins C dx fs) ∧ sp [.ref a] H Q E0
theorem un_ownNeg (M : MCal X.prog X.w X.K X.mg X.base C "__neg__" k ps sp) (hr : Room k X.A) : UnR X (unaryOp .USub) (rOwnUn C sp) := by
  intro pins s σ H x v Q I rx h
  obtain ⟨a, dx, fs, rfl, ha, hs⟩ := h
  cases rx
  obtain ⟨_, J, _⟩ := ins_get I.hok ha
  obtain ⟨od, J, _⟩ := J.look
  obtain ⟨mm, hF⟩ := I.fr
  obtain ⟨f, hm, hw⟩ := run_vals M hr I (vs := [.ref a]) (us := [.ref a]) (.cons rfl .nil) hs
  unfold unaryOp
  refine wpAny_holding ?_
  dsimp only
  rw [if_neg (by decide)]
  refine wpAny_bind (m := callSpecial? (.ref a) (Str.ofString "__neg__")) (PySem.W.special_fn (I.ok.mod.kin.keeps hF.keep) J hm.at_ (beq_iff_eq.mp hm.fn) (wpAny_mono hw (fun v s' z => ?_) fun _ _ z => z))
  exact wpAny_pure z
/-- an own object as a test, by its __bool__ -/
theorem pt_ownBool {e : Expr} {ta : TE} (he : PE X e ta) (M : MCal X.prog X.w X.K X.mg X.base C "__bool__" k ps sp) (hr : Room k X.A) (hw : ∀ whole, isTrue e X.env whole = (do let v ← whole; standAt e.pos; holding [v] (truthy v))) :
    PT X e (fun σ H Q => ta σ H fun x H1 => ∃ a dx fs, x = .ref a ∧ H1 a = some (.ins C dx fs) ∧ sp [.ref a] H1 (fun v H' => ∃ b : Bool, v = .bl b ∧ Q b H') E0) := by
  refine ⟨fun pins s σ H Q I h => ?_⟩
  refine isTrue_plain (thn (he.run pins s σ H _ I h) fun v s1 ⟨x, H1, I1, rx, q1⟩ => ?_) (hw _)
  obtain ⟨a, dx, fs, rfl, ha, hs⟩ := q1
  cases rx
  obtain ⟨_, J, _⟩ := ins_get I1.hok ha
  obtain ⟨od, J, _⟩ := J.look
  obtain ⟨mm, hF⟩ := I1.fr
  obtain ⟨f, hm, hw⟩ := run_vals M hr I1 (vs := [.ref a]) (us := [.ref a]) (.cons rfl .nil) hs
  refine PySem.W.truthy_K hF I1.ok.mod.kin J hm.at_ hm.fn (wpAny_mono hw (fun v s' ⟨z, H', I', rz, b, ez, q⟩ => ?_) fun _ _ z => z)
  subst ez
  cases rz
  exact ⟨H', I', q⟩
/-- // of whole numbers of any sign, the divisor below 2 ^ 9000 -/
def CDivZ (_ j : Int) : Prop := j ≠ 0 ∧ j.natAbs.log2 < 9000
theorem op_fdivZ : OpR X (binaryOp .FloorDiv) (rI CDivZ fun i j => .int (i.fdiv j)) := opI fun _ _ _ _ _ _ _ hc q => floordiv_int hc.1 q (.inl (PyProof.noPylong_of_log2 hc.2))
theorem div_z {i j : Int} {b : Nat} (h : j ≠ 0) (hb : j.natAbs < 2 ^ b) (h0 : 0 < b) (h9 : b ≤ 9000) : CDivZ i j := ⟨h, Nat.lt_of_lt_of_le (PySem.Flt.log2_lt_of h0 hb) h9⟩
end
/-! the head's facts, with tests of one's own -/
abbrev AlX : Type := AlP × Bool
def obsX (fa : List He.Fa) (fn : List He.DefD) (pr : List PrpD) (bs : List (PySem.W.Frag → Bool)) (K : PySem.W.Frag) : AlX := (obsP fa fn pr K, bs.all fun b => b K)
def valX (fn : List He.DefD) (pr : List PrpD) : AlX := (valP fn pr, true)
structure SaysX (fa : List He.Fa) (fn : List He.DefD) (pr : List PrpD) (bs : List (PySem.W.Frag → Bool)) (K : PySem.W.Frag) : Prop where
  eq : obsX fa fn pr bs K = valX fn pr
def obsXG (n : Nat) (fa : List He.Fa) (fn : List He.DefD) (pr : List PrpD) (bs : List (PySem.W.Frag → Bool)) (g : Addr → Option Obj) : AlX := obsX fa fn pr bs (He.frG g (He.asD g n))
def hookX (n : Nat) (fa : List He.Fa) (fn : List He.DefD) (pr : List PrpD) (bs : List (PySem.W.Frag → Bool)) : PySem.W.Hook where
  α := AlX
  obs := fun s => obsXG n fa fn pr bs s.heap.get?
  val := fun _ => valX fn pr
  says := fun _ h => ∃ K : PySem.W.Frag, K.In h ∧ SaysX fa fn pr bs K
  of := fun _ _ e => ⟨_, He.frG_in, ⟨e⟩⟩
  keeps := fun _ _ _ ⟨K, inK, c⟩ kp => ⟨K, PySem.W.Frag.In.keeps inK kp, c⟩
theorem obsXG_eq {n : Nat} {fa : List He.Fa} {fn : List He.DefD} {pr : List PrpD} {bs : List (PySem.W.Frag → Bool)} {g : Addr → Option Obj} {s : Shared} (h : ∀ a, g a = s.heap.get? a) : obsXG n fa fn pr bs g = (hookX n fa fn pr bs).obs s := by
  obtain rfl : g = s.heap.get? := funext h
  rfl
section
variable {fa : List He.Fa} {fn : List He.DefD} {pr : List PrpD} {bs : List (PySem.W.Frag → Bool)} {K : PySem.W.Frag}
theorem SaysX.p (c : SaysX fa fn pr bs K) : SaysP fa fn pr K := ⟨congrArg (fun z : AlX => z.1) c.eq⟩
theorem SaysX.test (c : SaysX fa fn pr bs K) (i : Nat) {b : PySem.W.Frag → Bool} (h : bs[i]? = some b := by rfl) : b K = true := by
  have z : (bs.all fun b => b K) = true := congrArg (fun z : AlX => z.2) c.eq
  exact List.all_eq_true.mp z b (List.mem_of_getElem? h)
end
/-! tests of the head -/
/-- an own class asked by isinstance -/
def insB (K : PySem.W.Frag) (c : Str) : Bool := decide (PySem.W.findIn K (.ref (He.ga K c)) "__class__" = some (some (.builtin "object.__class__"))) &&
  (decide (PySem.W.specialIn K (.builtin "object.__class__") "__get__" = some (some (.builtin "getset_descriptor.__get__"))) && (decide (PySem.W.takesIn K (.builtin "object.__class__") = some true) &&
  (decide (PySem.W.mroIn K (He.ga K c) (.type "object") = some true) && PySem.W.selfFirst K (He.ga K c))))
structure InsK (K : PySem.W.Frag) (C : Addr) : Prop where
  ha : PySem.W.findIn K (.ref C) "__class__" = some (some (.builtin "object.__class__"))
  hn : PySem.W.specialIn K (.builtin "object.__class__") "__get__" = some (some (.builtin "getset_descriptor.__get__"))
  htk : PySem.W.takesIn K (.builtin "object.__class__") = some true
  hm : PySem.W.mroIn K C (.type "object") = some true
  sf : PySem.W.selfFirst K C = true
theorem insB_ok {K : PySem.W.Frag} {c : Str} (h : insB K c = true) : InsK K (He.ga K c) := by
  obtain ⟨h1, h⟩ := He.ba h
  obtain ⟨h2, h⟩ := He.ba h
  obtain ⟨h3, h⟩ := He.ba h
  obtain ⟨h4, h5⟩ := He.ba h
  exact ⟨of_decide_eq_true h1, of_decide_eq_true h2, of_decide_eq_true h3, of_decide_eq_true h4, h5⟩
theorem InsK.ty {K : PySem.W.Frag} {C : Addr} {H : Hp} {a dx : Addr} {fs : List (Str × V)} (i : InsK K C) (c : Cls K C) (h : H a = some (.ins C dx fs)) : TyX K H (.ref a) (.ref C) := .base (.ins h c i.ha i.hn i.htk i.hm)
/-- isinstance of a value of the type t against the own class c -/
def kitB1 (K : PySem.W.Frag) (t : Value) (c : Str) (b : Bool) : Bool := decide (PySem.W.kitOne K t (.ref (He.ga K c)) = some b)
/-- a global that is a built-in -/
def bltB (K : PySem.W.Frag) (x : Str) (id : String) : Bool := decide (PySem.W.nsIn K mainGlobals x = some (some (.builtin id)))
theorem bltB_ok {K : PySem.W.Frag} {h : Heap} {mg : Str → Option Value} {x : Str} {id : String} (X : K.In h) (G : h.Ns mainGlobals mg) (c : bltB K x id = true) : mg x = some (.builtin id) := PySem.W.mg_of X G (of_decide_eq_true c)
end Q
namespace Q
open PySem PySem.Spec PyProof.Rows L2
theorem k_ownEq {X : Cx} {K : PySem.W.Frag} {C : Addr} {k : Nat} {ps : List Str} {sp : Sp} (ek : X.K = K) (M : MCal X.prog X.w X.K X.mg X.base C "__eq__" k ps sp) (hr : Room k X.A) : OpR X (compareOp .Eq) (rOwnEq K C sp) := by subst ek; exact op_ownEq M hr
theorem k_revL {X : Cx} {K : PySem.W.Frag} {e : Expr} {te : TE} {k : Nat} {p1 p2 p3 pos : Pos} (ek : X.K = K) (he : PE X e te) : PE X (.Subscript e (.Slice none none (some (.UnaryOp .USub (.Constant (.int 1) k p1) p2)) p3) pos) (tRevL K te) := by subst ek; exact pe_revL he
section
variable {σ : L2.St} {H : Hp} {Q : VK} {K : PySem.W.Frag} {C : Addr} {sp : Sp}
theorem g_ownBin {a b dx dx2 : Addr} {fs fs2 : List (Str × V)} (h1 : H a = some (.ins C dx fs)) (h2 : H b = some (.ins C dx2 fs2)) (q : sp [.ref a, .ref b] H Q E0) : rOwnBin C sp (.ref a) (.ref b) H Q := ⟨a, dx, fs, b, dx2, fs2, rfl, rfl, h1, h2, q⟩
theorem g_ownEq {a dx : Addr} {fs : List (Str × V)} {y : V} {t : Value} (h1 : H a = some (.ins C dx fs)) (ty : TyX K H y t) (nf : PySem.W.notFirst K C t = true) (q : sp [.ref a, y] H Q E0) : rOwnEq K C sp (.ref a) y H Q := ⟨a, dx, fs, t, rfl, h1, ty, nf, q⟩
theorem g_ownUn {a dx : Addr} {fs : List (Str × V)} (h1 : H a = some (.ins C dx fs)) (q : sp [.ref a] H Q E0) : rOwnUn C sp (.ref a) H Q := ⟨a, dx, fs, rfl, h1, q⟩
theorem g_gcd {a b : Int} (q : Q (.int ((Nat.gcd a.natAbs b.natAbs : Nat) : Int)) H) : rGcd [.int a, .int b] H Q := ⟨a, b, rfl, q⟩
instance st_g_gcd {a b : Int} : Step (rGcd [.int a, .int b] H Q) (Q (.int ((Nat.gcd a.natAbs b.natAbs : Nat) : Int)) H) := ⟨fun z => g_gcd z⟩
/-- isinstance of anything against an own class -/
theorem g_isiC {x : V} {t : Value} {D : Addr} {b : Bool} (ty : TyX K H x t) (e : PySem.W.kitOne K t (.ref D) = some b) (q : Q (.bl b) H) : rIsi K [x, .ref D] H Q := ⟨x, .ref D, t, .ref D, b, rfl, .own D, ty, e, q⟩
end
end Q
-- step instances

set_option Elab.async false
set_option linter.all false
set_option maxRecDepth 100000
set_option maxHeartbeats 4000000
/-! what may raise: methods, own error classes without arguments, the suite -/
namespace Q
open PySem PySem.Spec PyProof.Rows L2
/-- what a caller needs of a method that may raise -/
structure MCalX (P : Program) (w : World) (K : PySem.W.Frag) (mg : Str → Option Value) (base : Heap) (C : Addr) (m : Str) (k : Nat) (ps : List Str) (sp : Sp) : Prop where
  ex : ∃ (f : Addr) (fd : FuncData), Meth K C m f ∧ FnOk P w K mg base (L2.CX P w) k f fd ps sp ∧ Binds K fd ps []
theorem mcalx_mk {P : Program} {w : World} {K : PySem.W.Frag} {mg : Str → Option Value} {base : Heap} {C : Addr} {m : Str} {x q : Str} {pa : Arguments} {bd : List Stmt} {sc : Scope} {dv : List V} {kw : List (Str × V)} {k : Nat} {ps : List Str} {sp : Sp} {f : Addr}
    (me : Meth K C m f) (h : ∃ (fd : FuncData), FunD K x q pa bd sc dv kw f fd)
    (ok : ∀ {f : Addr} {fd : FuncData}, FunD K x q pa bd sc dv kw f fd → FnOk P w K mg base (L2.CX P w) k f fd ps sp)
    (b : ∀ {f : Addr} {fd : FuncData}, FunD K x q pa bd sc dv kw f fd → Binds K fd ps []) : MCalX P w K mg base C m k ps sp := by
  obtain ⟨fd, F⟩ := h
  exact ⟨f, fd, me, ok F, b F⟩
def tMethX (C : Addr) (m : Str) (sp : Sp) (E : L2.St → XK) (ta : TE) (t : TA) : TE := fun σ H Q => ta σ H fun x H1 => ∃ a dx fs, x = .ref a ∧ H1 a = some (.ins C dx fs) ∧ fs.lookup m = none ∧ t σ H1 fun vs H2 => sp (x :: vs) H2 Q (E σ)
section
variable {X : Cx} {C : Addr} {m x : Str} {k : Nat} {ps : List Str} {sp : Sp} {o e : Expr} {es : List Expr} {ta : TE} {t : TA} {E : L2.St → XK} {p pos apos : Pos}
theorem pe_mcalX {pl : Sem Bool} (he : PE X o ta) (c : Cls X.K C) (M : MCalX X.prog X.w X.K X.mg X.base C m k ps sp) (hr : Room k X.A) (hx : ∀ σ, PassesAt (L2.CX X.prog X.w) X σ (E σ)) (ha : PA X (e :: es) t)
    (hst : starEach (e :: es) X.env = (false, eval e X.env) :: starEach es X.env := by rfl) (hpl : (backTo pos (starEach es X.env)).any (·.1) = false := by rfl)
    (ht : eval (.Call (.Attribute o m apos) (e :: es) [] pos) X.env = (do
      let ov ← eval o X.env
      standAt apos.atName
      let (f, first) ← holding [ov] (getMethod ov m pl)
      callWith pos f first (backTo pos (starEach (e :: es) X.env)) (backToKw pos (keywordEach [] X.env))) := by rfl) :
    PE X (.Call (.Attribute o m apos) (e :: es) [] pos) (tMethX C m sp E ta t) := by
  obtain ⟨f, fd, hm, F, hb⟩ := M.ex
  refine ⟨fun pins s σ H Q I h => ?_⟩
  refine PySem.W.methodCall_KW (pl := pl) (thn (he.run pins s σ H _ I h) fun u s1 ⟨y, H1, I1, rx, a, dx, fs, ex, ea, l, q⟩ => ?_) ht
  subst ex
  obtain rfl : u = Value.ref a := rx
  refine getmeth_ok I1 ea c hm l ?_
  refine PySem.W.callWith_K (first := [.ref a]) (h₀ := X.base) I.ok.mod.kin hm.kp (thn (ha.run pos pins s1 σ H1 _ I1 q) fun us s2 ⟨vs, H2, I2, r, q2⟩ => ⟨I2.kIn, ?_⟩) hst hpl
  exact run_fnS (us := .ref a :: us) (vs := .ref a :: vs) F hr hb (hx σ) I2 (.cons rfl r) q2
/-- X(), X an own exception class without own __init__ -/
theorem pmk_own0 {C : Addr} {bmB : List Value} {B newId initId : String} {x : Str} {p : Pos} (F : ExcBaseFacts B newId initId bmB) (q : PySem.W.excIn X.K C bmB newId = true) (gC : X.mg x = some (.ref C))
    (kC : PySem.W.keepIn X.K (.ref C) = true) (r : Raises X (.ref C)) (hg : Gl X x) (hdb : (x == ("__debug__" : Str)) = false := by decide) :
    PMk X (.Call (.Name x p) [] [] pos) (fun _ H Q => Q (.ref C) none H) := by
  intro pins s σ H Q I h
  refine wpAny_Call_Name_kw (ld_glob I hg gC ?_ hdb)
  refine PySem.W.callWith_K0 I.kIn kC ?_
  show wpAny _ _ (call (.ref C) []) _ _ _
  obtain ⟨bm, N, nm, qn, bs, hdct, sn, sub, ab, col, dd, k0, k1, k2, k3, k5, mN, hC, hN, hni, T⟩ := exc_obj I.kIn q
  refine wpAny_call_exc_subT F T hC hN hni (fun h' e hm => ?_) (Nat.zero_le _)
  exact mk_of I hm r h (I.hok.gone hm.new)
end
/-- facts of an own error class without own __init__, over ValueError -/
def excB (K : PySem.W.Frag) (c : Str) : Bool := PySem.W.excIn K (He.ga K c) He.veBase "ValueError.__new__" && (PySem.W.keepIn K (.ref (He.ga K c)) && (decide (PySem.W.subIn K (.ref (He.ga K c)) (.type "BaseException") = some true) &&
  (decide (PySem.W.typeIn K (.ref (He.ga K c)) = some (.type "type")) && (decide (PySem.W.exmOne K (.ref (He.ga K c)) (.ref (He.ga K c)) = some true) &&
  (decide (PySem.W.findIn K (.ref (He.ga K c)) "__getattribute__" = some (some (.builtin "BaseException.__getattribute__"))) && (decide (PySem.W.findIn K (.ref (He.ga K c)) "__getattr__" = some none) && (PySem.W.hasDictIn K (He.ga K c) &&
  (decide (PySem.W.findIn K (.ref (He.ga K c)) "__class__" = some (some (.builtin "object.__class__"))) && (decide (PySem.W.specialIn K (.builtin "object.__class__") "__get__" = some (some (.builtin "getset_descriptor.__get__"))) &&
  (decide (PySem.W.takesIn K (.builtin "object.__class__") = some true) && decide (PySem.W.mroIn K (He.ga K c) (.type "object") = some true)))))))))))
structure ExcK (K : PySem.W.Frag) (C : Addr) : Prop where
  xe : PySem.W.excIn K C He.veBase "ValueError.__new__" = true
  kp : PySem.W.keepIn K (.ref C) = true
  sb : PySem.W.subIn K (.ref C) (.type "BaseException") = some true
  ty : PySem.W.typeIn K (.ref C) = some (.type "type")
  me : PySem.W.exmOne K (.ref C) (.ref C) = some true
  cc : ExcC K C
theorem excB_ok {K : PySem.W.Frag} {c : Str} (h : excB K c = true) : ExcK K (He.ga K c) := by
  obtain ⟨h1, h⟩ := He.ba h
  obtain ⟨h2, h⟩ := He.ba h
  obtain ⟨h3, h⟩ := He.ba h
  obtain ⟨h4, h⟩ := He.ba h
  obtain ⟨h5, h⟩ := He.ba h
  obtain ⟨h6, h⟩ := He.ba h
  obtain ⟨h7, h⟩ := He.ba h
  obtain ⟨h8, h⟩ := He.ba h
  obtain ⟨h9, h⟩ := He.ba h
  obtain ⟨h10, h⟩ := He.ba h
  obtain ⟨h11, h12⟩ := He.ba h
  exact ⟨h1, h2, of_decide_eq_true h3, of_decide_eq_true h4, of_decide_eq_true h5, ⟨of_decide_eq_true h6, of_decide_eq_true h7, of_decide_eq_true h3, h8, of_decide_eq_true h9, of_decide_eq_true h10, of_decide_eq_true h11, of_decide_eq_true h12⟩⟩
end Q

set_option Elab.async false
set_option linter.all false
set_option maxRecDepth 100000
set_option maxHeartbeats 4000000
/-! small readings -/
namespace Q
open PySem PySem.Spec PyProof.Rows L2
theorem sm_putn {H H' : Hp} {p : Addr} {o : HO} (s : Same H H') (hp : H p = none) : Same H (L2.upd H' p o) := fun b u e => by
  rw [upd_ne (ne_of_none e hp)]
  exact s b u e
theorem log_pow {r k : Nat} (h : r < 2 ^ k) (h0 : 0 < k) (hk : k ≤ 1920) : (r : Int).natAbs.log2 < 1920 := Nat.lt_of_lt_of_le (PySem.Flt.log2_lt_of h0 h) hk
theorem log_small {r : Nat} (h : r < 10 ^ 9) : (r : Int).natAbs.log2 < 1920 := log_pow (k := 30) (Nat.lt_trans h (by decide)) (by decide) (by decide)
section
variable {σ : L2.St} {H : Hp} {Q : VK} {K : PySem.W.Frag}
def qAbs : List V → Hp → VK → Prop := fun xs H Q => ∃ i : Int, xs = [.int i] ∧ Q (.int ((i.natAbs : Nat) : Int)) H
theorem c_absN {X : Cx} : CallR X (.builtin "abs") qAbs := fun pins s σ H xs us Q I r ⟨i, e, q⟩ => call_abs pins s σ H xs us Q I r ⟨i, e, by
  rw [show (if i < 0 then -i else i) = ((i.natAbs : Nat) : Int) by split <;> omega]
  exact q⟩
theorem g_absN {i : Int} (q : Q (.int ((i.natAbs : Nat) : Int)) H) : qAbs [.int i] H Q := ⟨i, rfl, q⟩
instance st_g_absN {i : Int} : Step (qAbs [.int i] H Q) (Q (.int ((i.natAbs : Nat) : Int)) H) := ⟨fun z => g_absN z⟩
def RevR (K : PySem.W.Frag) (Q : VK) (x : V) (H1 : Hp) : Prop := ∃ a xs, x = .ref a ∧ SqL K H1 a xs ∧ ∀ p, H1 p = none → Q (.ref p) (upd H1 p (.lst xs.reverse))
theorem g_rev {te : TE} (h : te σ H (RevR K Q)) : tRevL K te σ H Q := h
instance st_g_rev {te : TE} : Step (tRevL K te σ H Q) (te σ H (RevR K Q)) := ⟨fun z => g_rev z⟩
theorem g_revR {a : Addr} {xs : List V} (h : SqL K H a xs) (q : ∀ p, H p = none → Q (.ref p) (upd H p (.lst xs.reverse))) : RevR K Q (.ref a) H := ⟨a, xs, rfl, h, q⟩
end
end Q
namespace Q
open PySem PySem.Spec PyProof.Rows L2
section
variable {H : Hp} {Q : VK} {K : PySem.W.Frag}
theorem g_isiO {a dx C D : Addr} {fs : List (Str × V)} {b : Bool} (h : H a = some (.ins C dx fs)) (i : InsK K C) (c : Cls K C) (e : PySem.W.kitOne K (.ref C) (.ref D) = some b) (q : Q (.bl b) H) : rIsi K [.ref a, .ref D] H Q := g_isiC (i.ty c h) e q
theorem g_isiB {x : V} {t : String} {D : Addr} {b : Bool} (ty : TyX K H x (.type t)) (e : PySem.W.kitOne K (.type t) (.ref D) = some b) (q : Q (.bl b) H) : rIsi K [x, .ref D] H Q := g_isiC ty e q
end
theorem mul_c {i j : Int} {k : Nat} (hi : i.natAbs < 2 ^ k) (hj : j.natAbs < 2 ^ k) (h0 : 0 < k) (h : k ≤ 500000) : CMulW i j := wide_mul hi hj h0 h0 (by omega)
theorem mul_lt {i j : Int} {a b : Nat} (ha : i.natAbs < 2 ^ a) (hb : j.natAbs < 2 ^ b) : (i * j).natAbs < 2 ^ (a + b) := wide_lt ha hb
theorem add_lt {i j : Int} {a : Nat} (ha : i.natAbs < 2 ^ a) (hb : j.natAbs < 2 ^ a) : (i + j).natAbs < 2 ^ (a + 1) := by
  rw [Nat.pow_succ]
  omega
theorem sub_lt' {i j : Int} {a : Nat} (ha : i.natAbs < 2 ^ a) (hb : j.natAbs < 2 ^ a) : (i - j).natAbs < 2 ^ (a + 1) := by
  rw [Nat.pow_succ]
  omega
theorem lt_pow {x a b : Nat} (h : x < 2 ^ a) (hab : a ≤ b) : x < 2 ^ b := Nat.lt_of_lt_of_le h (Nat.pow_le_pow_right (by decide) hab)
end Q
-- step instances

set_option Elab.async false
set_option linter.all false
set_option maxRecDepth 100000
set_option maxHeartbeats 4000000
/-! != of own objects that have an own == -/
namespace PySem.W
open PySem PySem.Calls PyProof.Rows Builtin
theorem ne_bind (self : Value) : bindSpecial (.builtin "object.__ne__") self = pure (.builtin "object.__ne__", [self]) :=
  (Slot.of (T := "object") (name := "__ne__") (owner := "object") (n := "__ne__") (by rw [typeLookup_type, builtinLookup_eq_fast]; kernel_rfl) (by decide +kernel) (by decide +kernel) (by decide +kernel)
    (.inl (by decide +kernel)) (by rw [isSubtype_type]; kernel_rfl)).bind self
section
variable {prog : Program} {w : World} {A : Around} {E : Value → Shared → Prop} {s : Shared} {K : Frag} {x C L f : Addr} {h₀ : Heap} {m : Str → Option Value} {ox : Obj} {od : Option Obj} {b tb : Value}
theorem ifBound_ne {M : Model} {args : List Value} {Q : Option Value → Shared → Prop} (X : K.In s.heap) (I : InstAt s.heap x ox C od) (hs : findIn K (.ref C) "__ne__" = some (some (.builtin "object.__ne__")))
    (h : wpAny M A (call (.builtin "object.__ne__") (.ref x :: args)) (fun v => Q (some v)) E s) : wpAny M A (callSpecialIfBound? (.ref x) "__ne__" args) Q E s := by
  simp only [callSpecialIfBound?, bindSpecialIfBound?]
  refine wpAny_holding (wpAny_bind (wpAny_bind (wpAny_bind (I.type.here ((looks_findIn X hs).here ?_)))))
  refine wpAny_bind (wpAny_askSetting (wpAny_ite ?_))
  have fin : wpAny M A (call (.builtin "object.__ne__") ([.ref x] ++ args) >>= fun v => pure (some v)) Q E s := wpAny_bind (wpAny_mono h (fun v s' h' => wpAny_pure h') fun _ _ h' => h')
  split
  · exact wpAny_bind ((Looks.of_pure (ne_bind _)).here (wpAny_pure (by exact fin)))
  · exact wpAny_tryCatch (wpAny_bind ((Looks.of_pure (ne_bind _)).here (wpAny_pure (by exact fin))))
theorem entry_ne (X : K.In s.heap) (I : InstAt s.heap x ox C od) (hu : A.units < cLine) (hs : findIn K (.ref C) "__eq__" = some (some (.ref f))) (hf : isFn K (.ref f) = true) {Q : Fin → Shared → Prop}
    (hcall : wpAny (model prog w) A (call (.ref f) [.ref x, b]) (fun v s' => ∃ r, v = .bool r ∧ Q (.done (.ret (.bool (!r)))) s') E s) :
    wpAny (model prog w) A (Builtin.«object.__ne__» ⟨[.ref x, b], []⟩) Q E s := by
  unfold Builtin.«object.__ne__»
  refine wpAny_bind (wpAny_of_eq (a := ((Value.ref x : Value), [b])) (by first | rfl | (simp only [slotArgs]; rfl)) ?_)
  refine wpAny_bind (wpAny_cRoomFor hu ?_)
  refine wpAny_bind (m := callSpecialIfBound? (.ref x) (Str.ofString "__eq__") [b]) (ifBound_K X I hs hf (wpAny_mono hcall (fun r s' hr => ?_) fun _ _ e => e))
  obtain ⟨r, rfl, hq⟩ := hr
  show wpAny _ _ (do
    let b ← truthy (Value.bool r)
    ret (Value.bool !b)) _ _ _
  exact wpAny_bind (wpAny_truthy_bool (wpAny_pure hq))
theorem ne_K {Q : Value → Shared → Prop} (hu : A.units + 1 < cLine) (F : Fr h₀ L s.heap m) (X₀ : K.In h₀) (I : InstAt s.heap x ox C od) (hb : Looks (model prog w) s.heap (typeOf b) tb) (hn : notFirst K C tb = true)
    (hne : findIn K (.ref C) "__ne__" = some (some (.builtin "object.__ne__"))) (hob : subIn K (.ref C) (.type "object") = some true) (hs : findIn K (.ref C) "__eq__" = some (some (.ref f))) (hf : isFn K (.ref f) = true)
    (h : wpAny (model prog w) A.in1 (call (.ref f) [.ref x, b]) (fun v s' => ∃ r, v = .bool r ∧ Q (.bool (!r)) s') E s) : wpAny (model prog w) A (richCompare .NotEq (.ref x) b) Q E s := by
  have X := X₀.keeps F.keep
  have sub : Looks (model prog w) s.heap (isInstance (.ref x) (.type "object")) true := I.type.andThen (looks_subIn X hob)
  have one : wpAny (model prog w) A (tryCompare (.ref x) "__ne__" b) (fun r s' => ∃ v, r = some v ∧ Q v s') E s := by
    unfold tryCompare
    refine wpAny_bind (ifBound_ne X I hne (wpAny_call (codeAny_call_builtin (by decide +kernel) PySem.F.cmpEntry_ne (check_slot PySem.F.cmpKind_ne PySem.F.cmpSplit_ne sub (PySem.F.cmpArgs_ne _ _) ?_))))
    refine entry_ne (A := A.in1) X I hu hs hf (wpAny_mono h (fun v s' hv => ?_) fun _ _ e => e)
    obtain ⟨r, rfl, hq⟩ := hv
    exact ⟨r, rfl, wpAny_pure ⟨_, rfl, hq⟩⟩
  unfold richCompare
  simp only [oneThing_ref]
  refine wpAny_holding (wpAny_bind (wpAny_cRoomFor (Nat.lt_of_succ_lt hu) ?_))
  rw [cmpInfo_NotEq]
  dsimp only
  refine wpAny_bind (I.type.here (wpAny_bind (hb.here ?_)))
  split
  · rename_i q
    have e : subIn K tb (.ref C) = some false := by
      rcases Bool.or_eq_true_iff.mp hn with e | e
      · rw [beq_iff_eq.mp e] at q; simp at q
      · exact beq_iff_eq.mp e
    refine wpAny_bind ((looks_subIn X e).here ?_)
    simp only [Bool.false_eq_true, if_false]
    refine wpAny_bind (wpAny_mono one (fun r s' z => ?_) fun _ _ e => e)
    obtain ⟨v, rfl, hq⟩ := z
    exact wpAny_pure hq
  · refine wpAny_bind (wpAny_pure ?_)
    simp only [Bool.false_eq_true, if_false]
    refine wpAny_bind (wpAny_mono one (fun r s' z => ?_) fun _ _ e => e)
    obtain ⟨v, rfl, hq⟩ := z
    exact wpAny_pure hq
end
end PySem.W
namespace Q
open PySem PySem.Spec PyProof.Rows L2
section
variable {X : Cx} {C : Addr} {k : Nat} {ps : List Str} {sp : Sp}
def rOwnNe (K : PySem.W.Frag) (C : Addr) (sp : Sp) : R2 := fun x y H Q => ∃ a dx fs t, x = .ref a ∧ H a = some (.ins C dx fs) ∧ TyX K H y t ∧ PySem.W.notFirst K C t = true ∧ sp [.ref a, y] H (fun v H' => ∃ b : Bool, v = .bl b ∧ Q (.bl (!b)) H') E0
structure NeK (K : PySem.W.Frag) (C : Addr) : Prop where
  ne : PySem.W.findIn K (.ref C) "__ne__" = some (some (.builtin "object.__ne__"))
  ob : PySem.W.subIn K (.ref C) (.type "object") = some true
def neB (K : PySem.W.Frag) (c : Str) : Bool := decide (PySem.W.findIn K (.ref (He.ga K c)) "__ne__" = some (some (.builtin "object.__ne__"))) && decide (PySem.W.subIn K (.ref (He.ga K c)) (.type "object") = some true)
theorem neB_ok {K : PySem.W.Frag} {c : Str} (h : neB K c = true) : NeK K (He.ga K c) := by
  obtain ⟨h1, h2⟩ := He.ba h
  exact ⟨of_decide_eq_true h1, of_decide_eq_true h2⟩
theorem op_ownNe (n : NeK X.K C) (M : MCal X.prog X.w X.K X.mg X.base C "__eq__" k ps sp) (hr : Room (k + 1) X.A) : OpR X (compareOp .NotEq) (rOwnNe X.K C sp) := by
  intro pins s σ H x y v u Q I rx ry h
  obtain ⟨a, dx, fs, t, rfl, ha, ty, nf, hs⟩ := h
  cases rx
  obtain ⟨_, J, _⟩ := ins_get I.hok ha
  obtain ⟨od, J, _⟩ := J.look
  obtain ⟨mm, hF⟩ := I.fr
  obtain ⟨P, Z, p, hx⟩ := kit_of I ry ty
  obtain ⟨f, fd, hm, F, hb⟩ := M.ex
  refine PySem.W.ne_K (tb := t) hr.in1.units0 hF I.ok.mod.kin J (Z.ty _ _ I.kIn p) nf n.ne n.ob hm.at_ hm.fn ?_
  have e0 : Env0 X.prog X.w X.K X.mg X.base X.A.in1 X.stack s H := by
    have e := I.env0
    exact ⟨e.frames, e.mod, e.bs, e.bsz, e.funs, e.frf, e.hok, e.bare⟩
  have hl := F.len _ _ _ _ hs
  have bt := hb s [.ref a, u] I.kIn (by simpa using hl)
  rw [List.append_nil] at bt
  refine wpAny_call (codeAny_mono (F.run X.A.in1 X.stack s H ⟨[.ref a, u], []⟩ [.ref a, u] [.ref a, y] _ E0 hr.in1 e0 bt (.cons rfl (.cons ry .nil)) hs) fun res t hres => ?_)
  cases res with
  | error e => exact pass0 pins σ H s e t I hres
  | ok fl =>
    cases fl with
    | ret u =>
      obtain ⟨z, H', I', rz, b, ez, q⟩ := I.after hres
      subst ez
      cases rz
      exact ⟨b, rfl, .bl (!b), H', I', rfl, q⟩
    | next => exact False.elim hres
    | brk => exact False.elim hres
    | cont => exact False.elim hres
theorem k_ownNe {X : Cx} {K : PySem.W.Frag} {C : Addr} {k : Nat} {ps : List Str} {sp : Sp} (ek : X.K = K) (n : NeK K C) (M : MCal X.prog X.w X.K X.mg X.base C "__eq__" k ps sp) (hr : Room (k + 1) X.A) : OpR X (compareOp .NotEq) (rOwnNe K C sp) := by subst ek; exact op_ownNe n M hr
theorem g_ownNe {K : PySem.W.Frag} {H : Hp} {Q : VK} {a dx : Addr} {fs : List (Str × V)} {y : V} {t : Value} (h1 : H a = some (.ins C dx fs)) (ty : TyX K H y t) (nf : PySem.W.notFirst K C t = true) (q : sp [.ref a, y] H (fun v H' => ∃ b : Bool, v = .bl b ∧ Q (.bl (!b)) H') E0) : rOwnNe K C sp (.ref a) y H Q := ⟨a, dx, fs, t, rfl, h1, ty, nf, q⟩
end
end Q

set_option Elab.async false
set_option linter.all false
set_option maxRecDepth 100000
set_option maxHeartbeats 4000000
/-! own error classes over ValueError with an __init__ that keeps one argument -/
namespace Q
open PySem PySem.Spec PyProof.Rows L2
def oexS (C : Addr) : Option Obj → Bool
  | some { cls := .type "type", dict := _, data := .cls cd, slots := sl } => match cd.mro, sl.toList with
    | .ref C' :: bm, [_, _, _, _, some (.builtin n), _] => C' == C && n == "ValueError.__new__" && !cd.hasDel && cd.hasDict && HandSPX.refsVE bm
    | _, _ => false
  | _ => false
theorem oexS_ok {C : Addr} {o : Option Obj} (h : oexS C o = true) : ∃ nm q N bs bm sn sub ab col dd k0 k1 k2 k3 k5, o = some (excClassObj nm q C N bs bm true sn sub ab col dd k0 k1 k2 k3 k5 "ValueError.__new__") ∧ HandSPX.refsVE bm = true := by
  unfold oexS at h
  split at h
  · rename_i dict cd sl
    split at h
    · rename_i C' bm k0 k1 k2 k3 n k5 e1 e2
      simp only [Bool.and_eq_true, Bool.not_eq_true', beq_iff_eq] at h
      obtain ⟨⟨⟨⟨rfl, rfl⟩, h3⟩, h4⟩, h5⟩ := h
      obtain ⟨nm, bs, mro, N, q, hd, sn, sub, ab, col, del⟩ := cd
      obtain ⟨sl⟩ := sl
      dsimp only at e1 e2 h3 h4
      subst e1 e2 h3 h4
      exact ⟨nm, q, N, bs, bm, sn, sub, ab, col, dict, k0, k1, k2, k3, k5, rfl, h5⟩
    · exact absurd h Bool.false_ne_true
  · exact absurd h Bool.false_ne_true
/-- what is known of an own error class, of its __init__ at fI, its attribute f -/
structure OxK (K : PySem.W.Frag) (C fI : Addr) (f : Str) : Prop where
  ox : OexC K C
  xf : XfC K C
  ic : PySem.W.findIn K (.ref C) "__init__" = some (some (.ref fI))
  tc : PySem.W.typeIn K (.ref fI) = some (.type "function")
  no : PySem.W.findIn K (.ref C) f = some none
  ins : ExcC K C
def oxB (K : PySem.W.Frag) (C fI : Addr) (f : Str) : Bool :=
  oexS C (K.lookup C) && (decide (PySem.W.findIn K (.ref C) "__setattr__" = some (some (.builtin "object.__setattr__"))) && (decide (PySem.W.subIn K (.ref C) (.type "BaseException") = some true) && (decide (PySem.W.typeIn K (.ref C) = some (.type "type")) &&
  (PySem.W.keepIn K (.ref C) && (decide (PySem.W.findIn K (.ref C) "__getattribute__" = some (some (.builtin "BaseException.__getattribute__"))) && (decide (PySem.W.findIn K (.ref C) "__getattr__" = some none) && (PySem.W.hasDictIn K C &&
  (decide (PySem.W.findIn K (.ref C) "__init__" = some (some (.ref fI))) && (decide (PySem.W.typeIn K (.ref fI) = some (.type "function")) && (decide (PySem.W.findIn K (.ref C) f = some none) &&
  (decide (PySem.W.findIn K (.ref C) "__class__" = some (some (.builtin "object.__class__"))) && (decide (PySem.W.specialIn K (.builtin "object.__class__") "__get__" = some (some (.builtin "getset_descriptor.__get__"))) &&
  (decide (PySem.W.takesIn K (.builtin "object.__class__") = some true) && decide (PySem.W.mroIn K C (.type "object") = some true))))))))))))))
theorem oxB_ok {K : PySem.W.Frag} {C fI : Addr} {f : Str} (h : oxB K C fI f = true) : OxK K C fI f := by
  obtain ⟨h1, h⟩ := He.ba h
  obtain ⟨h2, h⟩ := He.ba h
  obtain ⟨h3, h⟩ := He.ba h
  obtain ⟨h4, h⟩ := He.ba h
  obtain ⟨h5, h⟩ := He.ba h
  obtain ⟨h6, h⟩ := He.ba h
  obtain ⟨h7, h⟩ := He.ba h
  obtain ⟨h8, h⟩ := He.ba h
  obtain ⟨h9, h⟩ := He.ba h
  obtain ⟨h10, h⟩ := He.ba h
  obtain ⟨h11, h⟩ := He.ba h
  obtain ⟨h12, h⟩ := He.ba h
  obtain ⟨h13, h⟩ := He.ba h
  obtain ⟨h14, h15⟩ := He.ba h
  exact ⟨⟨oexS_ok h1, of_decide_eq_true h2, of_decide_eq_true h3, of_decide_eq_true h4, h5⟩, ⟨of_decide_eq_true h6, of_decide_eq_true h7, of_decide_eq_true h3, h8⟩, of_decide_eq_true h9, of_decide_eq_true h10, of_decide_eq_true h11,
    ⟨of_decide_eq_true h6, of_decide_eq_true h7, of_decide_eq_true h3, h8, of_decide_eq_true h12, of_decide_eq_true h13, of_decide_eq_true h14, of_decide_eq_true h15⟩⟩
/-- the promise of such an __init__ -/
def spExI (C : Addr) (f : Str) : Sp := fun vs H Q _ => ∃ (a : Addr) (y : V), vs = [.ref a, y] ∧ H a = some (exo a C none) ∧ ∀ dx, H dx = none → dx ≠ a → Q .non (upd (upd H dx (exd dx [(f, y)])) a (exo a C (some dx)))
/-- what the raising of such an error asks -/
theorem g_mkO {C : Addr} {f : Str} {ta : TA} {σ : L2.St} {H : Hp} {Q : XK} (h : ta σ H fun vs H1 => ∃ y, vs = [y] ∧ ∀ d, H1 d = none → Q (.ref C) (some d) (upd H1 d (.xd [(f, y)]))) (mono : ∀ {A B : List V → Hp → Prop}, (∀ vs H1, A vs H1 → B vs H1) → ta σ H A → ta σ H B) : tMkO C (spExI C f) [] ta σ H Q := by
  refine mono (fun vs H1 z => ?_) h
  obtain ⟨y, rfl, k⟩ := z
  refine ⟨by show 1 ≤ 1000; decide, fun a ha => ⟨a, y, rfl, upd_same, fun dx hd n => ⟨rfl, dx, [(f, y)], upd_same, ?_, ?_, ?_⟩⟩⟩
  · rw [upd_ne n, upd_same]
  · rwa [upd_ne n] at hd
  · rw [upd_ne n] at hd
    have e : upd (del (upd (upd (upd H1 a (exo a C none)) dx (exd dx [(f, y)])) a (exo a C (some dx))) a) dx (.xd [(f, y)]) = upd H1 dx (.xd [(f, y)]) := by
      funext b
      by_cases h1 : b = dx
      · rw [h1, upd_same, upd_same]
      · rw [upd_ne h1, upd_ne h1]
        by_cases h2 : b = a
        · rw [h2, ha]; simp [del]
        · show (if b = a then none else _) = _
          rw [if_neg h2, upd_ne h2, upd_ne h1, upd_ne h2]
    rw [e]
    exact k dx hd
/-- what a def needs that raises such an error -/
structure ExcM (P : Program) (w : World) (K : PySem.W.Frag) (mg : Str → Option Value) (base : Heap) (C : Addr) (f : Str) (k : Nat) : Prop where
  ex : ∃ (fI : Addr) (fd : FuncData) (ps : List Str), OxK K C fI f ∧ FnOk P w K mg base CX0 k fI fd ps (spExI C f) ∧ Binds K fd ps []
theorem excm_mk {P : Program} {w : World} {K : PySem.W.Frag} {mg : Str → Option Value} {base : Heap} {C fI : Addr} {f : Str} {x q : Str} {pa : Arguments} {bd : List Stmt} {sc : Scope} {dv : List V} {kw : List (Str × V)} {k : Nat} {ps : List Str}
    (ox : OxK K C fI f) (h : ∃ (fd : FuncData), FunD K x q pa bd sc dv kw fI fd) (ok : ∀ {f' : Addr} {fd : FuncData}, FunD K x q pa bd sc dv kw f' fd → FnOk P w K mg base CX0 k f' fd ps (spExI C f))
    (b : ∀ {f' : Addr} {fd : FuncData}, FunD K x q pa bd sc dv kw f' fd → Binds K fd ps []) : ExcM P w K mg base C f k := by
  obtain ⟨fd, F⟩ := h
  exact ⟨fI, fd, ps, ox, ok F, b F⟩
theorem pmk_ox {X : Cx} {C : Addr} {f x : Str} {k : Nat} {e : Expr} {es : List Expr} {ta : TA} {p pos : Pos} (M : ExcM X.prog X.w X.K X.mg X.base C f k) (hr : Room (k + 1) X.A) (hg : Gl X x) (hm : X.mg x = some (.ref C)) (ha : PA X (e :: es) ta)
    (hdb : (x == ("__debug__" : Str)) = false := by decide) (hst : starEach (e :: es) X.env = (false, eval e X.env) :: starEach es X.env := by rfl) (hpl : ((backTo pos (starEach es X.env)).any fun x => x.fst) = false := by rfl) :
    PMk X (.Call (.Name x p) (e :: es) [] pos) (tMkO C (spExI C f) [] ta) := by
  obtain ⟨fI, fd, ps, ox, F, hb⟩ := M.ex
  exact pmk_oex ox.ox ox.ic ox.tc F hr hb .nil pass0 hg hm ha hdb hst hpl
end Q

set_option Elab.async false
set_option linter.all false
set_option maxRecDepth 100000
set_option maxHeartbeats 4000000
/-! objects made where the __init__ may raise -/
namespace Q
open PySem PySem.Spec PyProof.Rows L2
theorem run_makeKS {X : Cx} {CX : CXT} {k n : Nat} {f C : Addr} {fd : FuncData} {ps ks : List Str} {sp : Sp} {E : XK} {g : List Value → List Value → List Value} {gV : List V → List V → List V} {pins : List (Addr × Obj)} {σ : L2.St} {H : Hp} {s : Shared} {Q : VK} {us ws : List Value} {vs zs : List V}
    (M : Mk X.K C f) (F : FnOk X.prog X.w X.K X.mg X.base CX k f fd ps sp) (hr : Room (k + 1) X.A) (hb : KBn X.K fd ps (n + 1) ks g gV) (hx : PassesAt CX X σ E) (I : L2.Inv X pins σ H s) (r : Vals vs us) (rz : Vals zs ws) (l1 : vs.length = n) (l2 : zs.length = ks.length)
    (h : ∀ (x dx : Addr), H x = none → H dx = none → dx ≠ x → sp (gV (V.ref x :: vs) zs) (upd (upd H dx (HO.own x)) x (HO.ins C dx [])) (fun v H2 => v = V.non ∧ Q (V.ref x) H2) E) :
    wpAny (model X.prog X.w) X.A (call (Value.ref C) us (ks.zip ws)) (EP X pins σ Q) X.xe s := by
  have hq := h (s.heap.objs.size + 1) s.heap.objs.size (HOk.fresh I.hok (Nat.le_succ s.heap.objs.size)) (HOk.fresh I.hok (Nat.le_refl s.heap.objs.size)) (Nat.ne_of_lt (Nat.lt_succ_self s.heap.objs.size))
  have I2 := Inv.made (C := C) I
  have r1 : Vals (V.ref (s.heap.objs.size + 1) :: vs) (Value.ref (s.heap.objs.size + 1) :: us) := .cons rfl r
  have r2 := hb.rel r1 rz
  have n1 : (Value.ref (s.heap.objs.size + 1) :: us).length = n + 1 := by rw [List.length_cons, ← r.length, l1]
  refine wpAny_call (make_map (Inv.kIn I) M.makes M.init (beq_iff_eq.mp M.fn) (codeAny_mono (F.run (X.A.under (Code.builtin "type.__call__" { pos := Value.ref C :: us, kw := ks.zip ws })) X.stack _ _ { pos := Value.ref (s.heap.objs.size + 1) :: us, kw := ks.zip ws } (g (Value.ref (s.heap.objs.size + 1) :: us) ws) (gV (V.ref (s.heap.objs.size + 1) :: vs) zs)
    (fun v H2 => v = V.non ∧ Q (V.ref (s.heap.objs.size + 1)) H2) E (Room.make hr C us (ks.zip ws)) (Env0.make (Inv.env0 I2) C us (ks.zip ws)) (hb.to _ (Value.ref (s.heap.objs.size + 1) :: us) ws (Inv.kIn I2) n1 ((rz.length).symm.trans l2)) r2 hq) fun res s' hq' => ?_))
  cases res with
  | error e => exact hx pins _ _ e s' I2 hq'
  | ok fl =>
    cases fl with
    | ret u =>
      obtain ⟨v, H', I3, rv, ev, q3⟩ := Inv.after I2 hq'
      subst ev
      exact ⟨rv, V.ref (s.heap.objs.size + 1), H', I3, rfl, q3⟩
    | next => exact False.elim hq'
    | brk => exact False.elim hq'
    | cont => exact False.elim hq'
def tMakeKS (C : Addr) (n m : Nat) (sp : Sp) (gV : List V → List V → List V) (E : L2.St → XK) (t tk : TA) : TE := fun σ H Q => t σ H fun vs H1 => tk σ H1 fun zs H2 => vs.length = n ∧ zs.length = m ∧
  ∀ (x dx : Addr), H2 x = none → H2 dx = none → dx ≠ x → sp (gV (V.ref x :: vs) zs) (upd (upd H2 dx (HO.own x)) x (HO.ins C dx [])) (fun v H3 => v = V.non ∧ Q (V.ref x) H3) (E σ)
/-- what a caller needs of a class whose __init__ may raise -/
structure MkKX (CX : CXT) (P : Program) (w : World) (K : PySem.W.Frag) (mg : Str → Option Value) (base : Heap) (C : Addr) (k n : Nat) (ks : List Str) (gV : List V → List V → List V) (sp : Sp) : Prop where
  ex : ∃ (f : Addr) (fd : FuncData) (ps : List Str) (g : List Value → List Value → List Value), Mk K C f ∧ FnOk P w K mg base CX k f fd ps sp ∧ KBn K fd ps (n + 1) ks g gV
theorem pe_mkkX {X : Cx} {CX : CXT} {k n : Nat} {C : Addr} {ks : List Str} {sp : Sp} {E : L2.St → XK} {x : Str} {p pos : Pos} {e : Expr} {es : List Expr} {kws : List Keyword} {t tk : TA} {gV : List V → List V → List V}
    (hm : X.mg x = some (.ref C)) (M : MkKX CX X.prog X.w X.K X.mg X.base C k n ks gV sp) (hr : Room (k + 1) X.A) (hx : ∀ σ, PassesAt CX X σ (E σ)) (hg : Gl X x) (ha : PA X (e :: es) t) (hkw : PK X kws tk)
    (some_ : (backToKw pos (keywordEach kws X.env)).all (·.1.isSome) = true := by rfl) (names : (backToKw pos (keywordEach kws X.env)).filterMap (·.1) = ks := by rfl)
    (dbg : (x == ("__debug__" : Str)) = false := by decide) (st : starEach (e :: es) X.env = (false, eval e X.env) :: starEach es X.env := by rfl)
    (nost : ((backTo pos (starEach (e :: es) X.env)).any (·.1) || (backToKw pos (keywordEach kws X.env)).any (·.1.isNone)) = false := by rfl) :
    PE X (.Call (.Name x p) (e :: es) kws pos) (tMakeKS C n ks.length sp gV E t tk) := by
  obtain ⟨f, fd, ps, g, hmk, F, hb⟩ := M.ex
  refine ⟨fun pins s σ H Q I h => wpAny_Call_Name_kw (ld_glob I hg hm (PySem.W.callWith_KW I.ok.mod.kin hmk.kp some_ (thn (ha.run pos pins s σ H _ I h) fun us s1 z => ?_) nost st) dbg)⟩
  obtain ⟨vs, H1, I1, r, q⟩ := z
  refine thn (hkw.run pos pins s1 σ H1 _ I1 q) fun ws s2 z => ?_
  obtain ⟨zs, H2, I2, rz, l1, l2, q2⟩ := z
  refine ⟨Inv.kIn I2, ?_⟩
  rw [names]
  exact run_makeKS hmk F hr hb (hx σ) I2 r rz l1 l2 q2
theorem pe_mkkX0 {X : Cx} {CX : CXT} {k : Nat} {C : Addr} {ks : List Str} {sp : Sp} {E : L2.St → XK} {x : Str} {p pos : Pos} {kws : List Keyword} {tk : TA} {gV : List V → List V → List V}
    (hm : X.mg x = some (.ref C)) (M : MkKX CX X.prog X.w X.K X.mg X.base C k 0 ks gV sp) (hr : Room (k + 1) X.A) (hx : ∀ σ, PassesAt CX X σ (E σ)) (hg : Gl X x) (hkw : PK X kws tk)
    (some_ : (backToKw pos (keywordEach kws X.env)).all (·.1.isSome) = true := by rfl) (names : (backToKw pos (keywordEach kws X.env)).filterMap (·.1) = ks := by rfl)
    (dbg : (x == ("__debug__" : Str)) = false := by decide)
    (nost : ((backTo pos (starEach [] X.env)).any (·.1) || (backToKw pos (keywordEach kws X.env)).any (·.1.isNone)) = false := by rfl) :
    PE X (.Call (.Name x p) [] kws pos) (tMakeKS C 0 ks.length sp gV E tNil tk) := by
  obtain ⟨f, fd, ps, g, hmk, F, hb⟩ := M.ex
  refine ⟨fun pins s σ H Q I h => wpAny_Call_Name_kw (ld_glob I hg hm (PySem.W.callWith_KW0 (first := []) I.ok.mod.kin hmk.kp some_ (thn (hkw.run pos pins s σ H _ I h) fun ws s2 z => ?_) nost) dbg)⟩
  obtain ⟨zs, H2, I2, rz, l1, l2, q2⟩ := z
  refine ⟨Inv.kIn I2, ?_⟩
  rw [names]
  exact run_makeKS hmk F hr hb (hx σ) I2 .nil rz l1 l2 q2
theorem mkkx_mk {CX : CXT} {P : Program} {w : World} {K : PySem.W.Frag} {mg : Str → Option Value} {base : Heap} {C : Addr} {x q : Str} {pa : Arguments} {bd : List Stmt} {sc : Scope} {dv : List V} {kw : List (Str × V)} {k n : Nat} {ks ps : List Str} {gV : List V → List V → List V} {sp : Sp} {f : Addr}
    (mk : Mk K C f) (h : ∃ (fd : FuncData), FunD K x q pa bd sc dv kw f fd) (ok : ∀ {f : Addr} {fd : FuncData}, FunD K x q pa bd sc dv kw f fd → FnOk P w K mg base CX k f fd ps sp)
    (b : ∀ {f : Addr} {fd : FuncData}, FunD K x q pa bd sc dv kw f fd → ∃ g, KBn K fd ps (n + 1) ks g gV) : MkKX CX P w K mg base C k n ks gV sp := by
  obtain ⟨fd, F⟩ := h
  obtain ⟨g, hb⟩ := b F
  exact ⟨f, fd, ps, g, mk, ok F, hb⟩
end Q

set_option Elab.async false
set_option linter.all false
set_option maxRecDepth 100000
set_option maxHeartbeats 4000000
/-! calls where an exception is handled, whatever its context: "warm" calls -/
namespace Q
open PySem PySem.Spec PyProof.Rows L2
/-- a promise that holds whether or not an exception is handled -/
structure FnC (P : Program) (w : World) (K : PySem.W.Frag) (mg : Str → Option Value) (base : Heap) (CX : CXT) (k : Nat) (f : Addr) (fd : FuncData) (ps : List Str) (sp : Sp) : Prop where
  len : ∀ vs H Q E, sp vs H Q E → vs.length = ps.length
  run : ∀ (A : Around) (outer : List Env) (s : Shared) (H : Hp) (args : Args) (us : List Value) (vs : List V) (Q : VK) (E : XK), L2H.RoomH k A → Env0 P w K mg base A outer s H → BindsTo s fd args (ps.zip us) → Vals vs us → sp vs H Q E → codeAny (model P w) A (.call (.ref f) args) (CR CX outer P w H s Q E) s
abbrev cxC (CX : CXT) (P : Program) (w : World) (K : PySem.W.Frag) (mg : Str → Option Value) (base : Heap) (N : List Str) (qual : Str) (scope : Scope) (f : Addr) (cd : Value) (A : Around) (outer : List Env) (s : Shared) (H : Hp) (E : XK) : Cx := { cxOf CX P w K mg base N qual scope f cd A outer s H E with calm := false }
theorem env0_mark {P : Program} {w : World} {K : PySem.W.Frag} {mg : Str → Option Value} {base : Heap} {A : Around} {outer : List Env} {s : Shared} {H : Hp} (e : Env0 P w K mg base A outer s H) : Env0 P w K mg base { A with handled := none } outer s H := ⟨e.frames, e.mod, e.bs, e.bsz, e.funs, e.frf, e.hok, e.bare⟩
theorem FunD.okC {CX : CXT} {P : Program} {w : World} {K : PySem.W.Frag} {mg : Str → Option Value} {base : Heap} {x qual : Str} {params : Arguments} {body : List Stmt} {scope : Scope} {dvs : List V} {kws : List (Str × V)} {f : Addr} {fd : FuncData} {N ps : List Str} {k : Nat} {sp : Sp}
    (F : FunD K x qual params body scope dvs kws f fd) (S : FnScope N ps scope) (len : ∀ vs H Q E, sp vs H Q E → vs.length = ps.length)
    (walk : ∀ (cdv : Value) (A : Around) (outer : List Env) (s : Shared) (H : Hp) (vs : List V) (Q : VK) (E : XK), L2H.RoomH k (A.deeper (envOfC qual scope s.heap.objs.size f cdv)) → sp vs H Q E →
      ∃ t, PSs (cxC CX P w K mg base N qual scope f cdv A outer s H E) body t ∧ t { nx := fun _ H' => Q .non H', rt := Q } (L2.start N vs) H) : FnC P w K mg base CX (k + 1) f fd ps sp := by
  obtain ⟨oc, od, dV, kV, doc, pm, an, cdv, ct, osl, rfl, lk, hcd, _, _⟩ := F.ex
  refine ⟨len, ?_⟩
  intro A outer s H args us vs Q E room e0 bnd rel wish
  have Kin : K.In s.heap := e0.mod.kin.keeps fun b o z => (e0.bs b o z).1
  have kinds : ∀ y ∈ ps.zip us, scope.names.lookup y.1 = some .local ∨ (scope.names.lookup y.1 = some .cell ∧ ((cellsFrom (s.heap.objs.size + 1) scope.names []).lookup y.1).isSome = true) := by
    rintro ⟨n, v⟩ hy
    exact (S.par n (List.of_mem_zip hy).1).elim .inl fun q => .inr ⟨q, PySem.W.cellsFrom_some _ _ _ (.inl q)⟩
  have dp : A.depth < recursionLimit := room.depth
  refine codeAny_call_function dp (Kin _ _ lk) rfl S.co S.gen rfl (PySem.W.codeRec_of Kin hcd) (bnd _ _ _ _ (wpAny_newFunctionEnv_cells S.kind kinds fun env he s1 ic => ?_))
  subst he
  refine ⟨(e0.mod.nolimit.keeps fun b o z => (e0.bs b o z).1).keeps ic.toInCall.keep, codeAny_func ?_⟩
  obtain ⟨t, ht, hq⟩ := walk cdv A outer s H vs Q E (room.deeper _) wish
  have I0 := inv_start (CX := CX) (A := { A with handled := none }) (E := E) S rfl (env0_mark e0) (len _ _ _ _ wish) rel ic
  have I : Inv (cxC CX P w K mg base N qual scope f cdv A outer s H E) [] (L2.start N vs) H s1 :=
    ⟨⟨I0.ok.mod, I0.ok.kind, I0.ok.glob, I0.ok.blt, I0.ok.above, I0.ok.inj, I0.ok.has, I0.ok.cab, fun z => Bool.noConfusion (show false = true from z), I0.ok.frames, I0.ok.stk, I0.ok.exf, I0.ok.bs, I0.ok.bsz, I0.ok.noex, I0.ok.exfs, I0.ok.funs, I0.ok.frf⟩,
      I0.os, I0.bare, I0.base, I0.loc, I0.cell, I0.free, I0.freeC, I0.pin, I0.hok, I0.len⟩
  refine wpAny_mono (ht.run [] s1 (L2.start N vs) H _ I hq) (fun fl s' hs => ?_) fun e s' hs => hs
  cases fl with
  | ret u =>
    obtain ⟨v, σ', H', J, rv, q⟩ := hs
    exact ⟨v, H', J.os, J.bare, J.base, J.hok, rv, q⟩
  | next =>
    obtain ⟨σ', H', J, q⟩ := hs
    exact ⟨V.non, H', J.os, J.bare, J.base, J.hok, rfl, q⟩
  | brk => exact hs.choose_spec.choose_spec.2.elim
  | cont => exact hs.choose_spec.choose_spec.2.elim
/-- what a caller in a suite needs of a def without defaults -/
structure CalW (P : Program) (w : World) (K : PySem.W.Frag) (mg : Str → Option Value) (base : Heap) (x : Str) (k : Nat) (ps : List Str) (sp : Sp) : Prop where
  ex : ∃ (f : Addr) (fd : FuncData), FnC P w K mg base CX0 k f fd ps sp ∧ mg x = some (.ref f) ∧ PySem.W.keepIn K (.ref f) = true ∧ Binds K fd ps []
theorem calw_mk {P : Program} {w : World} {K : PySem.W.Frag} {mg : Str → Option Value} {base : Heap} {x q : Str} {pa : Arguments} {bd : List Stmt} {sc : Scope} {dv : List V} {kw : List (Str × V)} {k : Nat} {ps : List Str} {sp : Sp}
    (h : ∃ (f : Addr) (fd : FuncData), FunD K x q pa bd sc dv kw f fd ∧ mg x = some (.ref f))
    (ok : ∀ {f : Addr} {fd : FuncData}, FunD K x q pa bd sc dv kw f fd → FnC P w K mg base CX0 k f fd ps sp)
    (b : ∀ {f : Addr} {fd : FuncData}, FunD K x q pa bd sc dv kw f fd → Binds K fd ps []) : CalW P w K mg base x k ps sp := by
  obtain ⟨f, fd, F, m⟩ := h
  exact ⟨f, fd, ok F, m, F.kp, b F⟩
section
variable {X : Cx} {x : Str} {k : Nat} {ps : List Str} {sp : Sp} {e : Expr} {es : List Expr} {t : TA} {p pos : Pos}
theorem run_fnC {f : Addr} {fd : FuncData} {pins : List (Addr × Obj)} {σ : L2.St} {H : Hp} {s : Shared} {Q : VK} {us : List Value} {vs : List V} (F : FnC X.prog X.w X.K X.mg X.base CX0 k f fd ps sp) (room : L2H.RoomH k X.A) (hb : Binds X.K fd ps [])
    (I : Inv X pins σ H s) (r : Vals vs us) (h : sp vs H Q E0) : wpAny (model X.prog X.w) X.A (call (.ref f) us) (EP X pins σ Q) X.xe s := by
  have bd : BindsTo s fd ⟨us, []⟩ (ps.zip us) := by
    have z := hb s us I.kIn (by rw [List.append_nil, ← r.length]; exact F.len _ _ _ _ h)
    rwa [List.append_nil] at z
  refine wpAny_call (codeAny_mono (F.run X.A X.stack s H ⟨us, []⟩ us vs Q E0 room I.env0 bd r h) fun res s' hq => ?_)
  cases res with
  | error er => exact pass0 pins σ H s er s' I hq
  | ok fl =>
    cases fl with
    | ret u => exact I.after hq
    | _ => exact hq.elim
theorem pe_calW (C : CalW X.prog X.w X.K X.mg X.base x k ps sp) (room : L2H.RoomH k X.A) (hg : Gl X x) (ha : PA X (e :: es) t)
    (hd : (x == ("__debug__" : Str)) = false := by decide) (he : starEach (e :: es) X.env = (false, eval e X.env) :: starEach es X.env := by rfl) (hl : (backTo pos (starEach es X.env)).any (·.1) = false := by rfl) :
    PE X (.Call (.Name x p) (e :: es) [] pos) (tCallS sp (fun _ => E0) t) := by
  obtain ⟨f, fd, F, hm, hk, hb⟩ := C.ex
  refine ⟨fun pins s σ H Q I h => wpAny_Call_Name_kw (ld_glob I hg hm ?_ hd)⟩
  refine PySem.W.callWith_K (h₀ := X.base) I.ok.mod.kin hk (thn (ha.run pos pins s σ H _ I h) fun us s1 z => ?_) he hl
  obtain ⟨vs, H1, I1, r, q⟩ := z
  exact ⟨I1.kIn, run_fnC F room hb I1 r q⟩
end
/-- the room of a suite -/
theorem roomS {k : Nat} {A : Around} (r : Room k A) (h : Option Value) : L2H.RoomH k (A.mark h) := ⟨r.dp, r.un⟩
end Q

set_option Elab.async false
set_option linter.all false
set_option maxRecDepth 100000
set_option maxHeartbeats 4000000
/-! isinstance of a caught own error that has attributes; own errors with an __init__ raised where nothing is handled, their context told -/
namespace Q
open PySem PySem.Spec PyProof.Rows L2
theorem kitx_exd {K : PySem.W.Frag} {a D : Addr} {oe : Obj} (C : ExcC K D) : PySem.W.KitX K (.ref a) (.ref D) (fun h => ∃ od, PySem.W.InstAt h a oe D od) where
  ty := fun _ _ _ ⟨_, I⟩ => I.type
  it := fun _ _ X _ => by
    obtain ⟨cd, hc, _⟩ := PySem.W.any_some C.hd
    unfold PySem.W.clsIn at hc
    split at hc
    · rename_i ho
      exact (PySem.W.Looks.ld (part := none) (X _ _ ho)).andThen .now
    · cases hc
  ne := fun h tp dd its n sl X htp => by
    obtain ⟨cd, hc, _⟩ := PySem.W.any_some C.hd
    cases e : (Value.ref D == Value.ref tp) with
    | false => rfl
    | true =>
      obtain rfl : D = tp := Value.ref.inj (beq_iff_eq.mp e)
      unfold PySem.W.clsIn at hc
      split at hc
      · rename_i ho
        cases (X _ _ ho).symm.trans htp
      · cases hc
  ca := fun X ⟨_, I⟩ k => by
    obtain ⟨cd, hc, _⟩ := PySem.W.any_some C.hd
    exact PySem.W.kx_classE X I C.hg C.hk C.hs (PySem.W.findObj_dataE (by rw [hc]; rfl) C.ha C.hn C.ht) C.hm k
/-- isinstance(e, c), e the caught error at a, of the class D, with a dict -/
def rIsD (K : PySem.W.Frag) (D a : Addr) (cls : Value) (d : Option Addr) : List V → Hp → VK → Prop := fun xs H Q => cls = .ref D ∧ ∃ (dd : Addr) (fs : List (Str × V)) (c : V) (cv : Value) (b : Bool), d = some dd ∧ H dd = some (.xd fs) ∧ xs = [.ref a, c] ∧ (∀ u, RelV c u → u = cv) ∧ PySem.W.kitOne K (.ref D) cv = some b ∧ Q (.bl b) H
theorem call_isD {X : Cx} {a D : Addr} {oe : Obj} {cls : Value} {d : Option Addr} {pn : List (Addr × Obj)} (C : ExcC X.K D) (hz : Zc cls d oe) (hf : ∃ vs, oe.data = .fields vs) : CallR (X.suite a ((a, oe) :: pn)) (.builtin "isinstance") (rIsD X.K D a cls d) := by
  intro pins s σ H xs us Q I r h
  obtain ⟨rfl, dd, fs, c, cv, b, rfl, hdd, rfl, hcv, e, q⟩ := h
  obtain ⟨u1, u2, rfl, r1, r2⟩ := vals2 r
  obtain rfl := hcv _ r2
  obtain rfl : u1 = Value.ref a := r1
  have at_ := (I.pin (a, oe) (List.mem_append.mpr (.inl List.mem_cons_self))).1
  obtain ⟨vs, hv⟩ := hf
  obtain ⟨mA, hns, _⟩ := I.hok dd _ hdd
  obtain ⟨od, ho, _⟩ := lookIn_ns hns
  have J : ∃ od, PySem.W.InstAt s.heap a oe D od := ⟨some od, at_, hz.1, by unfold PySem.W.notCls; rw [hv], by rw [hz.2]; exact ho⟩
  exact PySem.W.kia_one (kitx_exd C) I.kIn J e (fun z => nomatch z) fun tk => ⟨.bl b, H, I.kept (t' := tk) fun _ _ z => z, rfl, q⟩
theorem k_isD {X : Cx} {K : PySem.W.Frag} {a D : Addr} {oe : Obj} {cls : Value} {d : Option Addr} {pn : List (Addr × Obj)} (ek : X.K = K) (C : ExcC K D) (hz : Zc cls d oe) (hf : ∃ vs, oe.data = .fields vs) : CallR (X.suite a ((a, oe) :: pn)) (.builtin "isinstance") (rIsD K D a cls d) := by subst ek; exact call_isD C hz hf
theorem g_isD {K : PySem.W.Frag} {D a dd : Addr} {fs : List (Str × V)} {c : V} {cv : Value} {b : Bool} {H : Hp} {Q : VK} (h : H dd = some (.xd fs)) (hc : ∀ u, RelV c u → u = cv) (e : PySem.W.kitOne K (.ref D) cv = some b) (q : Q (.bl b) H) : rIsD K D a (.ref D) (some dd) [.ref a, c] H Q := ⟨rfl, dd, fs, c, cv, b, rfl, h, rfl, hc, e, q⟩
end Q

set_option Elab.async false
set_option linter.all false
set_option maxRecDepth 100000
set_option maxHeartbeats 4000000
/-! own errors with an __init__, made anywhere, by a warm promise of the __init__ -/
namespace Q
open PySem PySem.Spec PyProof.Rows L2
theorem pmkC {X : Cx} {C fI : Addr} {x : Str} {k : Nat} {e : Expr} {es : List Expr} {ta : TA} {p pos : Pos} {fd : FuncData} {ps : List Str} {sp : Sp} (ox : OexC X.K C) (ic : PySem.W.findIn X.K (.ref C) "__init__" = some (some (.ref fI))) (tc : PySem.W.typeIn X.K (.ref fI) = some (.type "function"))
    (F1 : FnC X.prog X.w X.K X.mg X.base CX0 k fI fd ps sp) (room : L2H.RoomH (k + 1) X.A) (hb : Binds X.K fd ps []) (hg : Gl X x) (hm : X.mg x = some (.ref C)) (ha : PA X (e :: es) ta)
    (hdb : (x == ("__debug__" : Str)) = false := by decide) (hst : starEach (e :: es) X.env = (false, eval e X.env) :: starEach es X.env := by rfl) (hpl : (backTo pos (starEach es X.env)).any (·.1) = false := by rfl) :
    L2H.PMk5 X (.Call (.Name x p) (e :: es) [] pos) (tMkO C sp [] ta) := by
  intro pins s σ H Q I h
  obtain ⟨nm, qn, N, bs, bm, sn, sub, ab, col, dd, k0, k1, k2, k3, k5, hC, hbm⟩ := ox.cls
  refine wpAny_Call_Name_kw (ld_glob I hg hm (PySem.W.callWith_K (h₀ := X.base) I.ok.mod.kin ox.kC (thn (ha.run pos pins s σ H _ I h) fun us s1 z => ?_) hst hpl) hdb)
  obtain ⟨vs, H1, I1, rel, lim, wish⟩ := z
  refine ⟨I1.kIn, ?_⟩
  obtain ⟨hp, gl, dr, tk, os⟩ := s1
  -- the new object's place, and the state with it
  let at_ : Addr := hp.objs.size + 1
  have up : hp.objs.size ≤ at_ := Nat.le_succ _
  have keep : ∀ b ob, hp.get? b = some ob → ((hp.push (PySem.W.kdv_tup us)).push (PySem.HandSPX.excO C hp.objs.size)).get? b = some ob := fun b ob z => Heap.get?_push_of_some _ (Heap.get?_push_of_some _ z)
  have here : ((hp.push (PySem.W.kdv_tup us)).push (PySem.HandSPX.excO C hp.objs.size)).get? (hp.objs.size + 1) = some (PySem.HandSPX.excO C hp.objs.size) := by heap_get
  have I2 := I1.laid (t' := tk) (a := hp.objs.size + 1) (o := exo (hp.objs.size + 1) C none) keep up (exo_ok here)
  have w1 := wish (hp.objs.size + 1) (I1.hok.fresh up)
  rw [List.append_nil] at w1
  have rel2 : Vals (V.ref (hp.objs.size + 1) :: vs) (Value.ref (hp.objs.size + 1) :: us) := .cons rfl rel
  have lus : us.length ≤ sizeLine := by have := rel.length; rw [sizeLine_eq]; omega
  have bd : BindsTo ⟨(hp.push (PySem.W.kdv_tup us)).push (PySem.HandSPX.excO C hp.objs.size), gl, dr, tk, os⟩ fd ⟨Value.ref (hp.objs.size + 1) :: us, []⟩ (ps.zip (Value.ref (hp.objs.size + 1) :: us)) := by
    have z := hb ⟨(hp.push (PySem.W.kdv_tup us)).push (PySem.HandSPX.excO C hp.objs.size), gl, dr, tk, os⟩ (Value.ref (hp.objs.size + 1) :: us) I2.kIn (by
      rw [List.append_nil, ← rel2.length]
      exact F1.len _ _ _ _ w1)
    rwa [List.append_nil] at z
  show wpAny _ _ (call (.ref C) us) _ _ _
  refine wpAny_call (PySem.HandSPX.call_own F.excBase_ValueError (fun Y => PySem.HandSPX.refsVE_contains Y bm hbm) (I1.kIn _ _ hC) (PySem.W.looks_findIn I1.kIn ic) (fun self => PySem.W.bind_fn I1.kIn self tc) lus (codeAny_mono
    (F1.run _ X.stack _ _ ⟨Value.ref (hp.objs.size + 1) :: us, []⟩ _ _ _ E0 (room.make C us []) (I2.env0.make C us []) bd rel2 w1) fun res s' hq => ?_))
  cases res with
  | error er => exact pass0 pins σ _ _ er s' I2 hq
  | ok fl =>
    cases fl with
    | ret u =>
      obtain ⟨v, H2, os2, bare2, un2, hok2, rv, ev, d, fs, ea, ed, hd1, q2⟩ := hq
      subst ev
      obtain ⟨h2, g2, d2, t2, os'⟩ := s'
      obtain ⟨t0, G, J, kG, ge, hoe, na⟩ := mk_end0 (d2 := d2) (t2 := t2) I1 up keep un2 hok2 os2 bare2 ea ed hd1
      have ctx : PXN.CtxN (PySem.HandSPX.excO C hp.objs.size) ∨ True := .inr trivial
      refine ⟨rv, ⟨hp.objs.size + 1, _, _, ⟨G, g2, d2, t2, os'⟩, _, .ref C, some d, rfl, J, kG, ge, hoe, ⟨rfl, rfl, fun ws hw => ?_⟩, rfl, rfl, na, rfl, bare2, raises_own ox.exC ox.tyC, q2⟩, ?_⟩
      · cases hw
        rfl
      · intro a oe ws ea2 hg2 hd2
        cases ea2
        cases hoe.symm.trans (show h2.get? (hp.objs.size + 1) = some oe from hg2)
        cases hd2
        exact (by decide : (4 : Nat) < 6)
    | _ => exact hq.elim
/-- what a def needs that raises an own error of one attribute, anywhere -/
structure ExcW (P : Program) (w : World) (K : PySem.W.Frag) (mg : Str → Option Value) (base : Heap) (C : Addr) (f : Str) (k : Nat) : Prop where
  ex : ∃ (fI : Addr) (fd : FuncData) (ps : List Str), OxK K C fI f ∧ FnC P w K mg base CX0 k fI fd ps (spExI C f) ∧ Binds K fd ps []
theorem excw_mk {P : Program} {w : World} {K : PySem.W.Frag} {mg : Str → Option Value} {base : Heap} {C fI : Addr} {f : Str} {x q : Str} {pa : Arguments} {bd : List Stmt} {sc : Scope} {dv : List V} {kw : List (Str × V)} {k : Nat} {ps : List Str}
    (ox : OxK K C fI f) (h : ∃ (fd : FuncData), FunD K x q pa bd sc dv kw fI fd) (ok : ∀ {f' : Addr} {fd : FuncData}, FunD K x q pa bd sc dv kw f' fd → FnC P w K mg base CX0 k f' fd ps (spExI C f))
    (b : ∀ {f' : Addr} {fd : FuncData}, FunD K x q pa bd sc dv kw f' fd → Binds K fd ps []) : ExcW P w K mg base C f k := by
  obtain ⟨fd, F⟩ := h
  exact ⟨fI, fd, ps, ox, ok F, b F⟩
theorem pmk_w {X : Cx} {C : Addr} {f x : Str} {k : Nat} {e : Expr} {es : List Expr} {ta : TA} {p pos : Pos} (M : ExcW X.prog X.w X.K X.mg X.base C f k) (room : L2H.RoomH (k + 1) X.A) (hg : Gl X x) (hm : X.mg x = some (.ref C)) (ha : PA X (e :: es) ta)
    (hdb : (x == ("__debug__" : Str)) = false := by decide) (hst : starEach (e :: es) X.env = (false, eval e X.env) :: starEach es X.env := by rfl) (hpl : (backTo pos (starEach es X.env)).any (·.1) = false := by rfl) :
    L2H.PMk5 X (.Call (.Name x p) (e :: es) [] pos) (tMkO C (spExI C f) [] ta) := by
  obtain ⟨fI, fd, ps, ox, F1, hb⟩ := M.ex
  exact pmkC ox.ox ox.ic ox.tc F1 room hb hg hm ha hdb hst hpl
/-- raise X(e) where nothing is handled -/
theorem ps_raiseN {X : Cx} {W : WX} {e : Expr} {t : L2.St → Hp → XK → Prop} {pos : Pos} (hc : X.calm = true) (tk : L2N.Takes X W) (he : L2H.PMk5 X e t) : PS X (.Raise (some e) none pos) (fun _ σ H => t σ H fun cls d H' => W cls d σ H') := L2N.ps_raise hc tk he.pmk
theorem roomW {k : Nat} {A : Around} (r : Room k A) : L2H.RoomH k A := ⟨r.dp, r.un⟩
/-- what is known of the context may be forgotten -/
theorem cxn_cx {P : Program} {w : World} {outer : List Env} {H : Hp} {s : Shared} {E : XK} {u : Value} {s' : Shared} (h : L2N.CX P w outer H s E u s') : L2.CX P w outer H s E u s' := by
  obtain ⟨a, B, H', cls, d, e, fl, r⟩ := h
  exact ⟨a, B, H', cls, d, e, L2H.flyingZ_imp (fun o z => z.zc) fl, r⟩
theorem passAtN {X : Cx} {W : WX} (tk : L2.Takes X W) (σ : L2.St) : PassesAt (L2N.CX X.prog X.w) X σ (WE W σ) := fun pins H s e s' I c => passAt tk σ pins H s e s' I (cxn_cx c)
end Q

set_option Elab.async false
set_option linter.all false
set_option maxRecDepth 100000
set_option maxHeartbeats 4000000
/-! classmethods that may raise, with keywords; a class held by a local name and made; the head's facts of them -/
namespace Q
open PySem PySem.Spec PyProof.Rows L2
/-- what a caller needs of a classmethod: n values by position, the keywords ks -/
structure CMetK (CX : CXT) (P : Program) (w : World) (K : PySem.W.Frag) (mg : Str → Option Value) (base : Heap) (C : Addr) (m : Str) (k n : Nat) (ks : List Str) (gV : List V → List V → List V) (sp : Sp) : Prop where
  ex : ∃ (p g : Addr) (fd : FuncData) (ps : List Str) (gg : List Value → List Value → List Value), ClX.CRead K C (.type "type") ∧ ClX.CMet K C (.type "type") m p g ∧ FnOk P w K mg base CX k g fd ps sp ∧ KBn K fd ps (n + 1) ks gg gV
def tCMK (C : Addr) (n j : Nat) (sp : Sp) (gV : List V → List V → List V) (E : L2.St → XK) (ta : TE) (t tk : TA) : TE := fun σ H Q => ta σ H fun x H1 => x = .ref C ∧ t σ H1 fun vs H2 => tk σ H2 fun zs H3 => vs.length = n ∧ zs.length = j ∧ sp (gV (.ref C :: vs) zs) H3 Q (E σ)
section
variable {X : Cx} {CX : CXT} {k n : Nat} {C g p : Addr} {fd : FuncData} {ps ks : List Str} {sp : Sp} {E : L2.St → XK} {gg : List Value → List Value → List Value} {gV : List V → List V → List V} {o e : Expr} {es : List Expr} {kws : List Keyword} {m x : Str} {pos apos np : Pos} {ta : TE} {t tk : TA} {pl : Sem Bool}
theorem run_cmK {pins : List (Addr × Obj)} {σ : L2.St} {H : Hp} {s : Shared} {Q : VK} {q : Addr} {us ws : List Value} {vs zs : List V} (F : FnOk X.prog X.w X.K X.mg X.base CX k g fd ps sp) (hr : Room k X.A) (hb : KBn X.K fd ps (n + 1) ks gg gV) (hx : PassesAt CX X σ (E σ))
    (I : Inv X ((q, PySem.W.methodObj (.ref g) (.ref C)) :: pins) σ H s) (r : Vals vs us) (rz : Vals zs ws) (l1 : vs.length = n) (l2 : zs.length = ks.length) (h : sp (gV (.ref C :: vs) zs) H Q (E σ)) :
    wpAny (model X.prog X.w) X.A (call (.ref q) us (ks.zip ws)) (EP X pins σ Q) X.xe s := by
  have r1 : Vals (V.ref C :: vs) (Value.ref C :: us) := .cons rfl r
  have n1 : (Value.ref C :: us).length = n + 1 := by rw [List.length_cons, ← r.length, l1]
  refine thn (wpAny_call (PySem.W.method_call (ClX.pin_at I) (codeAny_mono (F.run X.A X.stack s H ⟨Value.ref C :: us, ks.zip ws⟩ (gg (Value.ref C :: us) ws) (gV (V.ref C :: vs) zs) Q (E σ) hr I.env0 (hb.to s _ ws I.kIn n1 (rz.length.symm.trans l2)) (hb.rel r1 rz) h)
    (R' := fun res s' => match res with | .ok (.ret v) => EP X ((q, PySem.W.methodObj (.ref g) (.ref C)) :: pins) σ Q v s' | .ok _ => False | .error e => X.xe e s') fun res s' hq => ?_))) fun _ _ y => ClX.unpinE y
  cases res with
  | error er => exact hx _ H s er s' I hq
  | ok fl =>
    cases fl with
    | ret u => exact I.after hq
    | _ => exact hq.elim
theorem pe_cmK (he : PE X o ta) (M : CMetK CX X.prog X.w X.K X.mg X.base C m k n ks gV sp) (hr : Room k X.A) (hx : ∀ σ, PassesAt CX X σ (E σ)) (ha : PA X (e :: es) t) (hkw : PK X kws tk)
    (some_ : (backToKw pos (keywordEach kws X.env)).all (·.1.isSome) = true := by rfl) (names : (backToKw pos (keywordEach kws X.env)).filterMap (·.1) = ks := by rfl)
    (st : starEach (e :: es) X.env = (false, eval e X.env) :: starEach es X.env := by rfl) (nost : ((backTo pos (starEach (e :: es) X.env)).any (·.1) || (backToKw pos (keywordEach kws X.env)).any (·.1.isNone)) = false := by rfl)
    (ht : eval (.Call (.Attribute o m apos) (e :: es) kws pos) X.env = (do
      let ov ← eval o X.env
      standAt apos.atName
      let (f, first) ← holding [ov] (getMethod ov m pl)
      callWith pos f first (backTo pos (starEach (e :: es) X.env)) (backToKw pos (keywordEach kws X.env))) := by rfl) :
    PE X (.Call (.Attribute o m apos) (e :: es) kws pos) (tCMK C n ks.length sp gV E ta t tk) := by
  obtain ⟨pp, g, fd, ps, gg, rd, cm, F, hb⟩ := M.ex
  refine ⟨fun pins s σ H Q I h => PySem.W.methodCall_KW (pl := pl) (thn (he.run pins s σ H _ I h) fun u s1 z => ?_) ht⟩
  obtain ⟨y, H1, I1, rx, rfl, q⟩ := z
  obtain rfl : u = Value.ref C := rx
  refine ClX.getmethcm_ok I1 rd cm fun s2 I2 => ?_
  refine PySem.W.callWith_of nost (PySem.W.keeps_M (self := Value.ref C) cm.fi) (PyProof.Rows.evalArgs_kw2 some_ (thn (ha.run pos _ s2 σ H1 _ I2 q) fun us s3 z => ?_) st)
  obtain ⟨vs, H2, I3, rv, q2⟩ := z
  refine thn (hkw.run pos _ s3 σ H2 _ I3 q2) fun ws s4 z => ?_
  obtain ⟨zs, H3, I4, rz, l1, l2, q3⟩ := z
  refine ⟨⟨ClX.pin_at I4, I4.kIn⟩, ?_⟩
  rw [names]
  exact run_cmK F hr hb (hx σ) I4 rv rz l1 l2 q3
theorem pe_cmK0 (he : PE X o ta) (M : CMetK CX X.prog X.w X.K X.mg X.base C m k 0 ks gV sp) (hr : Room k X.A) (hx : ∀ σ, PassesAt CX X σ (E σ)) (hkw : PK X kws tk)
    (some_ : (backToKw pos (keywordEach kws X.env)).all (·.1.isSome) = true := by rfl) (names : (backToKw pos (keywordEach kws X.env)).filterMap (·.1) = ks := by rfl)
    (nost : ((backTo pos (starEach [] X.env)).any (·.1) || (backToKw pos (keywordEach kws X.env)).any (·.1.isNone)) = false := by rfl)
    (ht : eval (.Call (.Attribute o m apos) [] kws pos) X.env = (do
      let ov ← eval o X.env
      standAt apos.atName
      let (f, first) ← holding [ov] (getMethod ov m pl)
      callWith pos f first (backTo pos (starEach [] X.env)) (backToKw pos (keywordEach kws X.env))) := by rfl) :
    PE X (.Call (.Attribute o m apos) [] kws pos) (tCMK C 0 ks.length sp gV E ta tNil tk) := by
  obtain ⟨pp, g, fd, ps, gg, rd, cm, F, hb⟩ := M.ex
  refine ⟨fun pins s σ H Q I h => PySem.W.methodCall_KW (pl := pl) (thn (he.run pins s σ H _ I h) fun u s1 z => ?_) ht⟩
  obtain ⟨y, H1, I1, rx, rfl, q⟩ := z
  obtain rfl : u = Value.ref C := rx
  refine ClX.getmethcm_ok I1 rd cm fun s2 I2 => ?_
  refine PySem.W.callWith_of nost (PySem.W.keeps_M (self := Value.ref C) cm.fi) (PyProof.Rows.evalArgs_kw2_nil some_ (thn (hkw.run pos _ s2 σ H1 _ I2 q) fun ws s4 z => ?_))
  obtain ⟨zs, H3, I4, rz, l1, l2, q3⟩ := z
  refine ⟨⟨ClX.pin_at I4, I4.kIn⟩, ?_⟩
  rw [names]
  exact run_cmK F hr hb (hx σ) I4 .nil rz l1 l2 q3
/-- C(e, ..), the class at C held by the local name in the slot i -/
theorem pe_mkkL {i : Nat} (hN : X.N[i]? = some x) (hv : Vis X.env.scope x) (M : MkKX CX X.prog X.w X.K X.mg X.base C k n ks gV sp) (hr : Room (k + 1) X.A) (hx : ∀ σ, PassesAt CX X σ (E σ)) (ha : PA X (e :: es) t) (hkw : PK X kws tk)
    (some_ : (backToKw pos (keywordEach kws X.env)).all (·.1.isSome) = true := by rfl) (names : (backToKw pos (keywordEach kws X.env)).filterMap (·.1) = ks := by rfl)
    (hdb : (x == ("__debug__" : Str)) = false := by decide) (hcd : (x == ("__classdict__" : Str)) = false := by decide) (st : starEach (e :: es) X.env = (false, eval e X.env) :: starEach es X.env := by rfl)
    (nost : ((backTo pos (starEach (e :: es) X.env)).any (·.1) || (backToKw pos (keywordEach kws X.env)).any (·.1.isNone)) = false := by rfl) :
    PE X (.Call (.Name x np) (e :: es) kws pos) (fun σ H Q => σ[i]? = some (some (.ref C)) ∧ tMakeKS C n ks.length sp gV E t tk σ H Q) := by
  obtain ⟨f, fd, ps, gg, hmk, F, hb⟩ := M.ex
  refine ⟨fun pins s σ H Q I h => ?_⟩
  obtain ⟨hs, ht⟩ := h
  refine wpAny_Call_Name_kw (thn ((pe_var (pos := np) hN hv hdb hcd).run pins s σ H (fun v H1 => v = .ref C ∧ H1 = H) I ⟨.ref C, hs, rfl, rfl⟩) fun u s0 z => ?_)
  obtain ⟨v, H0, I0, r0, rfl, rfl⟩ := z
  obtain rfl : u = Value.ref C := r0
  refine PySem.W.callWith_KW I.ok.mod.kin hmk.kp some_ (thn (ha.run pos pins s0 σ _ _ I0 ht) fun us s1 z => ?_) nost st
  obtain ⟨vs, H1, I1, r, q⟩ := z
  refine thn (hkw.run pos pins s1 σ H1 _ I1 q) fun ws s2 z => ?_
  obtain ⟨zs, H2, I2, rz, l1, l2, q2⟩ := z
  refine ⟨Inv.kIn I2, ?_⟩
  rw [names]
  exact run_makeKS hmk F hr hb (hx σ) I2 r rz l1 l2 q2
end
theorem g_cmK {C : Addr} {n j : Nat} {sp : Sp} {gV : List V → List V → List V} {E : L2.St → XK} {ta : TE} {t tk : TA} {σ : L2.St} {H : Hp} {Q : VK} (h : ta σ H fun x H1 => x = .ref C ∧ t σ H1 fun vs H2 => tk σ H2 fun zs H3 => vs.length = n ∧ zs.length = j ∧ sp (gV (.ref C :: vs) zs) H3 Q (E σ)) : tCMK C n j sp gV E ta t tk σ H Q := h
/-! the head's facts, with defs at any address -/
abbrev AlY : Type := AlX × (Bool × List He.FnW)
def obsY (fa : List He.Fa) (fn : List He.DefD) (pr : List PrpD) (bs : List (PySem.W.Frag → Bool)) (da : List He5.DefA) (K : PySem.W.Frag) : AlY := (obsX fa fn pr bs K, (da.all fun d => d.ok K, da.map fun d => He5.fnA K (d.at_ K)))
def valY (fn : List He.DefD) (pr : List PrpD) (da : List He5.DefA) : AlY := (valX fn pr, (true, da.map He5.DefA.val))
structure SaysY (fa : List He.Fa) (fn : List He.DefD) (pr : List PrpD) (bs : List (PySem.W.Frag → Bool)) (da : List He5.DefA) (K : PySem.W.Frag) : Prop where
  eq : obsY fa fn pr bs da K = valY fn pr da
def obsYG (n : Nat) (fa : List He.Fa) (fn : List He.DefD) (pr : List PrpD) (bs : List (PySem.W.Frag → Bool)) (da : List He5.DefA) (g : Addr → Option Obj) : AlY := obsY fa fn pr bs da (He.frG g (He5.asA g n))
def hookY (n : Nat) (fa : List He.Fa) (fn : List He.DefD) (pr : List PrpD) (bs : List (PySem.W.Frag → Bool)) (da : List He5.DefA) : PySem.W.Hook where
  α := AlY
  obs := fun s => obsYG n fa fn pr bs da s.heap.get?
  val := fun _ => valY fn pr da
  says := fun _ h => ∃ K : PySem.W.Frag, K.In h ∧ SaysY fa fn pr bs da K
  of := fun _ _ e => ⟨_, He.frG_in, ⟨e⟩⟩
  keeps := fun _ _ _ ⟨K, inK, c⟩ kp => ⟨K, PySem.W.Frag.In.keeps inK kp, c⟩
theorem obsYG_eq {n : Nat} {fa : List He.Fa} {fn : List He.DefD} {pr : List PrpD} {bs : List (PySem.W.Frag → Bool)} {da : List He5.DefA} {g : Addr → Option Obj} {s : Shared} (h : ∀ a, g a = s.heap.get? a) : obsYG n fa fn pr bs da g = (hookY n fa fn pr bs da).obs s := by
  obtain rfl : g = s.heap.get? := funext h
  rfl
section
variable {fa : List He.Fa} {fn : List He.DefD} {pr : List PrpD} {bs : List (PySem.W.Frag → Bool)} {da : List He5.DefA} {K : PySem.W.Frag}
theorem SaysY.x (c : SaysY fa fn pr bs da K) : SaysX fa fn pr bs K := ⟨congrArg (fun z : AlY => z.1) c.eq⟩
theorem SaysY.p (c : SaysY fa fn pr bs da K) : SaysP fa fn pr K := c.x.p
theorem SaysY.test (c : SaysY fa fn pr bs da K) (i : Nat) {b : PySem.W.Frag → Bool} (h : bs[i]? = some b := by rfl) : b K = true := c.x.test i h
theorem SaysY.da_ (c : SaysY fa fn pr bs da K) (i : Nat) {d : He5.DefA} (h : da[i]? = some d := by rfl) : ∃ fd, FunD K d.name d.qual d.params d.body d.scope (d.dvs K) (d.kws K) (d.at_ K) fd := by
  have z := congrArg (fun z : AlY => z.2) c.eq
  have z1 : (da.all fun d => d.ok K) = true := congrArg (fun z : Bool × List He.FnW => z.1) z
  have z2 : da.map (fun d => He5.fnA K (d.at_ K)) = da.map He5.DefA.val := congrArg (fun z : Bool × List He.FnW => z.2) z
  have z3 : (da.map fun d => He5.fnA K (d.at_ K))[i]? = (da.map He5.DefA.val)[i]? := by rw [z2]
  rw [List.getElem?_map, List.getElem?_map, h] at z3
  exact He5.DefA.funD (Option.some.inj z3) (List.all_eq_true.mp z1 d (List.mem_of_getElem? h))
end
/-- the tests of a class that is read for its classmethod m -/
def clmB (K : PySem.W.Frag) (c m : Str) : Bool := PySem.W.readsIn K (He.ga K c) (.type "type") && (decide (PySem.W.specialIn K (.ref (He.ga K c)) "__getattribute__" = some (some (.builtin "type.__getattribute__"))) &&
  (He5.wrapB K (He.ga K c) "classmethod" "classmethod.__get__" m && PySem.W.fnIn K (He5.wf K (He.ga K c) "classmethod" m)))
structure ClmK (K : PySem.W.Frag) (C : Addr) (m : Str) (p g : Addr) : Prop where
  rd : ClX.CRead K C (.type "type")
  cm : ClX.CMet K C (.type "type") m p g
theorem clmB_ok {K : PySem.W.Frag} {c m : Str} (h : clmB K c m = true) : ClmK K (He.ga K c) m (He.ma K (He.ga K c) m) (He5.wf K (He.ga K c) "classmethod" m) := by
  obtain ⟨h1, h⟩ := He.ba h
  obtain ⟨h2, h⟩ := He.ba h
  obtain ⟨h3, h4⟩ := He.ba h
  exact ⟨⟨h1, of_decide_eq_true h2⟩, He5.cmet_of h3 h4⟩
theorem cmet_mk {CX : CXT} {P : Program} {w : World} {K : PySem.W.Frag} {mg : Str → Option Value} {base : Heap} {C : Addr} {m : Str} {x q : Str} {pa : Arguments} {bd : List Stmt} {sc : Scope} {dv : List V} {kw : List (Str × V)} {k n : Nat} {ks ps : List Str} {gV : List V → List V → List V} {sp : Sp} {p g : Addr}
    (c : ClmK K C m p g) (h : ∃ (fd : FuncData), FunD K x q pa bd sc dv kw g fd) (ok : ∀ {f : Addr} {fd : FuncData}, FunD K x q pa bd sc dv kw f fd → FnOk P w K mg base CX k f fd ps sp)
    (b : ∀ {f : Addr} {fd : FuncData}, FunD K x q pa bd sc dv kw f fd → ∃ gg, KBn K fd ps (n + 1) ks gg gV) : CMetK CX P w K mg base C m k n ks gV sp := by
  obtain ⟨fd, F⟩ := h
  obtain ⟨gg, hb⟩ := b F
  exact ⟨p, g, fd, ps, gg, c.rd, c.cm, ok F, hb⟩
end Q
namespace Q
open PySem PySem.Spec PyProof.Rows L2
/-- an empty tuple of the written part -/
def empB (K : PySem.W.Frag) (a : Addr) : Bool := match K.lookup a with
  | some ⟨.type c, _, .seq its _, _⟩ => decide (c = "tuple") && its.toList.isEmpty
  | _ => false
theorem empB_ok {K : PySem.W.Frag} {a : Addr} (h : empB K a = true) (H : Hp) : SqT K H a [] := by
  unfold empB at h
  split at h
  · rename_i c d its n sl e
    obtain ⟨h1, h2⟩ := He.ba h
    have h3 : its.toList = [] := List.isEmpty_iff.mp h2
    refine .inr ⟨_, its, n, e, congrArg Value.type (of_decide_eq_true h1), rfl, ?_, ?_⟩
    · rw [← Array.length_toList, h3]; exact Nat.zero_le _
    · rw [h3]; exact .nil
  · exact absurd h Bool.false_ne_true
theorem passN0 {X : Cx} {σ : L2.St} : PassesAt (L2N.CX X.prog X.w) X σ (E0) := fun pins H s e s' I c => by
  obtain ⟨_, _, _, _, _, _, _, _, _, _, _, _, z⟩ := c
  exact z.elim
end Q

set_option Elab.async false
set_option linter.all false
set_option maxRecDepth 100000
set_option maxHeartbeats 4000000
/-! a global of the module that holds a tuple of texts -/
namespace Q
open PySem PySem.Spec L2
def valsSB : List Str → List Value → Bool
  | [], [] => true
  | x :: xs, .str y _ :: us => decide (x = y) && valsSB xs us
  | _, _ => false
theorem valsSB_ok : ∀ {xs : List Str} {us : List Value}, valsSB xs us = true → Vals (xs.map V.str) us
  | [], [], _ => .nil
  | x :: xs, .str y t :: us, h => by
    have h2 : (decide (x = y) && valsSB xs us) = true := h
    rw [Bool.and_eq_true] at h2
    have e := of_decide_eq_true h2.1
    subst e
    exact .cons ⟨t, rfl⟩ (valsSB_ok h2.2)
  | [], _ :: _, h => Bool.noConfusion h
  | _ :: _, [], h => Bool.noConfusion h
def tupSB (K : PySem.W.Frag) (x : Str) (ss : List Str) : Bool := match K.lookup (He.ga K x) with
  | some o => match o.data with
    | .seq its _ => decide (o.cls = .type "tuple") && (decide (its.size ≤ sizeLine) && valsSB ss its.toList)
    | _ => false
  | none => false
def TupS (K : PySem.W.Frag) (x : Str) (ss : List Str) : Prop := ∀ H : Hp, SqT K H (He.ga K x) (ss.map V.str)
theorem tupSB_ok {K : PySem.W.Frag} {x : Str} {ss : List Str} (h : tupSB K x ss = true) : TupS K x ss := by
  intro H
  unfold tupSB at h
  split at h
  · rename_i o e
    split at h
    · rename_i its n ed
      rw [Bool.and_eq_true, Bool.and_eq_true] at h
      exact .inr ⟨o, its, n, e, of_decide_eq_true h.1, ed, of_decide_eq_true h.2.1, valsSB_ok h.2.2⟩
    · cases h
  · cases h
end Q

set_option Elab.async false
set_option linter.all false
set_option maxRecDepth 100000
set_option maxHeartbeats 4000000
/-! staticmethods read off their class, with keywords -/
namespace Q
open PySem PySem.Spec PyProof.Rows L2
/-- C.m is a staticmethod: its record at p, its def at g -/
structure StmK (K : PySem.W.Frag) (C : Addr) (m : Str) (p g : Addr) : Prop where
  rd : ClX.CRead K C (.type "type")
  at_ : PySem.W.findCls K (.ref C) (.type "type") m = some (.get (.builtin "staticmethod.__get__") (.ref p) .none (.ref C))
  rc : ∃ rest, PySem.W.recIn K p "staticmethod" = some (.ref g :: rest)
def stmB (K : PySem.W.Frag) (c m : Str) : Bool := PySem.W.readsIn K (He.ga K c) (.type "type") && (decide (PySem.W.specialIn K (.ref (He.ga K c)) "__getattribute__" = some (some (.builtin "type.__getattribute__"))) &&
  He5.wrapB K (He.ga K c) "staticmethod" "staticmethod.__get__" m)
theorem stmB_ok {K : PySem.W.Frag} {c m : Str} (h : stmB K c m = true) : StmK K (He.ga K c) m (He.ma K (He.ga K c) m) (He5.wf K (He.ga K c) "staticmethod" m) := by
  obtain ⟨h1, h⟩ := He.ba h
  obtain ⟨h2, h3⟩ := He.ba h
  obtain ⟨h4, h5⟩ := He5.wrapB_ok h3
  exact ⟨⟨h1, of_decide_eq_true h2⟩, h4, h5⟩
structure SMetK (P : Program) (w : World) (K : PySem.W.Frag) (mg : Str → Option Value) (base : Heap) (C : Addr) (m : Str) (k n : Nat) (ks : List Str) (gV : List V → List V → List V) (sp : Sp) : Prop where
  ex : ∃ (p f : Addr) (fd : FuncData) (ps : List Str) (g : List Value → List Value → List Value), StmK K C m p f ∧ FnOk P w K mg base CX0 k f fd ps sp ∧ PySem.W.keepIn K (.ref f) = true ∧ KBn K fd ps n ks g gV
theorem smet_mk {P : Program} {w : World} {K : PySem.W.Frag} {mg : Str → Option Value} {base : Heap} {C : Addr} {m : Str} {x q : Str} {pa : Arguments} {bd : List Stmt} {sc : Scope} {dv : List V} {kw : List (Str × V)} {k n : Nat} {ks ps : List Str} {gV : List V → List V → List V} {sp : Sp} {p f : Addr}
    (c : StmK K C m p f) (h : ∃ (fd : FuncData), FunD K x q pa bd sc dv kw f fd) (ok : ∀ {f : Addr} {fd : FuncData}, FunD K x q pa bd sc dv kw f fd → FnOk P w K mg base CX0 k f fd ps sp)
    (b : ∀ {f : Addr} {fd : FuncData}, FunD K x q pa bd sc dv kw f fd → ∃ g, KBn K fd ps n ks g gV) : SMetK P w K mg base C m k n ks gV sp := by
  obtain ⟨fd, F⟩ := h
  obtain ⟨g, hb⟩ := b F
  exact ⟨p, f, fd, ps, g, c, ok F, F.kp, hb⟩
def tSM (C : Addr) (n j : Nat) (sp : Sp) (gV : List V → List V → List V) (ta : TE) (t tk : TA) : TE := fun σ H Q => ta σ H fun x H1 => x = .ref C ∧ t σ H1 fun vs H2 => tk σ H2 fun zs H3 => vs.length = n ∧ zs.length = j ∧ sp (gV vs zs) H3 Q E0
section
variable {X : Cx} {k n : Nat} {C : Addr} {ks : List Str} {sp : Sp} {gV : List V → List V → List V} {o e : Expr} {es : List Expr} {kws : List Keyword} {m : Str} {pos apos : Pos} {ta : TE} {t tk : TA} {pl : Sem Bool}
theorem getstat_ok {pins : List (Addr × Obj)} {σ : L2.St} {H : Hp} {s : Shared} {A : Around} {E : Value → Shared → Prop} {p g : Addr} {Q : Value × List Value → Shared → Prop} (I : Inv X pins σ H s) (c : StmK X.K C m p g) (h : ∀ s', Inv X pins σ H s' → Q (.ref g, []) s') : wpAny (model X.prog X.w) A (getMethod (.ref C) m pl) Q E s := by
  obtain ⟨rest, hp⟩ := c.rc
  refine PySem.W.method_cls I.kIn c.rd.ga (PySem.W.cls_bind I.kIn c.rd.rd c.at_ ?_)
  refine wpAny_call (PySem.W.sm_get (s := { s with toks := s.toks + 1 }) I.kIn hp (PySem.W.handed_on rfl ?_))
  exact h _ (I.tok _)
theorem pe_smK (he : PE X o ta) (M : SMetK X.prog X.w X.K X.mg X.base C m k n ks gV sp) (hr : Room k X.A) (ha : PA X (e :: es) t) (hkw : PK X kws tk)
    (some_ : (backToKw pos (keywordEach kws X.env)).all (·.1.isSome) = true := by rfl) (names : (backToKw pos (keywordEach kws X.env)).filterMap (·.1) = ks := by rfl)
    (st : starEach (e :: es) X.env = (false, eval e X.env) :: starEach es X.env := by rfl) (nost : ((backTo pos (starEach (e :: es) X.env)).any (·.1) || (backToKw pos (keywordEach kws X.env)).any (·.1.isNone)) = false := by rfl)
    (ht : eval (.Call (.Attribute o m apos) (e :: es) kws pos) X.env = (do
      let ov ← eval o X.env
      standAt apos.atName
      let (f, first) ← holding [ov] (getMethod ov m pl)
      callWith pos f first (backTo pos (starEach (e :: es) X.env)) (backToKw pos (keywordEach kws X.env))) := by rfl) :
    PE X (.Call (.Attribute o m apos) (e :: es) kws pos) (tSM C n ks.length sp gV ta t tk) := by
  obtain ⟨p, f, fd, ps, g, c, F, hk, hb⟩ := M.ex
  refine ⟨fun pins s σ H Q I h => PySem.W.methodCall_KW (pl := pl) (thn (he.run pins s σ H _ I h) fun u s1 z => ?_) ht⟩
  obtain ⟨y, H1, I1, rx, rfl, q⟩ := z
  obtain rfl : u = Value.ref C := rx
  refine getstat_ok I1 c fun s2 I2 => ?_
  refine PySem.W.callWith_KW (h₀ := X.base) I2.ok.mod.kin hk some_ (thn (ha.run pos _ s2 σ H1 _ I2 q) fun us s3 z => ?_) nost st
  obtain ⟨vs, H2, I3, rv, q2⟩ := z
  refine thn (hkw.run pos _ s3 σ H2 _ I3 q2) fun ws s4 z => ?_
  obtain ⟨zs, H3, I4, rz, l1, l2, q3⟩ := z
  refine ⟨I4.kIn, ?_⟩
  rw [names]
  exact run_fnN F hr hb pass0 I4 rv rz l1 l2 q3
theorem pe_smK0 (he : PE X o ta) (M : SMetK X.prog X.w X.K X.mg X.base C m k 0 ks gV sp) (hr : Room k X.A) (hkw : PK X kws tk)
    (some_ : (backToKw pos (keywordEach kws X.env)).all (·.1.isSome) = true := by rfl) (names : (backToKw pos (keywordEach kws X.env)).filterMap (·.1) = ks := by rfl)
    (nost : ((backTo pos (starEach [] X.env)).any (·.1) || (backToKw pos (keywordEach kws X.env)).any (·.1.isNone)) = false := by rfl)
    (ht : eval (.Call (.Attribute o m apos) [] kws pos) X.env = (do
      let ov ← eval o X.env
      standAt apos.atName
      let (f, first) ← holding [ov] (getMethod ov m pl)
      callWith pos f first (backTo pos (starEach [] X.env)) (backToKw pos (keywordEach kws X.env))) := by rfl) :
    PE X (.Call (.Attribute o m apos) [] kws pos) (tSM C 0 ks.length sp gV ta tNil tk) := by
  obtain ⟨p, f, fd, ps, g, c, F, hk, hb⟩ := M.ex
  refine ⟨fun pins s σ H Q I h => PySem.W.methodCall_KW (pl := pl) (thn (he.run pins s σ H _ I h) fun u s1 z => ?_) ht⟩
  obtain ⟨y, H1, I1, rx, rfl, q⟩ := z
  obtain rfl : u = Value.ref C := rx
  refine getstat_ok I1 c fun s2 I2 => ?_
  refine PySem.W.callWith_KW0 (h₀ := X.base) I2.ok.mod.kin hk some_ (thn (hkw.run pos _ s2 σ H1 _ I2 q) fun ws s4 z => ?_) nost
  obtain ⟨zs, H3, I4, rz, l1, l2, q3⟩ := z
  refine ⟨I4.kIn, ?_⟩
  rw [names]
  exact run_fnN (us := []) (vs := []) F hr hb pass0 I4 .nil rz l1 l2 q3
end
section
variable {C : Addr} {n j : Nat} {sp : Sp} {gV : List V → List V → List V} {ta : TE} {t tk : TA} {σ : L2.St} {H : Hp} {Q : VK}
theorem g_sm (h : ta σ H fun x H1 => x = .ref C ∧ t σ H1 fun vs H2 => tk σ H2 fun zs H3 => vs.length = n ∧ zs.length = j ∧ sp (gV vs zs) H3 Q E0) : tSM C n j sp gV ta t tk σ H Q := h
instance st_g_sm : Step (tSM C n j sp gV ta t tk σ H Q) (ta σ H fun x H1 => x = .ref C ∧ t σ H1 fun vs H2 => tk σ H2 fun zs H3 => vs.length = n ∧ zs.length = j ∧ sp (gV vs zs) H3 Q E0) := ⟨fun z => z⟩
end
end Q

set_option Elab.async false
set_option linter.all false
set_option maxRecDepth 100000
set_option maxHeartbeats 4000000
namespace Q
open PySem PySem.Spec L2
def topS (i : Nat) : Stmt := PySem.Challenge.pw_answersalone_k03_nets_refused.main.body.getD i (.Pass ⟨0, 0, 0, 0⟩)
abbrev s__wall : Stmt := topS 0
abbrev N__wall : List Str := ["k"]
abbrev P__wall : List Str := ["k"]
theorem sc__wall : FnScope N__wall P__wall (defScope s__wall) :=
  ⟨rfl, rfl, rfl, by decide +kernel, rfl, by decide +kernel, by decide +kernel⟩
abbrev s_times : Stmt := topS 9
abbrev N_times : List Str := ["table", "row", "line"]
abbrev P_times : List Str := ["table", "row"]
theorem sc_times : FnScope N_times P_times (defScope s_times) :=
  ⟨rfl, rfl, rfl, by decide +kernel, rfl, by decide +kernel, by decide +kernel⟩
abbrev s_added : Stmt := topS 10
abbrev N_added : List Str := ["one", "other", "first", "second"]
abbrev P_added : List Str := ["one", "other"]
theorem sc_added : FnScope N_added P_added (defScope s_added) :=
  ⟨rfl, rfl, rfl, by decide +kernel, rfl, by decide +kernel, by decide +kernel⟩
abbrev s_cut : Stmt := topS 11
abbrev N_cut : List Str := ["row", "cap", "number"]
abbrev P_cut : List Str := ["row", "cap"]
theorem sc_cut : FnScope N_cut P_cut (defScope s_cut) :=
  ⟨rfl, rfl, rfl, by decide +kernel, rfl, by decide +kernel, by decide +kernel⟩
abbrev s_dot : Stmt := topS 12
abbrev N_dot : List Str := ["one", "other", "first", "second"]
abbrev P_dot : List Str := ["one", "other"]
theorem sc_dot : FnScope N_dot P_dot (defScope s_dot) :=
  ⟨rfl, rfl, rfl, by decide +kernel, rfl, by decide +kernel, by decide +kernel⟩
abbrev s_raised : Stmt := topS 13
abbrev N_raised : List Str := ["row", "number"]
abbrev P_raised : List Str := ["row"]
theorem sc_raised : FnScope N_raised P_raised (defScope s_raised) :=
  ⟨rfl, rfl, rfl, by decide +kernel, rfl, by decide +kernel, by decide +kernel⟩
abbrev s_as_tuples : Stmt := topS 14
abbrev N_as_tuples : List Str := ["value", "item"]
abbrev P_as_tuples : List Str := ["value"]
theorem sc_as_tuples : FnScope N_as_tuples P_as_tuples (defScope s_as_tuples) :=
  ⟨rfl, rfl, rfl, by decide +kernel, rfl, by decide +kernel, by decide +kernel⟩
abbrev s_through_layer : Stmt := topS 16
abbrev N_through_layer : List Str := ["layer", "cap", "earlier", "row", "heads", "up", "down", "pairs", "_", "key", "value", "total", "at", "head", "kept", "ahead", "middle", "units"]
abbrev P_through_layer : List Str := ["layer", "cap", "earlier", "row"]
theorem sc_through_layer : FnScope N_through_layer P_through_layer (defScope s_through_layer) :=
  ⟨rfl, rfl, rfl, by decide +kernel, rfl, by decide +kernel, by decide +kernel⟩
abbrev s_looked_at : Stmt := topS 17
abbrev N_looked_at : List Str := ["query", "kept", "scores", "pair", "greatest", "latest", "place", "score"]
abbrev P_looked_at : List Str := ["query", "kept"]
theorem sc_looked_at : FnScope N_looked_at P_looked_at (defScope s_looked_at) :=
  ⟨rfl, rfl, rfl, by decide +kernel, rfl, by decide +kernel, by decide +kernel⟩
abbrev s_is_number : Stmt := topS 23
abbrev N_is_number : List Str := ["value", "least", "most"]
abbrev P_is_number : List Str := ["value", "least", "most"]
theorem sc_is_number : FnScope N_is_number P_is_number (defScope s_is_number) :=
  ⟨rfl, rfl, rfl, by decide +kernel, rfl, by decide +kernel, by decide +kernel⟩
abbrev s_is_tokens : Stmt := topS 24
abbrev N_is_tokens : List Str := ["value", "character"]
abbrev P_is_tokens : List Str := ["value"]
theorem sc_is_tokens : FnScope N_is_tokens P_is_tokens (defScope s_is_tokens) :=
  ⟨rfl, rfl, rfl, by decide +kernel, rfl, by decide +kernel, by decide +kernel⟩
abbrev s__can_be_token : Stmt := topS 25
abbrev N__can_be_token : List Str := ["character"]
abbrev P__can_be_token : List Str := ["character"]
theorem sc__can_be_token : FnScope N__can_be_token P__can_be_token (defScope s__can_be_token) :=
  ⟨rfl, rfl, rfl, by decide +kernel, rfl, by decide +kernel, by decide +kernel⟩
abbrev s_number_word : Stmt := topS 26
abbrev N_number_word : List Str := ["number", "rest", "groups", "group", "digits"]
abbrev P_number_word : List Str := ["number"]
theorem sc_number_word : FnScope N_number_word P_number_word (defScope s_number_word) :=
  ⟨rfl, rfl, rfl, by decide +kernel, rfl, by decide +kernel, by decide +kernel⟩
abbrev s_read_number : Stmt := topS 27
abbrev N_read_number : List Str := ["word", "least", "most", "number"]
abbrev P_read_number : List Str := ["word", "least", "most"]
theorem sc_read_number : FnScope N_read_number P_read_number (defScope s_read_number) :=
  ⟨rfl, rfl, rfl, by decide +kernel, rfl, by decide +kernel, by decide +kernel⟩
abbrev s__signed_number : Stmt := topS 28
abbrev N__signed_number : List Str := ["word", "number"]
abbrev P__signed_number : List Str := ["word"]
theorem sc__signed_number : FnScope N__signed_number P__signed_number (defScope s__signed_number) :=
  ⟨rfl, rfl, rfl, by decide +kernel, rfl, by decide +kernel, by decide +kernel⟩
abbrev s__digits_number : Stmt := topS 29
abbrev N__digits_number : List Str := ["digits", "number", "digit"]
abbrev P__digits_number : List Str := ["digits"]
theorem sc__digits_number : FnScope N__digits_number P__digits_number (defScope s__digits_number) :=
  ⟨rfl, rfl, rfl, by decide +kernel, rfl, by decide +kernel, by decide +kernel⟩
abbrev s_wrong_part : Stmt := topS 43
abbrev N_wrong_part : List Str := ["tokens", "cap", "token_rows", "place_rows", "layers", "out_rows", "base", "many", "width"]
abbrev P_wrong_part : List Str := ["tokens", "cap", "token_rows", "place_rows", "layers", "out_rows", "base"]
theorem sc_wrong_part : FnScope N_wrong_part P_wrong_part (defScope s_wrong_part) :=
  ⟨rfl, rfl, rfl, by decide +kernel, rfl, by decide +kernel, by decide +kernel⟩
abbrev s__is_list : Stmt := topS 44
abbrev N__is_list : List Str := ["value", "least", "most"]
abbrev P__is_list : List Str := ["value", "least", "most"]
theorem sc__is_list : FnScope N__is_list P__is_list (defScope s__is_list) :=
  ⟨rfl, rfl, rfl, by decide +kernel, rfl, by decide +kernel, by decide +kernel⟩
abbrev s__is_row : Stmt := topS 45
abbrev N__is_row : List Str := ["value", "width", "item"]
abbrev P__is_row : List Str := ["value", "width"]
theorem sc__is_row : FnScope N__is_row P__is_row (defScope s__is_row) :=
  ⟨rfl, rfl, rfl, by decide +kernel, rfl, by decide +kernel, by decide +kernel⟩
abbrev s__are_rows : Stmt := topS 46
abbrev N__are_rows : List Str := ["value", "least", "most", "width", "row"]
abbrev P__are_rows : List Str := ["value", "least", "most", "width"]
theorem sc__are_rows : FnScope N__are_rows P__are_rows (defScope s__are_rows) :=
  ⟨rfl, rfl, rfl, by decide +kernel, rfl, by decide +kernel, by decide +kernel⟩
abbrev s__are_token_rows : Stmt := topS 47
abbrev N__are_token_rows : List Str := ["value", "many"]
abbrev P__are_token_rows : List Str := ["value", "many"]
theorem sc__are_token_rows : FnScope N__are_token_rows P__are_token_rows (defScope s__are_token_rows) :=
  ⟨rfl, rfl, rfl, by decide +kernel, rfl, by decide +kernel, by decide +kernel⟩
abbrev s__are_layers : Stmt := topS 48
abbrev N__are_layers : List Str := ["value", "width", "layer", "heads"]
abbrev P__are_layers : List Str := ["value", "width"]
theorem sc__are_layers : FnScope N__are_layers P__are_layers (defScope s__are_layers) :=
  ⟨rfl, rfl, rfl, by decide +kernel, rfl, by decide +kernel, by decide +kernel⟩
abbrev s__is_layer : Stmt := topS 49
abbrev N__is_layer : List Str := ["value", "heads", "width", "parts", "up", "down", "head"]
abbrev P__is_layer : List Str := ["value", "heads", "width"]
theorem sc__is_layer : FnScope N__is_layer P__is_layer (defScope s__is_layer) :=
  ⟨rfl, rfl, rfl, by decide +kernel, rfl, by decide +kernel, by decide +kernel⟩
abbrev s__is_head : Stmt := topS 50
abbrev N__is_head : List Str := ["value", "width", "table"]
abbrev P__is_head : List Str := ["value", "width"]
theorem sc__is_head : FnScope N__is_head P__is_head (defScope s__is_head) :=
  ⟨rfl, rfl, rfl, by decide +kernel, rfl, by decide +kernel, by decide +kernel⟩
abbrev s__is_table : Stmt := topS 51
abbrev N__is_table : List Str := ["value", "width"]
abbrev P__is_table : List Str := ["value", "width"]
theorem sc__is_table : FnScope N__is_table P__is_table (defScope s__is_table) :=
  ⟨rfl, rfl, rfl, by decide +kernel, rfl, by decide +kernel, by decide +kernel⟩
abbrev s_read_parts : Stmt := topS 55
abbrev N_read_parts : List Str := ["text", "lines", "tokens", "cap", "many", "first", "width", "token_rows", "place_rows", "layers", "out_rows", "base"]
abbrev P_read_parts : List Str := ["text"]
theorem sc_read_parts : FnScope N_read_parts P_read_parts (defScope s_read_parts) :=
  ⟨rfl, rfl, rfl, by decide +kernel, rfl, by decide +kernel, by decide +kernel⟩
abbrev s__place_rows : Stmt := topS 56
abbrev N__place_rows : List Str := ["lines", "width", "rows"]
abbrev P__place_rows : List Str := ["lines", "width"]
theorem sc__place_rows : FnScope N__place_rows P__place_rows (defScope s__place_rows) :=
  ⟨rfl, rfl, rfl, by decide +kernel, rfl, by decide +kernel, by decide +kernel⟩
abbrev s__layers : Stmt := topS 57
abbrev N__layers : List Str := ["lines", "width", "layers", "heads"]
abbrev P__layers : List Str := ["lines", "width"]
theorem sc__layers : FnScope N__layers P__layers (defScope s__layers) :=
  ⟨rfl, rfl, rfl, by decide +kernel, rfl, by decide +kernel, by decide +kernel⟩
abbrev s__layer : Stmt := topS 58
abbrev N__layer : List Str := ["lines", "width", "least", "most", "heads", "_", "up", "down"]
abbrev P__layer : List Str := ["lines", "width", "least", "most"]
theorem sc__layer : FnScope N__layer P__layer (defScope s__layer) :=
  ⟨rfl, rfl, rfl, by decide +kernel, rfl, by decide +kernel, by decide +kernel⟩
abbrev s__head : Stmt := topS 59
abbrev N__head : List Str := ["lines", "width", "word"]
abbrev P__head : List Str := ["lines", "width"]
theorem sc__head : FnScope N__head P__head (defScope s__head) :=
  ⟨rfl, rfl, rfl, by decide +kernel, rfl, by decide +kernel, by decide +kernel⟩
abbrev s_lines_of : Stmt := topS 60
abbrev N_lines_of : List Str := ["net", "lines", "heads", "up", "down", "head", "word", "table"]
abbrev P_lines_of : List Str := ["net"]
theorem sc_lines_of : FnScope N_lines_of P_lines_of (defScope s_lines_of) :=
  ⟨rfl, rfl, rfl, by decide +kernel, rfl, by decide +kernel, by decide +kernel⟩
abbrev s__row_lines : Stmt := topS 61
abbrev N__row_lines : List Str := ["word", "rows", "number", "row"]
abbrev P__row_lines : List Str := ["word", "rows"]
theorem sc__row_lines : FnScope N__row_lines P__row_lines (defScope s__row_lines) :=
  ⟨rfl, rfl, rfl, by decide +kernel, rfl, by decide +kernel, by decide +kernel⟩
abbrev s__law_bag : Stmt := topS 65
abbrev N__law_bag : List Str := ["script", "mix", "item"]
abbrev P__law_bag : List Str := ["script"]
theorem sc__law_bag : FnScope N__law_bag P__law_bag (defScope s__law_bag) :=
  ⟨rfl, rfl, rfl, by decide +kernel, rfl, by decide +kernel, by decide +kernel⟩
abbrev s__law_draw : Stmt := topS 66
abbrev N__law_draw : List Str := ["bag", "size", "item", "digit"]
abbrev P__law_draw : List Str := ["bag", "size"]
theorem sc__law_draw : FnScope N__law_draw P__law_draw (defScope s__law_draw) :=
  ⟨rfl, rfl, rfl, by decide +kernel, rfl, by decide +kernel, by decide +kernel⟩
abbrev s__law_of : Stmt := topS 67
abbrev N__law_of : List Str := ["bag", "things"]
abbrev P__law_of : List Str := ["bag", "things"]
theorem sc__law_of : FnScope N__law_of P__law_of (defScope s__law_of) :=
  ⟨rfl, rfl, rfl, by decide +kernel, rfl, by decide +kernel, by decide +kernel⟩
abbrev s__law_like : Stmt := topS 68
abbrev N__law_like : List Str := ["told", "due", "a", "b"]
abbrev P__law_like : List Str := ["told", "due"]
theorem sc__law_like : FnScope N__law_like P__law_like (defScope s__law_like) :=
  ⟨rfl, rfl, rfl, by decide +kernel, rfl, by decide +kernel, by decide +kernel⟩
abbrev s__law_frozen : Stmt := topS 69
abbrev N__law_frozen : List Str := ["value", "item"]
abbrev P__law_frozen : List Str := ["value"]
theorem sc__law_frozen : FnScope N__law_frozen P__law_frozen (defScope s__law_frozen) :=
  ⟨rfl, rfl, rfl, by decide +kernel, rfl, by decide +kernel, by decide +kernel⟩
abbrev s__law_lists : Stmt := topS 70
abbrev N__law_lists : List Str := ["value", "item"]
abbrev P__law_lists : List Str := ["value"]
theorem sc__law_lists : FnScope N__law_lists P__law_lists (defScope s__law_lists) :=
  ⟨rfl, rfl, rfl, by decide +kernel, rfl, by decide +kernel, by decide +kernel⟩
abbrev s__law_signs : Stmt := topS 71
abbrev N__law_signs : List Str := []
abbrev P__law_signs : List Str := []
theorem sc__law_signs : FnScope N__law_signs P__law_signs (defScope s__law_signs) :=
  ⟨rfl, rfl, rfl, by decide +kernel, rfl, by decide +kernel, by decide +kernel⟩
abbrev s__law_string : Stmt := topS 72
abbrev N__law_string : List Str := ["bag", "size", "pool", "k"]
abbrev P__law_string : List Str := ["bag", "size"]
theorem sc__law_string : FnScope N__law_string P__law_string (defScope s__law_string) :=
  ⟨rfl, rfl, rfl, by decide +kernel, rfl, by decide +kernel, by decide +kernel⟩
abbrev s__law_is_number : Stmt := topS 73
abbrev N__law_is_number : List Str := ["value", "low", "top"]
abbrev P__law_is_number : List Str := ["value", "low", "top"]
theorem sc__law_is_number : FnScope N__law_is_number P__law_is_number (defScope s__law_is_number) :=
  ⟨rfl, rfl, rfl, by decide +kernel, rfl, by decide +kernel, by decide +kernel⟩
abbrev s__law_row : Stmt := topS 74
abbrev N__law_row : List Str := ["bag", "many", "wide", "k"]
abbrev P__law_row : List Str := ["bag", "many", "wide"]
theorem sc__law_row : FnScope N__law_row P__law_row (defScope s__law_row) :=
  ⟨rfl, rfl, rfl, by decide +kernel, rfl, by decide +kernel, by decide +kernel⟩
abbrev s__law_grid : Stmt := topS 75
abbrev N__law_grid : List Str := ["bag", "many", "wide", "k"]
abbrev P__law_grid : List Str := ["bag", "many", "wide"]
theorem sc__law_grid : FnScope N__law_grid P__law_grid (defScope s__law_grid) :=
  ⟨rfl, rfl, rfl, by decide +kernel, rfl, by decide +kernel, by decide +kernel⟩
abbrev s__law_head : Stmt := topS 76
abbrev N__law_head : List Str := ["bag", "many", "wide", "pick", "query"]
abbrev P__law_head : List Str := ["bag", "many", "wide"]
theorem sc__law_head : FnScope N__law_head P__law_head (defScope s__law_head) :=
  ⟨rfl, rfl, rfl, by decide +kernel, rfl, by decide +kernel, by decide +kernel⟩
abbrev s__law_parts : Stmt := topS 77
abbrev N__law_parts : List Str := ["bag", "size", "many", "deep", "side", "wide", "chars", "limit", "ids", "k", "spots", "floors", "sides", "j"]
abbrev P__law_parts : List Str := ["bag"]
theorem sc__law_parts : FnScope N__law_parts P__law_parts (defScope s__law_parts) :=
  ⟨rfl, rfl, rfl, by decide +kernel, rfl, by decide +kernel, by decide +kernel⟩
abbrev s__law_is_row : Stmt := topS 78
abbrev N__law_is_row : List Str := ["value", "many", "n"]
abbrev P__law_is_row : List Str := ["value", "many"]
theorem sc__law_is_row : FnScope N__law_is_row P__law_is_row (defScope s__law_is_row) :=
  ⟨rfl, rfl, rfl, by decide +kernel, rfl, by decide +kernel, by decide +kernel⟩
abbrev s__law_is_rows : Stmt := topS 79
abbrev N__law_is_rows : List Str := ["value", "size", "many", "each"]
abbrev P__law_is_rows : List Str := ["value", "size", "many"]
theorem sc__law_is_rows : FnScope N__law_is_rows P__law_is_rows (defScope s__law_is_rows) :=
  ⟨rfl, rfl, rfl, by decide +kernel, rfl, by decide +kernel, by decide +kernel⟩
abbrev s__law_is_floor : Stmt := topS 80
abbrev N__law_is_floor : List Str := ["value", "side", "many", "head", "each"]
abbrev P__law_is_floor : List Str := ["value", "side", "many"]
theorem sc__law_is_floor : FnScope N__law_is_floor P__law_is_floor (defScope s__law_is_floor) :=
  ⟨rfl, rfl, rfl, by decide +kernel, rfl, by decide +kernel, by decide +kernel⟩
abbrev s__law_is_floors : Stmt := topS 81
abbrev N__law_is_floors : List Str := ["value", "many", "side", "each"]
abbrev P__law_is_floors : List Str := ["value", "many"]
theorem sc__law_is_floors : FnScope N__law_is_floors P__law_is_floors (defScope s__law_is_floors) :=
  ⟨rfl, rfl, rfl, by decide +kernel, rfl, by decide +kernel, by decide +kernel⟩
abbrev s__law_first_wrong : Stmt := topS 82
abbrev N__law_first_wrong : List Str := ["p", "sign", "size", "many"]
abbrev P__law_first_wrong : List Str := ["p"]
theorem sc__law_first_wrong : FnScope N__law_first_wrong P__law_first_wrong (defScope s__law_first_wrong) :=
  ⟨rfl, rfl, rfl, by decide +kernel, rfl, by decide +kernel, by decide +kernel⟩
abbrev s__law_odd : Stmt := topS 83
abbrev N__law_odd : List Str := ["bag", "pick"]
abbrev P__law_odd : List Str := ["bag"]
theorem sc__law_odd : FnScope N__law_odd P__law_odd (defScope s__law_odd) :=
  ⟨rfl, rfl, rfl, by decide +kernel, rfl, by decide +kernel, by decide +kernel⟩
abbrev s__law_bend : Stmt := topS 84
abbrev N__law_bend : List Str := ["bag", "value", "deep", "more", "at", "pick"]
abbrev P__law_bend : List Str := ["bag", "value", "deep"]
theorem sc__law_bend : FnScope N__law_bend P__law_bend (defScope s__law_bend) :=
  ⟨rfl, rfl, rfl, by decide +kernel, rfl, by decide +kernel, by decide +kernel⟩
abbrev s__law_free : Stmt := topS 85
abbrev N__law_free : List Str := ["bag", "many"]
abbrev P__law_free : List Str := ["bag", "many"]
theorem sc__law_free : FnScope N__law_free P__law_free (defScope s__law_free) :=
  ⟨rfl, rfl, rfl, by decide +kernel, rfl, by decide +kernel, by decide +kernel⟩
abbrev s__law_deep : Stmt := topS 86
abbrev N__law_deep : List Str := ["bag", "value", "more", "at"]
abbrev P__law_deep : List Str := ["bag", "value"]
theorem sc__law_deep : FnScope N__law_deep P__law_deep (defScope s__law_deep) :=
  ⟨rfl, rfl, rfl, by decide +kernel, rfl, by decide +kernel, by decide +kernel⟩
abbrev s__law_unfit : Stmt := topS 87
abbrev N__law_unfit : List Str := ["bag", "p", "pick", "each", "k", "floor", "floors"]
abbrev P__law_unfit : List Str := ["bag", "p"]
theorem sc__law_unfit : FnScope N__law_unfit P__law_unfit (defScope s__law_unfit) :=
  ⟨rfl, rfl, rfl, by decide +kernel, rfl, by decide +kernel, by decide +kernel⟩
abbrev s__law_refusal : Stmt := topS 88
abbrev N__law_refusal : List Str := ["error"]
abbrev P__law_refusal : List Str := ["error"]
theorem sc__law_refusal : FnScope N__law_refusal P__law_refusal (defScope s__law_refusal) :=
  ⟨rfl, rfl, rfl, by decide +kernel, rfl, by decide +kernel, by decide +kernel⟩
abbrev s__law_told_net : Stmt := topS 89
abbrev N__law_told_net : List Str := ["p", "way", "net", "sizes", "error"]
abbrev P__law_told_net : List Str := ["p", "way"]
theorem sc__law_told_net : FnScope N__law_told_net P__law_told_net (defScope s__law_told_net) :=
  ⟨rfl, rfl, rfl, by decide +kernel, rfl, by decide +kernel, by decide +kernel⟩
abbrev s__law_net_so : Stmt := topS 90
abbrev N__law_net_so : List Str := ["p", "way", "due", "sizes"]
abbrev P__law_net_so : List Str := ["p", "way"]
theorem sc__law_net_so : FnScope N__law_net_so P__law_net_so (defScope s__law_net_so) :=
  ⟨rfl, rfl, rfl, by decide +kernel, rfl, by decide +kernel, by decide +kernel⟩
abbrev s__law_told_shape : Stmt := topS 91
abbrev N__law_told_shape : List Str := ["sizes", "way", "shape", "error"]
abbrev P__law_told_shape : List Str := ["sizes", "way"]
theorem sc__law_told_shape : FnScope N__law_told_shape P__law_told_shape (defScope s__law_told_shape) :=
  ⟨rfl, rfl, rfl, by decide +kernel, rfl, by decide +kernel, by decide +kernel⟩
abbrev s__law_shapes_so : Stmt := topS 92
abbrev N__law_shapes_so : List Str := ["bag", "tops", "lows", "words", "lap", "sizes", "k", "at", "wrong", "due"]
abbrev P__law_shapes_so : List Str := ["bag"]
theorem sc__law_shapes_so : FnScope N__law_shapes_so P__law_shapes_so (defScope s__law_shapes_so) :=
  ⟨rfl, rfl, rfl, by decide +kernel, rfl, by decide +kernel, by decide +kernel⟩
abbrev s_law : Stmt := topS 93
abbrev N_law : List Str := ["script", "bag", "lap", "parts", "trial", "p", "k", "at", "kept", "way"]
abbrev P_law : List Str := ["script"]
theorem sc_law : FnScope N_law P_law (defScope s_law) :=
  ⟨rfl, rfl, rfl, by decide +kernel, rfl, by decide +kernel, by decide +kernel⟩
abbrev s_InvalidNet___init__ : Stmt := inClass (topS 3) 0
abbrev N_InvalidNet___init__ : List Str := ["self", "part"]
abbrev P_InvalidNet___init__ : List Str := ["self", "part"]
theorem sc_InvalidNet___init__ : FnScope N_InvalidNet___init__ P_InvalidNet___init__ (defScope s_InvalidNet___init__) :=
  ⟨rfl, rfl, rfl, by decide +kernel, rfl, by decide +kernel, by decide +kernel⟩
abbrev s_InvalidText___init__ : Stmt := inClass (topS 4) 0
abbrev N_InvalidText___init__ : List Str := ["self", "line"]
abbrev P_InvalidText___init__ : List Str := ["self", "line"]
theorem sc_InvalidText___init__ : FnScope N_InvalidText___init__ P_InvalidText___init__ (defScope s_InvalidText___init__) :=
  ⟨rfl, rfl, rfl, by decide +kernel, rfl, by decide +kernel, by decide +kernel⟩
abbrev s_InvalidAutomaton___init__ : Stmt := inClass (topS 5) 0
abbrev N_InvalidAutomaton___init__ : List Str := ["self", "part"]
abbrev P_InvalidAutomaton___init__ : List Str := ["self", "part"]
theorem sc_InvalidAutomaton___init__ : FnScope N_InvalidAutomaton___init__ P_InvalidAutomaton___init__ (defScope s_InvalidAutomaton___init__) :=
  ⟨rfl, rfl, rfl, by decide +kernel, rfl, by decide +kernel, by decide +kernel⟩
abbrev s_InvalidRequest___init__ : Stmt := inClass (topS 6) 0
abbrev N_InvalidRequest___init__ : List Str := ["self", "field"]
abbrev P_InvalidRequest___init__ : List Str := ["self", "field"]
theorem sc_InvalidRequest___init__ : FnScope N_InvalidRequest___init__ P_InvalidRequest___init__ (defScope s_InvalidRequest___init__) :=
  ⟨rfl, rfl, rfl, by decide +kernel, rfl, by decide +kernel, by decide +kernel⟩
abbrev s_InvalidSetting___init__ : Stmt := inClass (topS 7) 0
abbrev N_InvalidSetting___init__ : List Str := ["self", "field"]
abbrev P_InvalidSetting___init__ : List Str := ["self", "field"]
theorem sc_InvalidSetting___init__ : FnScope N_InvalidSetting___init__ P_InvalidSetting___init__ (defScope s_InvalidSetting___init__) :=
  ⟨rfl, rfl, rfl, by decide +kernel, rfl, by decide +kernel, by decide +kernel⟩
abbrev s_Shape___init__ : Stmt := inClass (topS 36) 0
abbrev N_Shape___init__ : List Str := ["self", "tokens", "width", "layers", "heads", "bounds", "field", "value", "least", "most"]
abbrev P_Shape___init__ : List Str := ["self", "tokens", "width", "layers", "heads"]
theorem sc_Shape___init__ : FnScope N_Shape___init__ P_Shape___init__ (defScope s_Shape___init__) :=
  ⟨rfl, rfl, rfl, by decide +kernel, rfl, by decide +kernel, by decide +kernel⟩
abbrev s_Shape_things : Stmt := inClass (topS 36) 1
abbrev N_Shape_things : List Str := ["self", "found", "layer", "number"]
abbrev P_Shape_things : List Str := ["self"]
theorem sc_Shape_things : FnScope N_Shape_things P_Shape_things (defScope s_Shape_things) :=
  ⟨rfl, rfl, rfl, by decide +kernel, rfl, by decide +kernel, by decide +kernel⟩
abbrev s_Shape___eq__ : Stmt := inClass (topS 36) 2
abbrev N_Shape___eq__ : List Str := ["self", "other"]
abbrev P_Shape___eq__ : List Str := ["self", "other"]
theorem sc_Shape___eq__ : FnScope N_Shape___eq__ P_Shape___eq__ (defScope s_Shape___eq__) :=
  ⟨rfl, rfl, rfl, by decide +kernel, rfl, by decide +kernel, by decide +kernel⟩
abbrev s_Shape___repr__ : Stmt := inClass (topS 36) 3
abbrev N_Shape___repr__ : List Str := ["self"]
abbrev P_Shape___repr__ : List Str := ["self"]
theorem sc_Shape___repr__ : FnScope N_Shape___repr__ P_Shape___repr__ (defScope s_Shape___repr__) :=
  ⟨rfl, rfl, rfl, by decide +kernel, rfl, by decide +kernel, by decide +kernel⟩
abbrev s_NetLines___init__ : Stmt := inClass (topS 54) 0
abbrev N_NetLines___init__ : List Str := ["self", "text"]
abbrev P_NetLines___init__ : List Str := ["self", "text"]
theorem sc_NetLines___init__ : FnScope N_NetLines___init__ P_NetLines___init__ (defScope s_NetLines___init__) :=
  ⟨rfl, rfl, rfl, by decide +kernel, rfl, by decide +kernel, by decide +kernel⟩
abbrev s_NetLines_begins_with : Stmt := inClass (topS 54) 1
abbrev N_NetLines_begins_with : List Str := ["self", "word"]
abbrev P_NetLines_begins_with : List Str := ["self", "word"]
theorem sc_NetLines_begins_with : FnScope N_NetLines_begins_with P_NetLines_begins_with (defScope s_NetLines_begins_with) :=
  ⟨rfl, rfl, rfl, by decide +kernel, rfl, by decide +kernel, by decide +kernel⟩
abbrev s_NetLines_take_opening : Stmt := inClass (topS 54) 2
abbrev N_NetLines_take_opening : List Str := ["self", "words", "cap"]
abbrev P_NetLines_take_opening : List Str := ["self"]
theorem sc_NetLines_take_opening : FnScope N_NetLines_take_opening P_NetLines_take_opening (defScope s_NetLines_take_opening) :=
  ⟨rfl, rfl, rfl, by decide +kernel, rfl, by decide +kernel, by decide +kernel⟩
abbrev s_NetLines_take_row : Stmt := inClass (topS 54) 3
abbrev N_NetLines_take_row : List Str := ["self", "word", "least", "most", "words", "row", "part"]
abbrev P_NetLines_take_row : List Str := ["self", "word", "least", "most"]
theorem sc_NetLines_take_row : FnScope N_NetLines_take_row P_NetLines_take_row (defScope s_NetLines_take_row) :=
  ⟨rfl, rfl, rfl, by decide +kernel, rfl, by decide +kernel, by decide +kernel⟩
abbrev s_NetLines_take_rows : Stmt := inClass (topS 54) 4
abbrev N_NetLines_take_rows : List Str := ["self", "word", "many", "width", "_"]
abbrev P_NetLines_take_rows : List Str := ["self", "word", "many", "width"]
theorem sc_NetLines_take_rows : FnScope N_NetLines_take_rows P_NetLines_take_rows (defScope s_NetLines_take_rows) :=
  ⟨rfl, rfl, rfl, by decide +kernel, rfl, by decide +kernel, by decide +kernel⟩
abbrev s_NetLines_take_word : Stmt := inClass (topS 54) 5
abbrev N_NetLines_take_word : List Str := ["self", "word"]
abbrev P_NetLines_take_word : List Str := ["self", "word"]
theorem sc_NetLines_take_word : FnScope N_NetLines_take_word P_NetLines_take_word (defScope s_NetLines_take_word) :=
  ⟨rfl, rfl, rfl, by decide +kernel, rfl, by decide +kernel, by decide +kernel⟩
abbrev s_NetLines_take_nothing : Stmt := inClass (topS 54) 6
abbrev N_NetLines_take_nothing : List Str := ["self"]
abbrev P_NetLines_take_nothing : List Str := ["self"]
theorem sc_NetLines_take_nothing : FnScope N_NetLines_take_nothing P_NetLines_take_nothing (defScope s_NetLines_take_nothing) :=
  ⟨rfl, rfl, rfl, by decide +kernel, rfl, by decide +kernel, by decide +kernel⟩
abbrev s_NetLines__words : Stmt := inClass (topS 54) 7
abbrev N_NetLines__words : List Str := ["self"]
abbrev P_NetLines__words : List Str := ["self"]
theorem sc_NetLines__words : FnScope N_NetLines__words P_NetLines__words (defScope s_NetLines__words) :=
  ⟨rfl, rfl, rfl, by decide +kernel, rfl, by decide +kernel, by decide +kernel⟩
abbrev s_Net___init__ : Stmt := inClass (topS 63) 0
abbrev N_Net___init__ : List Str := ["self", "tokens", "cap", "token_rows", "place_rows", "layers", "out_rows", "base", "wrong"]
abbrev P_Net___init__ : List Str := ["self", "tokens", "cap", "token_rows", "place_rows", "layers", "out_rows", "base"]
theorem sc_Net___init__ : FnScope N_Net___init__ P_Net___init__ (defScope s_Net___init__) :=
  ⟨rfl, rfl, rfl, by decide +kernel, rfl, by decide +kernel, by decide +kernel⟩
abbrev s_Net_read : Stmt := inClass (topS 63) 1
abbrev N_Net_read : List Str := ["text", "parts"]
abbrev P_Net_read : List Str := ["text"]
theorem sc_Net_read : FnScope N_Net_read P_Net_read (defScope s_Net_read) :=
  ⟨rfl, rfl, rfl, by decide +kernel, rfl, by decide +kernel, by decide +kernel⟩
abbrev s_Net_embedded : Stmt := inClass (topS 63) 2
abbrev N_Net_embedded : List Str := ["self", "token", "place", "place_row"]
abbrev P_Net_embedded : List Str := ["self", "token", "place"]
theorem sc_Net_embedded : FnScope N_Net_embedded P_Net_embedded (defScope s_Net_embedded) :=
  ⟨rfl, rfl, rfl, by decide +kernel, rfl, by decide +kernel, by decide +kernel⟩
abbrev s_Net_place : Stmt := inClass (topS 63) 3
abbrev N_Net_place : List Str := ["self", "kept", "token", "row", "kept_row", "at", "layer", "pairs", "ahead"]
abbrev P_Net_place : List Str := ["self", "kept", "token"]
theorem sc_Net_place : FnScope N_Net_place P_Net_place (defScope s_Net_place) :=
  ⟨rfl, rfl, rfl, by decide +kernel, rfl, by decide +kernel, by decide +kernel⟩
abbrev s_Net_weights : Stmt := inClass (topS 63) 4
abbrev N_Net_weights : List Str := ["self", "row"]
abbrev P_Net_weights : List Str := ["self", "row"]
theorem sc_Net_weights : FnScope N_Net_weights P_Net_weights (defScope s_Net_weights) :=
  ⟨rfl, rfl, rfl, by decide +kernel, rfl, by decide +kernel, by decide +kernel⟩
abbrev s_Net_number_of : Stmt := inClass (topS 63) 5
abbrev N_Net_number_of : List Str := ["self", "character"]
abbrev P_Net_number_of : List Str := ["self", "character"]
theorem sc_Net_number_of : FnScope N_Net_number_of P_Net_number_of (defScope s_Net_number_of) :=
  ⟨rfl, rfl, rfl, by decide +kernel, rfl, by decide +kernel, by decide +kernel⟩
abbrev s_Net_numbers : Stmt := inClass (topS 63) 6
abbrev N_Net_numbers : List Str := ["self", "string", "numbers", "character"]
abbrev P_Net_numbers : List Str := ["self", "string"]
theorem sc_Net_numbers : FnScope N_Net_numbers P_Net_numbers (defScope s_Net_numbers) :=
  ⟨rfl, rfl, rfl, by decide +kernel, rfl, by decide +kernel, by decide +kernel⟩
abbrev s_Net_characters : Stmt := inClass (topS 63) 7
abbrev N_Net_characters : List Str := ["self", "text"]
abbrev P_Net_characters : List Str := ["self", "text"]
theorem sc_Net_characters : FnScope N_Net_characters P_Net_characters (defScope s_Net_characters) :=
  ⟨rfl, rfl, rfl, by decide +kernel, rfl, by decide +kernel, by decide +kernel⟩
abbrev s_Net_written : Stmt := inClass (topS 63) 8
abbrev N_Net_written : List Str := ["self", "line"]
abbrev P_Net_written : List Str := ["self"]
theorem sc_Net_written : FnScope N_Net_written P_Net_written (defScope s_Net_written) :=
  ⟨rfl, rfl, rfl, by decide +kernel, rfl, by decide +kernel, by decide +kernel⟩
abbrev s_Net___eq__ : Stmt := inClass (topS 63) 9
abbrev N_Net___eq__ : List Str := ["self", "other"]
abbrev P_Net___eq__ : List Str := ["self", "other"]
theorem sc_Net___eq__ : FnScope N_Net___eq__ P_Net___eq__ (defScope s_Net___eq__) :=
  ⟨rfl, rfl, rfl, by decide +kernel, rfl, by decide +kernel, by decide +kernel⟩
abbrev s_Net___repr__ : Stmt := inClass (topS 63) 10
abbrev N_Net___repr__ : List Str := ["self"]
abbrev P_Net___repr__ : List Str := ["self"]
theorem sc_Net___repr__ : FnScope N_Net___repr__ P_Net___repr__ (defScope s_Net___repr__) :=
  ⟨rfl, rfl, rfl, by decide +kernel, rfl, by decide +kernel, by decide +kernel⟩
structure Top (K : PySem.W.Frag) (mg : Str → Option Value) : Prop where
  f_as_tuples : ∃ (f : Addr) (fd : FuncData), FunD K "as_tuples" "as_tuples" (defArgs s_as_tuples) (defBody s_as_tuples) (defScope s_as_tuples) [] [] f fd ∧ mg "as_tuples" = some (.ref f)
  f_is_number : ∃ (f : Addr) (fd : FuncData), FunD K "is_number" "is_number" (defArgs s_is_number) (defBody s_is_number) (defScope s_is_number) [] [] f fd ∧ mg "is_number" = some (.ref f)
  f_is_tokens : ∃ (f : Addr) (fd : FuncData), FunD K "is_tokens" "is_tokens" (defArgs s_is_tokens) (defBody s_is_tokens) (defScope s_is_tokens) [] [] f fd ∧ mg "is_tokens" = some (.ref f)
  f__can_be_token : ∃ (f : Addr) (fd : FuncData), FunD K "_can_be_token" "_can_be_token" (defArgs s__can_be_token) (defBody s__can_be_token) (defScope s__can_be_token) [] [] f fd ∧ mg "_can_be_token" = some (.ref f)
  f_wrong_part : ∃ (f : Addr) (fd : FuncData), FunD K "wrong_part" "wrong_part" (defArgs s_wrong_part) (defBody s_wrong_part) (defScope s_wrong_part) [] [] f fd ∧ mg "wrong_part" = some (.ref f)
  f__is_list : ∃ (f : Addr) (fd : FuncData), FunD K "_is_list" "_is_list" (defArgs s__is_list) (defBody s__is_list) (defScope s__is_list) [] [] f fd ∧ mg "_is_list" = some (.ref f)
  f__is_row : ∃ (f : Addr) (fd : FuncData), FunD K "_is_row" "_is_row" (defArgs s__is_row) (defBody s__is_row) (defScope s__is_row) [] [] f fd ∧ mg "_is_row" = some (.ref f)
  f__are_rows : ∃ (f : Addr) (fd : FuncData), FunD K "_are_rows" "_are_rows" (defArgs s__are_rows) (defBody s__are_rows) (defScope s__are_rows) [] [] f fd ∧ mg "_are_rows" = some (.ref f)
  f__are_token_rows : ∃ (f : Addr) (fd : FuncData), FunD K "_are_token_rows" "_are_token_rows" (defArgs s__are_token_rows) (defBody s__are_token_rows) (defScope s__are_token_rows) [] [] f fd ∧ mg "_are_token_rows" = some (.ref f)
  f__are_layers : ∃ (f : Addr) (fd : FuncData), FunD K "_are_layers" "_are_layers" (defArgs s__are_layers) (defBody s__are_layers) (defScope s__are_layers) [] [] f fd ∧ mg "_are_layers" = some (.ref f)
  f__is_layer : ∃ (f : Addr) (fd : FuncData), FunD K "_is_layer" "_is_layer" (defArgs s__is_layer) (defBody s__is_layer) (defScope s__is_layer) [] [] f fd ∧ mg "_is_layer" = some (.ref f)
  f__is_head : ∃ (f : Addr) (fd : FuncData), FunD K "_is_head" "_is_head" (defArgs s__is_head) (defBody s__is_head) (defScope s__is_head) [] [] f fd ∧ mg "_is_head" = some (.ref f)
  f__is_table : ∃ (f : Addr) (fd : FuncData), FunD K "_is_table" "_is_table" (defArgs s__is_table) (defBody s__is_table) (defScope s__is_table) [] [] f fd ∧ mg "_is_table" = some (.ref f)
  f__law_bag : ∃ (f : Addr) (fd : FuncData), FunD K "_law_bag" "_law_bag" (defArgs s__law_bag) (defBody s__law_bag) (defScope s__law_bag) [] [] f fd ∧ mg "_law_bag" = some (.ref f)
  f__law_draw : ∃ (f : Addr) (fd : FuncData), FunD K "_law_draw" "_law_draw" (defArgs s__law_draw) (defBody s__law_draw) (defScope s__law_draw) [] [] f fd ∧ mg "_law_draw" = some (.ref f)
  f__law_of : ∃ (f : Addr) (fd : FuncData), FunD K "_law_of" "_law_of" (defArgs s__law_of) (defBody s__law_of) (defScope s__law_of) [] [] f fd ∧ mg "_law_of" = some (.ref f)
  f__law_like : ∃ (f : Addr) (fd : FuncData), FunD K "_law_like" "_law_like" (defArgs s__law_like) (defBody s__law_like) (defScope s__law_like) [] [] f fd ∧ mg "_law_like" = some (.ref f)
  f__law_frozen : ∃ (f : Addr) (fd : FuncData), FunD K "_law_frozen" "_law_frozen" (defArgs s__law_frozen) (defBody s__law_frozen) (defScope s__law_frozen) [] [] f fd ∧ mg "_law_frozen" = some (.ref f)
  f__law_lists : ∃ (f : Addr) (fd : FuncData), FunD K "_law_lists" "_law_lists" (defArgs s__law_lists) (defBody s__law_lists) (defScope s__law_lists) [] [] f fd ∧ mg "_law_lists" = some (.ref f)
  f__law_signs : ∃ (f : Addr) (fd : FuncData), FunD K "_law_signs" "_law_signs" (defArgs s__law_signs) (defBody s__law_signs) (defScope s__law_signs) [] [] f fd ∧ mg "_law_signs" = some (.ref f)
  f__law_string : ∃ (f : Addr) (fd : FuncData), FunD K "_law_string" "_law_string" (defArgs s__law_string) (defBody s__law_string) (defScope s__law_string) [] [] f fd ∧ mg "_law_string" = some (.ref f)
  f__law_is_number : ∃ (f : Addr) (fd : FuncData), FunD K "_law_is_number" "_law_is_number" (defArgs s__law_is_number) (defBody s__law_is_number) (defScope s__law_is_number) [] [] f fd ∧ mg "_law_is_number" = some (.ref f)
  f__law_row : ∃ (f : Addr) (fd : FuncData), FunD K "_law_row" "_law_row" (defArgs s__law_row) (defBody s__law_row) (defScope s__law_row) [] [] f fd ∧ mg "_law_row" = some (.ref f)
  f__law_grid : ∃ (f : Addr) (fd : FuncData), FunD K "_law_grid" "_law_grid" (defArgs s__law_grid) (defBody s__law_grid) (defScope s__law_grid) [] [] f fd ∧ mg "_law_grid" = some (.ref f)
  f__law_head : ∃ (f : Addr) (fd : FuncData), FunD K "_law_head" "_law_head" (defArgs s__law_head) (defBody s__law_head) (defScope s__law_head) [] [] f fd ∧ mg "_law_head" = some (.ref f)
  f__law_parts : ∃ (f : Addr) (fd : FuncData), FunD K "_law_parts" "_law_parts" (defArgs s__law_parts) (defBody s__law_parts) (defScope s__law_parts) [] [] f fd ∧ mg "_law_parts" = some (.ref f)
  f__law_is_row : ∃ (f : Addr) (fd : FuncData), FunD K "_law_is_row" "_law_is_row" (defArgs s__law_is_row) (defBody s__law_is_row) (defScope s__law_is_row) [] [] f fd ∧ mg "_law_is_row" = some (.ref f)
  f__law_is_rows : ∃ (f : Addr) (fd : FuncData), FunD K "_law_is_rows" "_law_is_rows" (defArgs s__law_is_rows) (defBody s__law_is_rows) (defScope s__law_is_rows) [] [] f fd ∧ mg "_law_is_rows" = some (.ref f)
  f__law_is_floor : ∃ (f : Addr) (fd : FuncData), FunD K "_law_is_floor" "_law_is_floor" (defArgs s__law_is_floor) (defBody s__law_is_floor) (defScope s__law_is_floor) [] [] f fd ∧ mg "_law_is_floor" = some (.ref f)
  f__law_is_floors : ∃ (f : Addr) (fd : FuncData), FunD K "_law_is_floors" "_law_is_floors" (defArgs s__law_is_floors) (defBody s__law_is_floors) (defScope s__law_is_floors) [] [] f fd ∧ mg "_law_is_floors" = some (.ref f)
  f__law_first_wrong : ∃ (f : Addr) (fd : FuncData), FunD K "_law_first_wrong" "_law_first_wrong" (defArgs s__law_first_wrong) (defBody s__law_first_wrong) (defScope s__law_first_wrong) [] [] f fd ∧ mg "_law_first_wrong" = some (.ref f)
  f__law_odd : ∃ (f : Addr) (fd : FuncData), FunD K "_law_odd" "_law_odd" (defArgs s__law_odd) (defBody s__law_odd) (defScope s__law_odd) [] [] f fd ∧ mg "_law_odd" = some (.ref f)
  f__law_bend : ∃ (f : Addr) (fd : FuncData), FunD K "_law_bend" "_law_bend" (defArgs s__law_bend) (defBody s__law_bend) (defScope s__law_bend) [] [] f fd ∧ mg "_law_bend" = some (.ref f)
  f__law_free : ∃ (f : Addr) (fd : FuncData), FunD K "_law_free" "_law_free" (defArgs s__law_free) (defBody s__law_free) (defScope s__law_free) [] [] f fd ∧ mg "_law_free" = some (.ref f)
  f__law_deep : ∃ (f : Addr) (fd : FuncData), FunD K "_law_deep" "_law_deep" (defArgs s__law_deep) (defBody s__law_deep) (defScope s__law_deep) [] [] f fd ∧ mg "_law_deep" = some (.ref f)
  f__law_unfit : ∃ (f : Addr) (fd : FuncData), FunD K "_law_unfit" "_law_unfit" (defArgs s__law_unfit) (defBody s__law_unfit) (defScope s__law_unfit) [] [] f fd ∧ mg "_law_unfit" = some (.ref f)
  f__law_refusal : ∃ (f : Addr) (fd : FuncData), FunD K "_law_refusal" "_law_refusal" (defArgs s__law_refusal) (defBody s__law_refusal) (defScope s__law_refusal) [] [] f fd ∧ mg "_law_refusal" = some (.ref f)
  f__law_told_net : ∃ (f : Addr) (fd : FuncData), FunD K "_law_told_net" "_law_told_net" (defArgs s__law_told_net) (defBody s__law_told_net) (defScope s__law_told_net) [] [] f fd ∧ mg "_law_told_net" = some (.ref f)
  f__law_net_so : ∃ (f : Addr) (fd : FuncData), FunD K "_law_net_so" "_law_net_so" (defArgs s__law_net_so) (defBody s__law_net_so) (defScope s__law_net_so) [] [] f fd ∧ mg "_law_net_so" = some (.ref f)
  f__law_told_shape : ∃ (f : Addr) (fd : FuncData), FunD K "_law_told_shape" "_law_told_shape" (defArgs s__law_told_shape) (defBody s__law_told_shape) (defScope s__law_told_shape) [] [] f fd ∧ mg "_law_told_shape" = some (.ref f)
  f__law_shapes_so : ∃ (f : Addr) (fd : FuncData), FunD K "_law_shapes_so" "_law_shapes_so" (defArgs s__law_shapes_so) (defBody s__law_shapes_so) (defScope s__law_shapes_so) [] [] f fd ∧ mg "_law_shapes_so" = some (.ref f)
  g_Shape : mg "Shape" = some (.ref (He.ga K "Shape"))
  cl_Shape : Cls K (He.ga K "Shape")
  na_Shape_tokens : NoAttr K (He.ga K "Shape") "tokens"
  na_Shape_width : NoAttr K (He.ga K "Shape") "width"
  na_Shape_layers : NoAttr K (He.ga K "Shape") "layers"
  na_Shape_heads : NoAttr K (He.ga K "Shape") "heads"
  mk_Shape : Mk K (He.ga K "Shape") (He.ma K (He.ga K "Shape") "__init__")
  f_Shape___init__ : ∃ (fd : FuncData), FunD K "__init__" "Shape.__init__" (defArgs s_Shape___init__) (defBody s_Shape___init__) (defScope s_Shape___init__) [] [] (He.ma K (He.ga K "Shape") "__init__") fd
  g_Net : mg "Net" = some (.ref (He.ga K "Net"))
  cl_Net : Cls K (He.ga K "Net")
  na_Net_tokens : NoAttr K (He.ga K "Net") "tokens"
  na_Net_cap : NoAttr K (He.ga K "Net") "cap"
  na_Net_token_rows : NoAttr K (He.ga K "Net") "token_rows"
  na_Net_place_rows : NoAttr K (He.ga K "Net") "place_rows"
  na_Net_layers : NoAttr K (He.ga K "Net") "layers"
  na_Net_out_rows : NoAttr K (He.ga K "Net") "out_rows"
  na_Net_base : NoAttr K (He.ga K "Net") "base"
  na_Net_shape : NoAttr K (He.ga K "Net") "shape"
  mk_Net : Mk K (He.ga K "Net") (He.ma K (He.ga K "Net") "__init__")
  f_Net___init__ : ∃ (fd : FuncData), FunD K "__init__" "Net.__init__" (defArgs s_Net___init__) (defBody s_Net___init__) (defScope s_Net___init__) [] [] (He.ma K (He.ga K "Net") "__init__") fd
  g_InvalidNet : mg "InvalidNet" = some (.ref (He.ga K "InvalidNet"))
  ox_InvalidNet : OxK K (He.ga K "InvalidNet") (He.ma K (He.ga K "InvalidNet") "__init__") "part"
  f_InvalidNet___init__ : ∃ (fd : FuncData), FunD K "__init__" "InvalidNet.__init__" (defArgs s_InvalidNet___init__) (defBody s_InvalidNet___init__) (defScope s_InvalidNet___init__) [] [] (He.ma K (He.ga K "InvalidNet") "__init__") fd
  g_InvalidSetting : mg "InvalidSetting" = some (.ref (He.ga K "InvalidSetting"))
  ox_InvalidSetting : OxK K (He.ga K "InvalidSetting") (He.ma K (He.ga K "InvalidSetting") "__init__") "field"
  f_InvalidSetting___init__ : ∃ (fd : FuncData), FunD K "__init__" "InvalidSetting.__init__" (defArgs s_InvalidSetting___init__) (defBody s_InvalidSetting___init__) (defScope s_InvalidSetting___init__) [] [] (He.ma K (He.ga K "InvalidSetting") "__init__") fd
  k_PERCENT : ∃ u, mg "PERCENT" = some u ∧ RelV (.int 37) u
  k_LEAST_TOKENS : ∃ u, mg "LEAST_TOKENS" = some u ∧ RelV (.int 2) u
  k_MOST_TOKENS : ∃ u, mg "MOST_TOKENS" = some u ∧ RelV (.int 6) u
  k_MOST_WIDTH : ∃ u, mg "MOST_WIDTH" = some u ∧ RelV (.int 4) u
  k_MOST_LAYERS : ∃ u, mg "MOST_LAYERS" = some u ∧ RelV (.int 3) u
  k_MOST_HEADS : ∃ u, mg "MOST_HEADS" = some u ∧ RelV (.int 2) u
  k_GREATEST_ENTRY : ∃ u, mg "GREATEST_ENTRY" = some u ∧ RelV (.int 9) u
  k_GREATEST_CAP : ∃ u, mg "GREATEST_CAP" = some u ∧ RelV (.int 99) u
  k_MOST_PLACE_ROWS : ∃ u, mg "MOST_PLACE_ROWS" = some u ∧ RelV (.int 6) u
  k_LAYER_PARTS : ∃ u, mg "LAYER_PARTS" = some u ∧ RelV (.int 3) u
  k_HEAD_TABLES : ∃ u, mg "HEAD_TABLES" = some u ∧ RelV (.int 3) u
  z_tuple : mg "tuple" = none
  z_zip : mg "zip" = none
  z_isinstance : mg "isinstance" = none
  z_list : mg "list" = none
  z_int : mg "int" = none
  z_bool : mg "bool" = none
  z_all : mg "all" = none
  z_str : mg "str" = none
  z_len : mg "len" = none
  z_set : mg "set" = none
  z_ord : mg "ord" = none
  z_range : mg "range" = none
  in_Net : InsK K (He.ga K "Net")
  in_Shape : InsK K (He.ga K "Shape")
  xm_InvalidNet_InvalidError : PySem.W.exmOne K (.ref (He.ga K "InvalidNet")) (.ref (He.ga K "InvalidError")) = some true
  ki_o_InvalidNet_o_InvalidText : PySem.W.kitOne K (.ref (He.ga K "InvalidNet")) (.ref (He.ga K "InvalidText")) = some false
  ki_o_InvalidNet_o_InvalidAutomaton : PySem.W.kitOne K (.ref (He.ga K "InvalidNet")) (.ref (He.ga K "InvalidAutomaton")) = some false
  ki_o_InvalidNet_o_InvalidRequest : PySem.W.kitOne K (.ref (He.ga K "InvalidNet")) (.ref (He.ga K "InvalidRequest")) = some false
  ki_o_InvalidNet_o_InvalidNet : PySem.W.kitOne K (.ref (He.ga K "InvalidNet")) (.ref (He.ga K "InvalidNet")) = some true
  ki_o_InvalidNet_o_InvalidSetting : PySem.W.kitOne K (.ref (He.ga K "InvalidNet")) (.ref (He.ga K "InvalidSetting")) = some false
  xm_InvalidSetting_InvalidError : PySem.W.exmOne K (.ref (He.ga K "InvalidSetting")) (.ref (He.ga K "InvalidError")) = some true
  ki_o_InvalidSetting_o_InvalidText : PySem.W.kitOne K (.ref (He.ga K "InvalidSetting")) (.ref (He.ga K "InvalidText")) = some false
  ki_o_InvalidSetting_o_InvalidAutomaton : PySem.W.kitOne K (.ref (He.ga K "InvalidSetting")) (.ref (He.ga K "InvalidAutomaton")) = some false
  ki_o_InvalidSetting_o_InvalidRequest : PySem.W.kitOne K (.ref (He.ga K "InvalidSetting")) (.ref (He.ga K "InvalidRequest")) = some false
  ki_o_InvalidSetting_o_InvalidNet : PySem.W.kitOne K (.ref (He.ga K "InvalidSetting")) (.ref (He.ga K "InvalidNet")) = some false
  ki_o_InvalidSetting_o_InvalidSetting : PySem.W.kitOne K (.ref (He.ga K "InvalidSetting")) (.ref (He.ga K "InvalidSetting")) = some true
  g_InvalidError : mg "InvalidError" = some (.ref (He.ga K "InvalidError"))
  g_InvalidText : mg "InvalidText" = some (.ref (He.ga K "InvalidText"))
  g_InvalidAutomaton : mg "InvalidAutomaton" = some (.ref (He.ga K "InvalidAutomaton"))
  g_InvalidRequest : mg "InvalidRequest" = some (.ref (He.ga K "InvalidRequest"))
end Q

set_option Elab.async false
set_option linter.all false
set_option maxRecDepth 100000
set_option maxHeartbeats 4000000
namespace Q
open PySem PySem.Spec L2
def d__wall : He.DefD := ⟨("_wall", none), "_wall", "_wall", defArgs s__wall, defBody s__wall, defScope s__wall, [], []⟩
def d_times : He.DefD := ⟨("times", none), "times", "times", defArgs s_times, defBody s_times, defScope s_times, [], []⟩
def d_added : He.DefD := ⟨("added", none), "added", "added", defArgs s_added, defBody s_added, defScope s_added, [], []⟩
def d_cut : He.DefD := ⟨("cut", none), "cut", "cut", defArgs s_cut, defBody s_cut, defScope s_cut, [], []⟩
def d_dot : He.DefD := ⟨("dot", none), "dot", "dot", defArgs s_dot, defBody s_dot, defScope s_dot, [], []⟩
def d_raised : He.DefD := ⟨("raised", none), "raised", "raised", defArgs s_raised, defBody s_raised, defScope s_raised, [], []⟩
def d_as_tuples : He.DefD := ⟨("as_tuples", none), "as_tuples", "as_tuples", defArgs s_as_tuples, defBody s_as_tuples, defScope s_as_tuples, [], []⟩
def d_through_layer : He.DefD := ⟨("through_layer", none), "through_layer", "through_layer", defArgs s_through_layer, defBody s_through_layer, defScope s_through_layer, [], []⟩
def d_looked_at : He.DefD := ⟨("looked_at", none), "looked_at", "looked_at", defArgs s_looked_at, defBody s_looked_at, defScope s_looked_at, [], []⟩
def d_is_number : He.DefD := ⟨("is_number", none), "is_number", "is_number", defArgs s_is_number, defBody s_is_number, defScope s_is_number, [], []⟩
def d_is_tokens : He.DefD := ⟨("is_tokens", none), "is_tokens", "is_tokens", defArgs s_is_tokens, defBody s_is_tokens, defScope s_is_tokens, [], []⟩
def d__can_be_token : He.DefD := ⟨("_can_be_token", none), "_can_be_token", "_can_be_token", defArgs s__can_be_token, defBody s__can_be_token, defScope s__can_be_token, [], []⟩
def d_number_word : He.DefD := ⟨("number_word", none), "number_word", "number_word", defArgs s_number_word, defBody s_number_word, defScope s_number_word, [], []⟩
def d_read_number : He.DefD := ⟨("read_number", none), "read_number", "read_number", defArgs s_read_number, defBody s_read_number, defScope s_read_number, [], []⟩
def d__signed_number : He.DefD := ⟨("_signed_number", none), "_signed_number", "_signed_number", defArgs s__signed_number, defBody s__signed_number, defScope s__signed_number, [], []⟩
def d__digits_number : He.DefD := ⟨("_digits_number", none), "_digits_number", "_digits_number", defArgs s__digits_number, defBody s__digits_number, defScope s__digits_number, [], []⟩
def d_wrong_part : He.DefD := ⟨("wrong_part", none), "wrong_part", "wrong_part", defArgs s_wrong_part, defBody s_wrong_part, defScope s_wrong_part, [], []⟩
def d__is_list : He.DefD := ⟨("_is_list", none), "_is_list", "_is_list", defArgs s__is_list, defBody s__is_list, defScope s__is_list, [], []⟩
def d__is_row : He.DefD := ⟨("_is_row", none), "_is_row", "_is_row", defArgs s__is_row, defBody s__is_row, defScope s__is_row, [], []⟩
def d__are_rows : He.DefD := ⟨("_are_rows", none), "_are_rows", "_are_rows", defArgs s__are_rows, defBody s__are_rows, defScope s__are_rows, [], []⟩
def d__are_token_rows : He.DefD := ⟨("_are_token_rows", none), "_are_token_rows", "_are_token_rows", defArgs s__are_token_rows, defBody s__are_token_rows, defScope s__are_token_rows, [], []⟩
def d__are_layers : He.DefD := ⟨("_are_layers", none), "_are_layers", "_are_layers", defArgs s__are_layers, defBody s__are_layers, defScope s__are_layers, [], []⟩
def d__is_layer : He.DefD := ⟨("_is_layer", none), "_is_layer", "_is_layer", defArgs s__is_layer, defBody s__is_layer, defScope s__is_layer, [], []⟩
def d__is_head : He.DefD := ⟨("_is_head", none), "_is_head", "_is_head", defArgs s__is_head, defBody s__is_head, defScope s__is_head, [], []⟩
def d__is_table : He.DefD := ⟨("_is_table", none), "_is_table", "_is_table", defArgs s__is_table, defBody s__is_table, defScope s__is_table, [], []⟩
def d_read_parts : He.DefD := ⟨("read_parts", none), "read_parts", "read_parts", defArgs s_read_parts, defBody s_read_parts, defScope s_read_parts, [], []⟩
def d__place_rows : He.DefD := ⟨("_place_rows", none), "_place_rows", "_place_rows", defArgs s__place_rows, defBody s__place_rows, defScope s__place_rows, [], []⟩
def d__layers : He.DefD := ⟨("_layers", none), "_layers", "_layers", defArgs s__layers, defBody s__layers, defScope s__layers, [], []⟩
def d__layer : He.DefD := ⟨("_layer", none), "_layer", "_layer", defArgs s__layer, defBody s__layer, defScope s__layer, [], []⟩
def d__head : He.DefD := ⟨("_head", none), "_head", "_head", defArgs s__head, defBody s__head, defScope s__head, [], []⟩
def d_lines_of : He.DefD := ⟨("lines_of", none), "lines_of", "lines_of", defArgs s_lines_of, defBody s_lines_of, defScope s_lines_of, [], []⟩
def d__row_lines : He.DefD := ⟨("_row_lines", none), "_row_lines", "_row_lines", defArgs s__row_lines, defBody s__row_lines, defScope s__row_lines, [], []⟩
def d__law_bag : He.DefD := ⟨("_law_bag", none), "_law_bag", "_law_bag", defArgs s__law_bag, defBody s__law_bag, defScope s__law_bag, [], []⟩
def d__law_draw : He.DefD := ⟨("_law_draw", none), "_law_draw", "_law_draw", defArgs s__law_draw, defBody s__law_draw, defScope s__law_draw, [], []⟩
def d__law_of : He.DefD := ⟨("_law_of", none), "_law_of", "_law_of", defArgs s__law_of, defBody s__law_of, defScope s__law_of, [], []⟩
def d__law_like : He.DefD := ⟨("_law_like", none), "_law_like", "_law_like", defArgs s__law_like, defBody s__law_like, defScope s__law_like, [], []⟩
def d__law_frozen : He.DefD := ⟨("_law_frozen", none), "_law_frozen", "_law_frozen", defArgs s__law_frozen, defBody s__law_frozen, defScope s__law_frozen, [], []⟩
def d__law_lists : He.DefD := ⟨("_law_lists", none), "_law_lists", "_law_lists", defArgs s__law_lists, defBody s__law_lists, defScope s__law_lists, [], []⟩
def d__law_signs : He.DefD := ⟨("_law_signs", none), "_law_signs", "_law_signs", defArgs s__law_signs, defBody s__law_signs, defScope s__law_signs, [], []⟩
def d__law_string : He.DefD := ⟨("_law_string", none), "_law_string", "_law_string", defArgs s__law_string, defBody s__law_string, defScope s__law_string, [], []⟩
def d__law_is_number : He.DefD := ⟨("_law_is_number", none), "_law_is_number", "_law_is_number", defArgs s__law_is_number, defBody s__law_is_number, defScope s__law_is_number, [], []⟩
def d__law_row : He.DefD := ⟨("_law_row", none), "_law_row", "_law_row", defArgs s__law_row, defBody s__law_row, defScope s__law_row, [], []⟩
def d__law_grid : He.DefD := ⟨("_law_grid", none), "_law_grid", "_law_grid", defArgs s__law_grid, defBody s__law_grid, defScope s__law_grid, [], []⟩
def d__law_head : He.DefD := ⟨("_law_head", none), "_law_head", "_law_head", defArgs s__law_head, defBody s__law_head, defScope s__law_head, [], []⟩
def d__law_parts : He.DefD := ⟨("_law_parts", none), "_law_parts", "_law_parts", defArgs s__law_parts, defBody s__law_parts, defScope s__law_parts, [], []⟩
def d__law_is_row : He.DefD := ⟨("_law_is_row", none), "_law_is_row", "_law_is_row", defArgs s__law_is_row, defBody s__law_is_row, defScope s__law_is_row, [], []⟩
def d__law_is_rows : He.DefD := ⟨("_law_is_rows", none), "_law_is_rows", "_law_is_rows", defArgs s__law_is_rows, defBody s__law_is_rows, defScope s__law_is_rows, [], []⟩
def d__law_is_floor : He.DefD := ⟨("_law_is_floor", none), "_law_is_floor", "_law_is_floor", defArgs s__law_is_floor, defBody s__law_is_floor, defScope s__law_is_floor, [], []⟩
def d__law_is_floors : He.DefD := ⟨("_law_is_floors", none), "_law_is_floors", "_law_is_floors", defArgs s__law_is_floors, defBody s__law_is_floors, defScope s__law_is_floors, [], []⟩
def d__law_first_wrong : He.DefD := ⟨("_law_first_wrong", none), "_law_first_wrong", "_law_first_wrong", defArgs s__law_first_wrong, defBody s__law_first_wrong, defScope s__law_first_wrong, [], []⟩
def d__law_odd : He.DefD := ⟨("_law_odd", none), "_law_odd", "_law_odd", defArgs s__law_odd, defBody s__law_odd, defScope s__law_odd, [], []⟩
def d__law_bend : He.DefD := ⟨("_law_bend", none), "_law_bend", "_law_bend", defArgs s__law_bend, defBody s__law_bend, defScope s__law_bend, [], []⟩
def d__law_free : He.DefD := ⟨("_law_free", none), "_law_free", "_law_free", defArgs s__law_free, defBody s__law_free, defScope s__law_free, [], []⟩
def d__law_deep : He.DefD := ⟨("_law_deep", none), "_law_deep", "_law_deep", defArgs s__law_deep, defBody s__law_deep, defScope s__law_deep, [], []⟩
def d__law_unfit : He.DefD := ⟨("_law_unfit", none), "_law_unfit", "_law_unfit", defArgs s__law_unfit, defBody s__law_unfit, defScope s__law_unfit, [], []⟩
def d__law_refusal : He.DefD := ⟨("_law_refusal", none), "_law_refusal", "_law_refusal", defArgs s__law_refusal, defBody s__law_refusal, defScope s__law_refusal, [], []⟩
def d__law_told_net : He.DefD := ⟨("_law_told_net", none), "_law_told_net", "_law_told_net", defArgs s__law_told_net, defBody s__law_told_net, defScope s__law_told_net, [], []⟩
def d__law_net_so : He.DefD := ⟨("_law_net_so", none), "_law_net_so", "_law_net_so", defArgs s__law_net_so, defBody s__law_net_so, defScope s__law_net_so, [], []⟩
def d__law_told_shape : He.DefD := ⟨("_law_told_shape", none), "_law_told_shape", "_law_told_shape", defArgs s__law_told_shape, defBody s__law_told_shape, defScope s__law_told_shape, [], []⟩
def d__law_shapes_so : He.DefD := ⟨("_law_shapes_so", none), "_law_shapes_so", "_law_shapes_so", defArgs s__law_shapes_so, defBody s__law_shapes_so, defScope s__law_shapes_so, [], []⟩
def d_law : He.DefD := ⟨("law", none), "law", "law", defArgs s_law, defBody s_law, defScope s_law, [], []⟩
def d_Shape___init__ : He.DefD := ⟨("Shape", some "__init__"), "__init__", "Shape.__init__", defArgs s_Shape___init__, defBody s_Shape___init__, defScope s_Shape___init__, [], []⟩
def d_Shape_things : He.DefD := ⟨("Shape", some "things"), "things", "Shape.things", defArgs s_Shape_things, defBody s_Shape_things, defScope s_Shape_things, [], []⟩
def d_Shape___eq__ : He.DefD := ⟨("Shape", some "__eq__"), "__eq__", "Shape.__eq__", defArgs s_Shape___eq__, defBody s_Shape___eq__, defScope s_Shape___eq__, [], []⟩
def d_Shape___repr__ : He.DefD := ⟨("Shape", some "__repr__"), "__repr__", "Shape.__repr__", defArgs s_Shape___repr__, defBody s_Shape___repr__, defScope s_Shape___repr__, [], []⟩
def d_NetLines___init__ : He.DefD := ⟨("NetLines", some "__init__"), "__init__", "NetLines.__init__", defArgs s_NetLines___init__, defBody s_NetLines___init__, defScope s_NetLines___init__, [], []⟩
def d_NetLines_begins_with : He.DefD := ⟨("NetLines", some "begins_with"), "begins_with", "NetLines.begins_with", defArgs s_NetLines_begins_with, defBody s_NetLines_begins_with, defScope s_NetLines_begins_with, [], []⟩
def d_NetLines_take_opening : He.DefD := ⟨("NetLines", some "take_opening"), "take_opening", "NetLines.take_opening", defArgs s_NetLines_take_opening, defBody s_NetLines_take_opening, defScope s_NetLines_take_opening, [], []⟩
def d_NetLines_take_row : He.DefD := ⟨("NetLines", some "take_row"), "take_row", "NetLines.take_row", defArgs s_NetLines_take_row, defBody s_NetLines_take_row, defScope s_NetLines_take_row, [], []⟩
def d_NetLines_take_rows : He.DefD := ⟨("NetLines", some "take_rows"), "take_rows", "NetLines.take_rows", defArgs s_NetLines_take_rows, defBody s_NetLines_take_rows, defScope s_NetLines_take_rows, [], []⟩
def d_NetLines_take_word : He.DefD := ⟨("NetLines", some "take_word"), "take_word", "NetLines.take_word", defArgs s_NetLines_take_word, defBody s_NetLines_take_word, defScope s_NetLines_take_word, [], []⟩
def d_NetLines_take_nothing : He.DefD := ⟨("NetLines", some "take_nothing"), "take_nothing", "NetLines.take_nothing", defArgs s_NetLines_take_nothing, defBody s_NetLines_take_nothing, defScope s_NetLines_take_nothing, [], []⟩
def d_NetLines__words : He.DefD := ⟨("NetLines", some "_words"), "_words", "NetLines._words", defArgs s_NetLines__words, defBody s_NetLines__words, defScope s_NetLines__words, [], []⟩
def d_Net___init__ : He.DefD := ⟨("Net", some "__init__"), "__init__", "Net.__init__", defArgs s_Net___init__, defBody s_Net___init__, defScope s_Net___init__, [], []⟩
def d_Net_embedded : He.DefD := ⟨("Net", some "embedded"), "embedded", "Net.embedded", defArgs s_Net_embedded, defBody s_Net_embedded, defScope s_Net_embedded, [], []⟩
def d_Net_place : He.DefD := ⟨("Net", some "place"), "place", "Net.place", defArgs s_Net_place, defBody s_Net_place, defScope s_Net_place, [], []⟩
def d_Net_weights : He.DefD := ⟨("Net", some "weights"), "weights", "Net.weights", defArgs s_Net_weights, defBody s_Net_weights, defScope s_Net_weights, [], []⟩
def d_Net_number_of : He.DefD := ⟨("Net", some "number_of"), "number_of", "Net.number_of", defArgs s_Net_number_of, defBody s_Net_number_of, defScope s_Net_number_of, [], []⟩
def d_Net_numbers : He.DefD := ⟨("Net", some "numbers"), "numbers", "Net.numbers", defArgs s_Net_numbers, defBody s_Net_numbers, defScope s_Net_numbers, [], []⟩
def d_Net_characters : He.DefD := ⟨("Net", some "characters"), "characters", "Net.characters", defArgs s_Net_characters, defBody s_Net_characters, defScope s_Net_characters, [], []⟩
def d_Net_written : He.DefD := ⟨("Net", some "written"), "written", "Net.written", defArgs s_Net_written, defBody s_Net_written, defScope s_Net_written, [], []⟩
def d_Net___eq__ : He.DefD := ⟨("Net", some "__eq__"), "__eq__", "Net.__eq__", defArgs s_Net___eq__, defBody s_Net___eq__, defScope s_Net___eq__, [], []⟩
def d_Net___repr__ : He.DefD := ⟨("Net", some "__repr__"), "__repr__", "Net.__repr__", defArgs s_Net___repr__, defBody s_Net___repr__, defScope s_Net___repr__, [], []⟩
def d_InvalidNet___init__ : He.DefD := ⟨("InvalidNet", some "__init__"), "__init__", "InvalidNet.__init__", defArgs s_InvalidNet___init__, defBody s_InvalidNet___init__, defScope s_InvalidNet___init__, [], []⟩
def d_InvalidSetting___init__ : He.DefD := ⟨("InvalidSetting", some "__init__"), "__init__", "InvalidSetting.__init__", defArgs s_InvalidSetting___init__, defBody s_InvalidSetting___init__, defScope s_InvalidSetting___init__, [], []⟩
def fnL : List He.DefD := [d_as_tuples, d_is_number, d_is_tokens, d__can_be_token, d_wrong_part, d__is_list, d__is_row, d__are_rows, d__are_token_rows, d__are_layers, d__is_layer, d__is_head, d__is_table, d__law_bag, d__law_draw, d__law_of, d__law_like, d__law_frozen, d__law_lists, d__law_signs, d__law_string, d__law_is_number, d__law_row, d__law_grid, d__law_head, d__law_parts, d__law_is_row, d__law_is_rows, d__law_is_floor, d__law_is_floors, d__law_first_wrong, d__law_odd, d__law_bend, d__law_free, d__law_deep, d__law_unfit, d__law_refusal, d__law_told_net, d__law_net_so, d__law_told_shape, d__law_shapes_so, d_law, d_Shape___init__, d_Net___init__, d_InvalidNet___init__, d_InvalidSetting___init__]
def tsL : List (PySem.W.Frag → Bool) := [fun K => insB K "Net", fun K => insB K "Shape", fun K => decide (PySem.W.exmOne K (.ref (He.ga K "InvalidNet")) (.ref (He.ga K "InvalidError")) = some true), fun K => decide (PySem.W.kitOne K (.ref (He.ga K "InvalidNet")) (.ref (He.ga K "InvalidText")) = some false), fun K => decide (PySem.W.kitOne K (.ref (He.ga K "InvalidNet")) (.ref (He.ga K "InvalidAutomaton")) = some false), fun K => decide (PySem.W.kitOne K (.ref (He.ga K "InvalidNet")) (.ref (He.ga K "InvalidRequest")) = some false), fun K => decide (PySem.W.kitOne K (.ref (He.ga K "InvalidNet")) (.ref (He.ga K "InvalidNet")) = some true), fun K => decide (PySem.W.kitOne K (.ref (He.ga K "InvalidNet")) (.ref (He.ga K "InvalidSetting")) = some false), fun K => decide (PySem.W.exmOne K (.ref (He.ga K "InvalidSetting")) (.ref (He.ga K "InvalidError")) = some true), fun K => decide (PySem.W.kitOne K (.ref (He.ga K "InvalidSetting")) (.ref (He.ga K "InvalidText")) = some false), fun K => decide (PySem.W.kitOne K (.ref (He.ga K "InvalidSetting")) (.ref (He.ga K "InvalidAutomaton")) = some false), fun K => decide (PySem.W.kitOne K (.ref (He.ga K "InvalidSetting")) (.ref (He.ga K "InvalidRequest")) = some false), fun K => decide (PySem.W.kitOne K (.ref (He.ga K "InvalidSetting")) (.ref (He.ga K "InvalidNet")) = some false), fun K => decide (PySem.W.kitOne K (.ref (He.ga K "InvalidSetting")) (.ref (He.ga K "InvalidSetting")) = some true), fun K => He.Fa.ok K (.glo "InvalidError"), fun K => He.Fa.ok K (.glo "InvalidText"), fun K => He.Fa.ok K (.glo "InvalidAutomaton"), fun K => He.Fa.ok K (.glo "InvalidRequest"), fun K => oxB K (He.ga K "InvalidNet") (He.ma K (He.ga K "InvalidNet") "__init__") "part", fun K => oxB K (He.ga K "InvalidSetting") (He.ma K (He.ga K "InvalidSetting") "__init__") "field"]
def prL : List PrpD := []
def faL : List He.Fa := [.glo "as_tuples", .glo "is_number", .glo "is_tokens", .glo "_can_be_token", .glo "wrong_part", .glo "_is_list", .glo "_is_row", .glo "_are_rows", .glo "_are_token_rows", .glo "_are_layers", .glo "_is_layer", .glo "_is_head", .glo "_is_table", .glo "_law_bag", .glo "_law_draw", .glo "_law_of", .glo "_law_like", .glo "_law_frozen", .glo "_law_lists", .glo "_law_signs", .glo "_law_string", .glo "_law_is_number", .glo "_law_row", .glo "_law_grid", .glo "_law_head", .glo "_law_parts", .glo "_law_is_row", .glo "_law_is_rows", .glo "_law_is_floor", .glo "_law_is_floors", .glo "_law_first_wrong", .glo "_law_odd", .glo "_law_bend", .glo "_law_free", .glo "_law_deep", .glo "_law_unfit", .glo "_law_refusal", .glo "_law_told_net", .glo "_law_net_so", .glo "_law_told_shape", .glo "_law_shapes_so", .glo "law", .free "tuple", .free "zip", .free "isinstance", .free "list", .free "int", .free "bool", .free "all", .free "str", .free "len", .free "set", .free "ord", .free "range", .glo "Shape", .cls "Shape", .noat "Shape" "tokens", .noat "Shape" "width", .noat "Shape" "layers", .noat "Shape" "heads", .mkr "Shape", .glo "Net", .cls "Net", .noat "Net" "tokens", .noat "Net" "cap", .noat "Net" "token_rows", .noat "Net" "place_rows", .noat "Net" "layers", .noat "Net" "out_rows", .noat "Net" "base", .noat "Net" "shape", .mkr "Net", .glo "InvalidNet", .glo "InvalidSetting", .int "PERCENT" 37, .int "LEAST_TOKENS" 2, .int "MOST_TOKENS" 6, .int "MOST_WIDTH" 4, .int "MOST_LAYERS" 3, .int "MOST_HEADS" 2, .int "GREATEST_ENTRY" 9, .int "GREATEST_CAP" 99, .int "MOST_PLACE_ROWS" 6, .int "LAYER_PARTS" 3, .int "HEAD_TABLES" 3]
abbrev rowR : PySem.W.OpenRow := PySem.W.OpenLaw.row PySem.Challenge.rw_answersalone_k03_nets_refused
abbrev hkR : PySem.W.Hook := hookX 4 faL fnL prL tsL
def obR (s : PySem.W.SharedT) : AlX := obsXG 4 faL fnL prL tsL (HandSHeadRun.getT s)
theorem obR_eq (s : PySem.W.SharedT) : obR s = hkR.obs s.abs := obsXG_eq (HandSHeadRun.getT_eq s)
abbrev looseR : List PySem.Str := [(PySem.Str.ofString "DIGITS"), (PySem.Str.ofString "PERCENT"), (PySem.Str.ofString "GROUP_DIGITS"), (PySem.Str.ofString "GROUP"), (PySem.Str.ofString "LEAST_TOKENS"), (PySem.Str.ofString "MOST_TOKENS"), (PySem.Str.ofString "MOST_WIDTH"), (PySem.Str.ofString "MOST_LAYERS"), (PySem.Str.ofString "MOST_HEADS"), (PySem.Str.ofString "GREATEST_ENTRY"), (PySem.Str.ofString "GREATEST_CAP"), (PySem.Str.ofString "MOST_PLACE_ROWS"), (PySem.Str.ofString "LAYER_PARTS"), (PySem.Str.ofString "HEAD_TABLES"), (PySem.Str.ofString "HEAD_WORDS"), (PySem.Str.ofString "_wall"), (PySem.Str.ofString "InvalidError"), (PySem.Str.ofString "InvalidNet"), (PySem.Str.ofString "InvalidText"), (PySem.Str.ofString "InvalidAutomaton"), (PySem.Str.ofString "InvalidRequest"), (PySem.Str.ofString "InvalidSetting"), (PySem.Str.ofString "times"), (PySem.Str.ofString "added"), (PySem.Str.ofString "cut"), (PySem.Str.ofString "dot"), (PySem.Str.ofString "raised"), (PySem.Str.ofString "as_tuples"), (PySem.Str.ofString "through_layer"), (PySem.Str.ofString "looked_at"), (PySem.Str.ofString "is_number"), (PySem.Str.ofString "is_tokens"), (PySem.Str.ofString "_can_be_token"), (PySem.Str.ofString "number_word"), (PySem.Str.ofString "read_number"), (PySem.Str.ofString "_signed_number"), (PySem.Str.ofString "_digits_number"), (PySem.Str.ofString "Shape"), (PySem.Str.ofString "wrong_part"), (PySem.Str.ofString "_is_list"), (PySem.Str.ofString "_is_row"), (PySem.Str.ofString "_are_rows"), (PySem.Str.ofString "_are_token_rows"), (PySem.Str.ofString "_are_layers"), (PySem.Str.ofString "_is_layer"), (PySem.Str.ofString "_is_head"), (PySem.Str.ofString "_is_table"), (PySem.Str.ofString "NetLines"), (PySem.Str.ofString "read_parts"), (PySem.Str.ofString "_place_rows"), (PySem.Str.ofString "_layers"), (PySem.Str.ofString "_layer"), (PySem.Str.ofString "_head"), (PySem.Str.ofString "lines_of"), (PySem.Str.ofString "_row_lines"), (PySem.Str.ofString "Net"), (PySem.Str.ofString "_law_bag"), (PySem.Str.ofString "_law_draw"), (PySem.Str.ofString "_law_of"), (PySem.Str.ofString "_law_like"), (PySem.Str.ofString "_law_frozen"), (PySem.Str.ofString "_law_lists"), (PySem.Str.ofString "_law_signs"), (PySem.Str.ofString "_law_string"), (PySem.Str.ofString "_law_is_number"), (PySem.Str.ofString "_law_row"), (PySem.Str.ofString "_law_grid"), (PySem.Str.ofString "_law_head"), (PySem.Str.ofString "_law_parts"), (PySem.Str.ofString "_law_is_row"), (PySem.Str.ofString "_law_is_rows"), (PySem.Str.ofString "_law_is_floor"), (PySem.Str.ofString "_law_is_floors"), (PySem.Str.ofString "_law_first_wrong"), (PySem.Str.ofString "_law_odd"), (PySem.Str.ofString "_law_bend"), (PySem.Str.ofString "_law_free"), (PySem.Str.ofString "_law_deep"), (PySem.Str.ofString "_law_unfit"), (PySem.Str.ofString "_law_refusal"), (PySem.Str.ofString "_law_told_net"), (PySem.Str.ofString "_law_net_so"), (PySem.Str.ofString "_law_told_shape"), (PySem.Str.ofString "_law_shapes_so")]
theorem runR (w : World) : HandSHeadRun.RunEq rowR (PySem.W.view rowR.prog [93]) hkR obR 6000 looseR w := by
  intro os
  kernel_rfl
end Q

set_option Elab.async false
set_option linter.all false
set_option maxRecDepth 100000
/-! sum of a list or a tuple of whole numbers -/
namespace Q
open PySem PySem.Spec PyProof.Rows L2 RZ
theorem cr_sumT {X : Cx} (hc : X.calm = true) : CallR X (.builtin "sum") (fun vs H Q => ∃ (a : Addr) (ns : List Int), vs = [V.ref a] ∧ SqT X.K H a (ns.map V.int) ∧ Q (.int ns.sum) H) := by
  intro pins s σ H xs us Q I r h
  obtain ⟨a, ns, rfl, c, q⟩ := h
  cases r with
  | cons r rr =>
    cases rr
    cases r
    obtain ⟨its, ru, pu, _⟩ := I.tuple c
    have iu := RZ.intsAre_vals ru
    have hd : X.A.in1.handled = none := I.ok.hd hc
    have pt : s.heap.IsTuple a its.toArray := pu
    have lt : a < s.heap.objs.size := by
      obtain ⟨o, e, _⟩ := pt
      exact Heap.lt_size e
    refine call_sum_walkG (wpAny_pyIter_tuple pt ?_)
    have B := begins_tuple a its.toArray
    have W := Walks.tuple (prog := X.prog) (w := X.w) (A := X.A.in1) hd s.heap.objs.size a (Nat.ne_of_lt lt) its.toArray
    refine ⟨_, _, _, _, _, _, fun i => ns.getD i 0, rfl, W, ⟨?_, ?_⟩, ?_, ?_, ?_⟩
    · exact ⟨_, Heap.get?_push_at rfl B.free, rfl, rfl⟩
    · exact B.keeps s.heap _ pt fun b o e => Heap.get?_push_of_some _ e
    · intro b hb
      rcases List.mem_cons.mp hb with e | hb
      · rw [e, Heap.size_push]; exact Nat.lt_succ_self _
      · rw [List.mem_singleton.mp hb, Heap.size_push]; exact Nat.lt_succ_of_lt lt
    · intro i v hv
      exact iu.int_at i v (by simpa using hv)
    · intro h' tk t' kp
      refine ⟨.int ns.sum, H, I.kept (t' := tk) fun b o e => ?_, ?_, q⟩
      · refine kp b o ?_ (Heap.get?_push_of_some _ e)
        intro hb
        rw [List.mem_singleton.mp hb] at e
        exact absurd (Heap.lt_size e) (Nat.lt_irrefl _)
      · refine ⟨t', ?_⟩
        rw [preSum_getD, List.take_of_length_le]
        have := iu.length
        simp [this]
def rSumT (K : PySem.W.Frag) : List V → Hp → VK → Prop := fun vs H Q => ∃ (a : Addr) (ns : List Int), vs = [V.ref a] ∧ SqT K H a (ns.map V.int) ∧ Q (.int ns.sum) H
theorem k_sumT {X : Cx} {K : PySem.W.Frag} (e : X.K = K) (hc : X.calm = true) : CallR X (.builtin "sum") (rSumT K) := by
  subst e
  exact cr_sumT hc
section
variable {H : Hp} {Q : VK} {K : PySem.W.Frag} {a : Addr}
theorem g_sumT {ns : List Int} (h : SqT K H a (ns.map V.int)) (q : Q (.int ns.sum) H) : rSumT K [.ref a] H Q := ⟨a, ns, rfl, h, q⟩
end
section
theorem g_v16 {x0 x1 x2 x3 x4 x5 x6 x7 x8 x9 x10 x11 x12 x13 x14 x15 : Option V} {v : V} {r : L2.St} {H : Hp} {Q : VK} (h : Q v H) : tVar 16 (x0 :: x1 :: x2 :: x3 :: x4 :: x5 :: x6 :: x7 :: x8 :: x9 :: x10 :: x11 :: x12 :: x13 :: x14 :: x15 :: some v :: r) H Q := ⟨v, rfl, h⟩
instance st_g_v16 {x0 x1 x2 x3 x4 x5 x6 x7 x8 x9 x10 x11 x12 x13 x14 x15 : Option V} {v : V} {r : L2.St} {H : Hp} {Q : VK} : Step (tVar 16 (x0 :: x1 :: x2 :: x3 :: x4 :: x5 :: x6 :: x7 :: x8 :: x9 :: x10 :: x11 :: x12 :: x13 :: x14 :: x15 :: some v :: r) H Q) (Q v H) := ⟨fun z => g_v16 z⟩
theorem g_n16 {x0 x1 x2 x3 x4 x5 x6 x7 x8 x9 x10 x11 x12 x13 x14 x15 y : Option V} {v : V} {r : L2.St} {H : Hp} {N : L2.St → Hp → Prop} (h : N (x0 :: x1 :: x2 :: x3 :: x4 :: x5 :: x6 :: x7 :: x8 :: x9 :: x10 :: x11 :: x12 :: x13 :: x14 :: x15 :: some v :: r) H) : gName 16 v (x0 :: x1 :: x2 :: x3 :: x4 :: x5 :: x6 :: x7 :: x8 :: x9 :: x10 :: x11 :: x12 :: x13 :: x14 :: x15 :: y :: r) H N := h
instance st_g_n16 {x0 x1 x2 x3 x4 x5 x6 x7 x8 x9 x10 x11 x12 x13 x14 x15 y : Option V} {v : V} {r : L2.St} {H : Hp} {N : L2.St → Hp → Prop} : Step (gName 16 v (x0 :: x1 :: x2 :: x3 :: x4 :: x5 :: x6 :: x7 :: x8 :: x9 :: x10 :: x11 :: x12 :: x13 :: x14 :: x15 :: y :: r) H N) (N (x0 :: x1 :: x2 :: x3 :: x4 :: x5 :: x6 :: x7 :: x8 :: x9 :: x10 :: x11 :: x12 :: x13 :: x14 :: x15 :: some v :: r) H) := ⟨fun z => g_n16 z⟩
theorem g_v17 {x0 x1 x2 x3 x4 x5 x6 x7 x8 x9 x10 x11 x12 x13 x14 x15 x16 : Option V} {v : V} {r : L2.St} {H : Hp} {Q : VK} (h : Q v H) : tVar 17 (x0 :: x1 :: x2 :: x3 :: x4 :: x5 :: x6 :: x7 :: x8 :: x9 :: x10 :: x11 :: x12 :: x13 :: x14 :: x15 :: x16 :: some v :: r) H Q := ⟨v, rfl, h⟩
instance st_g_v17 {x0 x1 x2 x3 x4 x5 x6 x7 x8 x9 x10 x11 x12 x13 x14 x15 x16 : Option V} {v : V} {r : L2.St} {H : Hp} {Q : VK} : Step (tVar 17 (x0 :: x1 :: x2 :: x3 :: x4 :: x5 :: x6 :: x7 :: x8 :: x9 :: x10 :: x11 :: x12 :: x13 :: x14 :: x15 :: x16 :: some v :: r) H Q) (Q v H) := ⟨fun z => g_v17 z⟩
theorem g_n17 {x0 x1 x2 x3 x4 x5 x6 x7 x8 x9 x10 x11 x12 x13 x14 x15 x16 y : Option V} {v : V} {r : L2.St} {H : Hp} {N : L2.St → Hp → Prop} (h : N (x0 :: x1 :: x2 :: x3 :: x4 :: x5 :: x6 :: x7 :: x8 :: x9 :: x10 :: x11 :: x12 :: x13 :: x14 :: x15 :: x16 :: some v :: r) H) : gName 17 v (x0 :: x1 :: x2 :: x3 :: x4 :: x5 :: x6 :: x7 :: x8 :: x9 :: x10 :: x11 :: x12 :: x13 :: x14 :: x15 :: x16 :: y :: r) H N := h
instance st_g_n17 {x0 x1 x2 x3 x4 x5 x6 x7 x8 x9 x10 x11 x12 x13 x14 x15 x16 y : Option V} {v : V} {r : L2.St} {H : Hp} {N : L2.St → Hp → Prop} : Step (gName 17 v (x0 :: x1 :: x2 :: x3 :: x4 :: x5 :: x6 :: x7 :: x8 :: x9 :: x10 :: x11 :: x12 :: x13 :: x14 :: x15 :: x16 :: y :: r) H N) (N (x0 :: x1 :: x2 :: x3 :: x4 :: x5 :: x6 :: x7 :: x8 :: x9 :: x10 :: x11 :: x12 :: x13 :: x14 :: x15 :: x16 :: some v :: r) H) := ⟨fun z => g_n17 z⟩
theorem g_v18 {x0 x1 x2 x3 x4 x5 x6 x7 x8 x9 x10 x11 x12 x13 x14 x15 x16 x17 : Option V} {v : V} {r : L2.St} {H : Hp} {Q : VK} (h : Q v H) : tVar 18 (x0 :: x1 :: x2 :: x3 :: x4 :: x5 :: x6 :: x7 :: x8 :: x9 :: x10 :: x11 :: x12 :: x13 :: x14 :: x15 :: x16 :: x17 :: some v :: r) H Q := ⟨v, rfl, h⟩
instance st_g_v18 {x0 x1 x2 x3 x4 x5 x6 x7 x8 x9 x10 x11 x12 x13 x14 x15 x16 x17 : Option V} {v : V} {r : L2.St} {H : Hp} {Q : VK} : Step (tVar 18 (x0 :: x1 :: x2 :: x3 :: x4 :: x5 :: x6 :: x7 :: x8 :: x9 :: x10 :: x11 :: x12 :: x13 :: x14 :: x15 :: x16 :: x17 :: some v :: r) H Q) (Q v H) := ⟨fun z => g_v18 z⟩
theorem g_n18 {x0 x1 x2 x3 x4 x5 x6 x7 x8 x9 x10 x11 x12 x13 x14 x15 x16 x17 y : Option V} {v : V} {r : L2.St} {H : Hp} {N : L2.St → Hp → Prop} (h : N (x0 :: x1 :: x2 :: x3 :: x4 :: x5 :: x6 :: x7 :: x8 :: x9 :: x10 :: x11 :: x12 :: x13 :: x14 :: x15 :: x16 :: x17 :: some v :: r) H) : gName 18 v (x0 :: x1 :: x2 :: x3 :: x4 :: x5 :: x6 :: x7 :: x8 :: x9 :: x10 :: x11 :: x12 :: x13 :: x14 :: x15 :: x16 :: x17 :: y :: r) H N := h
instance st_g_n18 {x0 x1 x2 x3 x4 x5 x6 x7 x8 x9 x10 x11 x12 x13 x14 x15 x16 x17 y : Option V} {v : V} {r : L2.St} {H : Hp} {N : L2.St → Hp → Prop} : Step (gName 18 v (x0 :: x1 :: x2 :: x3 :: x4 :: x5 :: x6 :: x7 :: x8 :: x9 :: x10 :: x11 :: x12 :: x13 :: x14 :: x15 :: x16 :: x17 :: y :: r) H N) (N (x0 :: x1 :: x2 :: x3 :: x4 :: x5 :: x6 :: x7 :: x8 :: x9 :: x10 :: x11 :: x12 :: x13 :: x14 :: x15 :: x16 :: x17 :: some v :: r) H) := ⟨fun z => g_n18 z⟩
theorem g_v19 {x0 x1 x2 x3 x4 x5 x6 x7 x8 x9 x10 x11 x12 x13 x14 x15 x16 x17 x18 : Option V} {v : V} {r : L2.St} {H : Hp} {Q : VK} (h : Q v H) : tVar 19 (x0 :: x1 :: x2 :: x3 :: x4 :: x5 :: x6 :: x7 :: x8 :: x9 :: x10 :: x11 :: x12 :: x13 :: x14 :: x15 :: x16 :: x17 :: x18 :: some v :: r) H Q := ⟨v, rfl, h⟩
instance st_g_v19 {x0 x1 x2 x3 x4 x5 x6 x7 x8 x9 x10 x11 x12 x13 x14 x15 x16 x17 x18 : Option V} {v : V} {r : L2.St} {H : Hp} {Q : VK} : Step (tVar 19 (x0 :: x1 :: x2 :: x3 :: x4 :: x5 :: x6 :: x7 :: x8 :: x9 :: x10 :: x11 :: x12 :: x13 :: x14 :: x15 :: x16 :: x17 :: x18 :: some v :: r) H Q) (Q v H) := ⟨fun z => g_v19 z⟩
theorem g_n19 {x0 x1 x2 x3 x4 x5 x6 x7 x8 x9 x10 x11 x12 x13 x14 x15 x16 x17 x18 y : Option V} {v : V} {r : L2.St} {H : Hp} {N : L2.St → Hp → Prop} (h : N (x0 :: x1 :: x2 :: x3 :: x4 :: x5 :: x6 :: x7 :: x8 :: x9 :: x10 :: x11 :: x12 :: x13 :: x14 :: x15 :: x16 :: x17 :: x18 :: some v :: r) H) : gName 19 v (x0 :: x1 :: x2 :: x3 :: x4 :: x5 :: x6 :: x7 :: x8 :: x9 :: x10 :: x11 :: x12 :: x13 :: x14 :: x15 :: x16 :: x17 :: x18 :: y :: r) H N := h
instance st_g_n19 {x0 x1 x2 x3 x4 x5 x6 x7 x8 x9 x10 x11 x12 x13 x14 x15 x16 x17 x18 y : Option V} {v : V} {r : L2.St} {H : Hp} {N : L2.St → Hp → Prop} : Step (gName 19 v (x0 :: x1 :: x2 :: x3 :: x4 :: x5 :: x6 :: x7 :: x8 :: x9 :: x10 :: x11 :: x12 :: x13 :: x14 :: x15 :: x16 :: x17 :: x18 :: y :: r) H N) (N (x0 :: x1 :: x2 :: x3 :: x4 :: x5 :: x6 :: x7 :: x8 :: x9 :: x10 :: x11 :: x12 :: x13 :: x14 :: x15 :: x16 :: x17 :: x18 :: some v :: r) H) := ⟨fun z => g_n19 z⟩
theorem g_v20 {x0 x1 x2 x3 x4 x5 x6 x7 x8 x9 x10 x11 x12 x13 x14 x15 x16 x17 x18 x19 : Option V} {v : V} {r : L2.St} {H : Hp} {Q : VK} (h : Q v H) : tVar 20 (x0 :: x1 :: x2 :: x3 :: x4 :: x5 :: x6 :: x7 :: x8 :: x9 :: x10 :: x11 :: x12 :: x13 :: x14 :: x15 :: x16 :: x17 :: x18 :: x19 :: some v :: r) H Q := ⟨v, rfl, h⟩
instance st_g_v20 {x0 x1 x2 x3 x4 x5 x6 x7 x8 x9 x10 x11 x12 x13 x14 x15 x16 x17 x18 x19 : Option V} {v : V} {r : L2.St} {H : Hp} {Q : VK} : Step (tVar 20 (x0 :: x1 :: x2 :: x3 :: x4 :: x5 :: x6 :: x7 :: x8 :: x9 :: x10 :: x11 :: x12 :: x13 :: x14 :: x15 :: x16 :: x17 :: x18 :: x19 :: some v :: r) H Q) (Q v H) := ⟨fun z => g_v20 z⟩
theorem g_n20 {x0 x1 x2 x3 x4 x5 x6 x7 x8 x9 x10 x11 x12 x13 x14 x15 x16 x17 x18 x19 y : Option V} {v : V} {r : L2.St} {H : Hp} {N : L2.St → Hp → Prop} (h : N (x0 :: x1 :: x2 :: x3 :: x4 :: x5 :: x6 :: x7 :: x8 :: x9 :: x10 :: x11 :: x12 :: x13 :: x14 :: x15 :: x16 :: x17 :: x18 :: x19 :: some v :: r) H) : gName 20 v (x0 :: x1 :: x2 :: x3 :: x4 :: x5 :: x6 :: x7 :: x8 :: x9 :: x10 :: x11 :: x12 :: x13 :: x14 :: x15 :: x16 :: x17 :: x18 :: x19 :: y :: r) H N := h
instance st_g_n20 {x0 x1 x2 x3 x4 x5 x6 x7 x8 x9 x10 x11 x12 x13 x14 x15 x16 x17 x18 x19 y : Option V} {v : V} {r : L2.St} {H : Hp} {N : L2.St → Hp → Prop} : Step (gName 20 v (x0 :: x1 :: x2 :: x3 :: x4 :: x5 :: x6 :: x7 :: x8 :: x9 :: x10 :: x11 :: x12 :: x13 :: x14 :: x15 :: x16 :: x17 :: x18 :: x19 :: y :: r) H N) (N (x0 :: x1 :: x2 :: x3 :: x4 :: x5 :: x6 :: x7 :: x8 :: x9 :: x10 :: x11 :: x12 :: x13 :: x14 :: x15 :: x16 :: x17 :: x18 :: x19 :: some v :: r) H) := ⟨fun z => g_n20 z⟩
theorem g_v21 {x0 x1 x2 x3 x4 x5 x6 x7 x8 x9 x10 x11 x12 x13 x14 x15 x16 x17 x18 x19 x20 : Option V} {v : V} {r : L2.St} {H : Hp} {Q : VK} (h : Q v H) : tVar 21 (x0 :: x1 :: x2 :: x3 :: x4 :: x5 :: x6 :: x7 :: x8 :: x9 :: x10 :: x11 :: x12 :: x13 :: x14 :: x15 :: x16 :: x17 :: x18 :: x19 :: x20 :: some v :: r) H Q := ⟨v, rfl, h⟩
instance st_g_v21 {x0 x1 x2 x3 x4 x5 x6 x7 x8 x9 x10 x11 x12 x13 x14 x15 x16 x17 x18 x19 x20 : Option V} {v : V} {r : L2.St} {H : Hp} {Q : VK} : Step (tVar 21 (x0 :: x1 :: x2 :: x3 :: x4 :: x5 :: x6 :: x7 :: x8 :: x9 :: x10 :: x11 :: x12 :: x13 :: x14 :: x15 :: x16 :: x17 :: x18 :: x19 :: x20 :: some v :: r) H Q) (Q v H) := ⟨fun z => g_v21 z⟩
theorem g_n21 {x0 x1 x2 x3 x4 x5 x6 x7 x8 x9 x10 x11 x12 x13 x14 x15 x16 x17 x18 x19 x20 y : Option V} {v : V} {r : L2.St} {H : Hp} {N : L2.St → Hp → Prop} (h : N (x0 :: x1 :: x2 :: x3 :: x4 :: x5 :: x6 :: x7 :: x8 :: x9 :: x10 :: x11 :: x12 :: x13 :: x14 :: x15 :: x16 :: x17 :: x18 :: x19 :: x20 :: some v :: r) H) : gName 21 v (x0 :: x1 :: x2 :: x3 :: x4 :: x5 :: x6 :: x7 :: x8 :: x9 :: x10 :: x11 :: x12 :: x13 :: x14 :: x15 :: x16 :: x17 :: x18 :: x19 :: x20 :: y :: r) H N := h
instance st_g_n21 {x0 x1 x2 x3 x4 x5 x6 x7 x8 x9 x10 x11 x12 x13 x14 x15 x16 x17 x18 x19 x20 y : Option V} {v : V} {r : L2.St} {H : Hp} {N : L2.St → Hp → Prop} : Step (gName 21 v (x0 :: x1 :: x2 :: x3 :: x4 :: x5 :: x6 :: x7 :: x8 :: x9 :: x10 :: x11 :: x12 :: x13 :: x14 :: x15 :: x16 :: x17 :: x18 :: x19 :: x20 :: y :: r) H N) (N (x0 :: x1 :: x2 :: x3 :: x4 :: x5 :: x6 :: x7 :: x8 :: x9 :: x10 :: x11 :: x12 :: x13 :: x14 :: x15 :: x16 :: x17 :: x18 :: x19 :: x20 :: some v :: r) H) := ⟨fun z => g_n21 z⟩
theorem g_v22 {x0 x1 x2 x3 x4 x5 x6 x7 x8 x9 x10 x11 x12 x13 x14 x15 x16 x17 x18 x19 x20 x21 : Option V} {v : V} {r : L2.St} {H : Hp} {Q : VK} (h : Q v H) : tVar 22 (x0 :: x1 :: x2 :: x3 :: x4 :: x5 :: x6 :: x7 :: x8 :: x9 :: x10 :: x11 :: x12 :: x13 :: x14 :: x15 :: x16 :: x17 :: x18 :: x19 :: x20 :: x21 :: some v :: r) H Q := ⟨v, rfl, h⟩
instance st_g_v22 {x0 x1 x2 x3 x4 x5 x6 x7 x8 x9 x10 x11 x12 x13 x14 x15 x16 x17 x18 x19 x20 x21 : Option V} {v : V} {r : L2.St} {H : Hp} {Q : VK} : Step (tVar 22 (x0 :: x1 :: x2 :: x3 :: x4 :: x5 :: x6 :: x7 :: x8 :: x9 :: x10 :: x11 :: x12 :: x13 :: x14 :: x15 :: x16 :: x17 :: x18 :: x19 :: x20 :: x21 :: some v :: r) H Q) (Q v H) := ⟨fun z => g_v22 z⟩
theorem g_n22 {x0 x1 x2 x3 x4 x5 x6 x7 x8 x9 x10 x11 x12 x13 x14 x15 x16 x17 x18 x19 x20 x21 y : Option V} {v : V} {r : L2.St} {H : Hp} {N : L2.St → Hp → Prop} (h : N (x0 :: x1 :: x2 :: x3 :: x4 :: x5 :: x6 :: x7 :: x8 :: x9 :: x10 :: x11 :: x12 :: x13 :: x14 :: x15 :: x16 :: x17 :: x18 :: x19 :: x20 :: x21 :: some v :: r) H) : gName 22 v (x0 :: x1 :: x2 :: x3 :: x4 :: x5 :: x6 :: x7 :: x8 :: x9 :: x10 :: x11 :: x12 :: x13 :: x14 :: x15 :: x16 :: x17 :: x18 :: x19 :: x20 :: x21 :: y :: r) H N := h
instance st_g_n22 {x0 x1 x2 x3 x4 x5 x6 x7 x8 x9 x10 x11 x12 x13 x14 x15 x16 x17 x18 x19 x20 x21 y : Option V} {v : V} {r : L2.St} {H : Hp} {N : L2.St → Hp → Prop} : Step (gName 22 v (x0 :: x1 :: x2 :: x3 :: x4 :: x5 :: x6 :: x7 :: x8 :: x9 :: x10 :: x11 :: x12 :: x13 :: x14 :: x15 :: x16 :: x17 :: x18 :: x19 :: x20 :: x21 :: y :: r) H N) (N (x0 :: x1 :: x2 :: x3 :: x4 :: x5 :: x6 :: x7 :: x8 :: x9 :: x10 :: x11 :: x12 :: x13 :: x14 :: x15 :: x16 :: x17 :: x18 :: x19 :: x20 :: x21 :: some v :: r) H) := ⟨fun z => g_n22 z⟩
theorem g_v23 {x0 x1 x2 x3 x4 x5 x6 x7 x8 x9 x10 x11 x12 x13 x14 x15 x16 x17 x18 x19 x20 x21 x22 : Option V} {v : V} {r : L2.St} {H : Hp} {Q : VK} (h : Q v H) : tVar 23 (x0 :: x1 :: x2 :: x3 :: x4 :: x5 :: x6 :: x7 :: x8 :: x9 :: x10 :: x11 :: x12 :: x13 :: x14 :: x15 :: x16 :: x17 :: x18 :: x19 :: x20 :: x21 :: x22 :: some v :: r) H Q := ⟨v, rfl, h⟩
instance st_g_v23 {x0 x1 x2 x3 x4 x5 x6 x7 x8 x9 x10 x11 x12 x13 x14 x15 x16 x17 x18 x19 x20 x21 x22 : Option V} {v : V} {r : L2.St} {H : Hp} {Q : VK} : Step (tVar 23 (x0 :: x1 :: x2 :: x3 :: x4 :: x5 :: x6 :: x7 :: x8 :: x9 :: x10 :: x11 :: x12 :: x13 :: x14 :: x15 :: x16 :: x17 :: x18 :: x19 :: x20 :: x21 :: x22 :: some v :: r) H Q) (Q v H) := ⟨fun z => g_v23 z⟩
theorem g_n23 {x0 x1 x2 x3 x4 x5 x6 x7 x8 x9 x10 x11 x12 x13 x14 x15 x16 x17 x18 x19 x20 x21 x22 y : Option V} {v : V} {r : L2.St} {H : Hp} {N : L2.St → Hp → Prop} (h : N (x0 :: x1 :: x2 :: x3 :: x4 :: x5 :: x6 :: x7 :: x8 :: x9 :: x10 :: x11 :: x12 :: x13 :: x14 :: x15 :: x16 :: x17 :: x18 :: x19 :: x20 :: x21 :: x22 :: some v :: r) H) : gName 23 v (x0 :: x1 :: x2 :: x3 :: x4 :: x5 :: x6 :: x7 :: x8 :: x9 :: x10 :: x11 :: x12 :: x13 :: x14 :: x15 :: x16 :: x17 :: x18 :: x19 :: x20 :: x21 :: x22 :: y :: r) H N := h
instance st_g_n23 {x0 x1 x2 x3 x4 x5 x6 x7 x8 x9 x10 x11 x12 x13 x14 x15 x16 x17 x18 x19 x20 x21 x22 y : Option V} {v : V} {r : L2.St} {H : Hp} {N : L2.St → Hp → Prop} : Step (gName 23 v (x0 :: x1 :: x2 :: x3 :: x4 :: x5 :: x6 :: x7 :: x8 :: x9 :: x10 :: x11 :: x12 :: x13 :: x14 :: x15 :: x16 :: x17 :: x18 :: x19 :: x20 :: x21 :: x22 :: y :: r) H N) (N (x0 :: x1 :: x2 :: x3 :: x4 :: x5 :: x6 :: x7 :: x8 :: x9 :: x10 :: x11 :: x12 :: x13 :: x14 :: x15 :: x16 :: x17 :: x18 :: x19 :: x20 :: x21 :: x22 :: some v :: r) H) := ⟨fun z => g_n23 z⟩
theorem g_v24 {x0 x1 x2 x3 x4 x5 x6 x7 x8 x9 x10 x11 x12 x13 x14 x15 x16 x17 x18 x19 x20 x21 x22 x23 : Option V} {v : V} {r : L2.St} {H : Hp} {Q : VK} (h : Q v H) : tVar 24 (x0 :: x1 :: x2 :: x3 :: x4 :: x5 :: x6 :: x7 :: x8 :: x9 :: x10 :: x11 :: x12 :: x13 :: x14 :: x15 :: x16 :: x17 :: x18 :: x19 :: x20 :: x21 :: x22 :: x23 :: some v :: r) H Q := ⟨v, rfl, h⟩
instance st_g_v24 {x0 x1 x2 x3 x4 x5 x6 x7 x8 x9 x10 x11 x12 x13 x14 x15 x16 x17 x18 x19 x20 x21 x22 x23 : Option V} {v : V} {r : L2.St} {H : Hp} {Q : VK} : Step (tVar 24 (x0 :: x1 :: x2 :: x3 :: x4 :: x5 :: x6 :: x7 :: x8 :: x9 :: x10 :: x11 :: x12 :: x13 :: x14 :: x15 :: x16 :: x17 :: x18 :: x19 :: x20 :: x21 :: x22 :: x23 :: some v :: r) H Q) (Q v H) := ⟨fun z => g_v24 z⟩
theorem g_n24 {x0 x1 x2 x3 x4 x5 x6 x7 x8 x9 x10 x11 x12 x13 x14 x15 x16 x17 x18 x19 x20 x21 x22 x23 y : Option V} {v : V} {r : L2.St} {H : Hp} {N : L2.St → Hp → Prop} (h : N (x0 :: x1 :: x2 :: x3 :: x4 :: x5 :: x6 :: x7 :: x8 :: x9 :: x10 :: x11 :: x12 :: x13 :: x14 :: x15 :: x16 :: x17 :: x18 :: x19 :: x20 :: x21 :: x22 :: x23 :: some v :: r) H) : gName 24 v (x0 :: x1 :: x2 :: x3 :: x4 :: x5 :: x6 :: x7 :: x8 :: x9 :: x10 :: x11 :: x12 :: x13 :: x14 :: x15 :: x16 :: x17 :: x18 :: x19 :: x20 :: x21 :: x22 :: x23 :: y :: r) H N := h
instance st_g_n24 {x0 x1 x2 x3 x4 x5 x6 x7 x8 x9 x10 x11 x12 x13 x14 x15 x16 x17 x18 x19 x20 x21 x22 x23 y : Option V} {v : V} {r : L2.St} {H : Hp} {N : L2.St → Hp → Prop} : Step (gName 24 v (x0 :: x1 :: x2 :: x3 :: x4 :: x5 :: x6 :: x7 :: x8 :: x9 :: x10 :: x11 :: x12 :: x13 :: x14 :: x15 :: x16 :: x17 :: x18 :: x19 :: x20 :: x21 :: x22 :: x23 :: y :: r) H N) (N (x0 :: x1 :: x2 :: x3 :: x4 :: x5 :: x6 :: x7 :: x8 :: x9 :: x10 :: x11 :: x12 :: x13 :: x14 :: x15 :: x16 :: x17 :: x18 :: x19 :: x20 :: x21 :: x22 :: x23 :: some v :: r) H) := ⟨fun z => g_n24 z⟩
theorem g_v25 {x0 x1 x2 x3 x4 x5 x6 x7 x8 x9 x10 x11 x12 x13 x14 x15 x16 x17 x18 x19 x20 x21 x22 x23 x24 : Option V} {v : V} {r : L2.St} {H : Hp} {Q : VK} (h : Q v H) : tVar 25 (x0 :: x1 :: x2 :: x3 :: x4 :: x5 :: x6 :: x7 :: x8 :: x9 :: x10 :: x11 :: x12 :: x13 :: x14 :: x15 :: x16 :: x17 :: x18 :: x19 :: x20 :: x21 :: x22 :: x23 :: x24 :: some v :: r) H Q := ⟨v, rfl, h⟩
instance st_g_v25 {x0 x1 x2 x3 x4 x5 x6 x7 x8 x9 x10 x11 x12 x13 x14 x15 x16 x17 x18 x19 x20 x21 x22 x23 x24 : Option V} {v : V} {r : L2.St} {H : Hp} {Q : VK} : Step (tVar 25 (x0 :: x1 :: x2 :: x3 :: x4 :: x5 :: x6 :: x7 :: x8 :: x9 :: x10 :: x11 :: x12 :: x13 :: x14 :: x15 :: x16 :: x17 :: x18 :: x19 :: x20 :: x21 :: x22 :: x23 :: x24 :: some v :: r) H Q) (Q v H) := ⟨fun z => g_v25 z⟩
theorem g_n25 {x0 x1 x2 x3 x4 x5 x6 x7 x8 x9 x10 x11 x12 x13 x14 x15 x16 x17 x18 x19 x20 x21 x22 x23 x24 y : Option V} {v : V} {r : L2.St} {H : Hp} {N : L2.St → Hp → Prop} (h : N (x0 :: x1 :: x2 :: x3 :: x4 :: x5 :: x6 :: x7 :: x8 :: x9 :: x10 :: x11 :: x12 :: x13 :: x14 :: x15 :: x16 :: x17 :: x18 :: x19 :: x20 :: x21 :: x22 :: x23 :: x24 :: some v :: r) H) : gName 25 v (x0 :: x1 :: x2 :: x3 :: x4 :: x5 :: x6 :: x7 :: x8 :: x9 :: x10 :: x11 :: x12 :: x13 :: x14 :: x15 :: x16 :: x17 :: x18 :: x19 :: x20 :: x21 :: x22 :: x23 :: x24 :: y :: r) H N := h
instance st_g_n25 {x0 x1 x2 x3 x4 x5 x6 x7 x8 x9 x10 x11 x12 x13 x14 x15 x16 x17 x18 x19 x20 x21 x22 x23 x24 y : Option V} {v : V} {r : L2.St} {H : Hp} {N : L2.St → Hp → Prop} : Step (gName 25 v (x0 :: x1 :: x2 :: x3 :: x4 :: x5 :: x6 :: x7 :: x8 :: x9 :: x10 :: x11 :: x12 :: x13 :: x14 :: x15 :: x16 :: x17 :: x18 :: x19 :: x20 :: x21 :: x22 :: x23 :: x24 :: y :: r) H N) (N (x0 :: x1 :: x2 :: x3 :: x4 :: x5 :: x6 :: x7 :: x8 :: x9 :: x10 :: x11 :: x12 :: x13 :: x14 :: x15 :: x16 :: x17 :: x18 :: x19 :: x20 :: x21 :: x22 :: x23 :: x24 :: some v :: r) H) := ⟨fun z => g_n25 z⟩
theorem g_v26 {x0 x1 x2 x3 x4 x5 x6 x7 x8 x9 x10 x11 x12 x13 x14 x15 x16 x17 x18 x19 x20 x21 x22 x23 x24 x25 : Option V} {v : V} {r : L2.St} {H : Hp} {Q : VK} (h : Q v H) : tVar 26 (x0 :: x1 :: x2 :: x3 :: x4 :: x5 :: x6 :: x7 :: x8 :: x9 :: x10 :: x11 :: x12 :: x13 :: x14 :: x15 :: x16 :: x17 :: x18 :: x19 :: x20 :: x21 :: x22 :: x23 :: x24 :: x25 :: some v :: r) H Q := ⟨v, rfl, h⟩
instance st_g_v26 {x0 x1 x2 x3 x4 x5 x6 x7 x8 x9 x10 x11 x12 x13 x14 x15 x16 x17 x18 x19 x20 x21 x22 x23 x24 x25 : Option V} {v : V} {r : L2.St} {H : Hp} {Q : VK} : Step (tVar 26 (x0 :: x1 :: x2 :: x3 :: x4 :: x5 :: x6 :: x7 :: x8 :: x9 :: x10 :: x11 :: x12 :: x13 :: x14 :: x15 :: x16 :: x17 :: x18 :: x19 :: x20 :: x21 :: x22 :: x23 :: x24 :: x25 :: some v :: r) H Q) (Q v H) := ⟨fun z => g_v26 z⟩
theorem g_n26 {x0 x1 x2 x3 x4 x5 x6 x7 x8 x9 x10 x11 x12 x13 x14 x15 x16 x17 x18 x19 x20 x21 x22 x23 x24 x25 y : Option V} {v : V} {r : L2.St} {H : Hp} {N : L2.St → Hp → Prop} (h : N (x0 :: x1 :: x2 :: x3 :: x4 :: x5 :: x6 :: x7 :: x8 :: x9 :: x10 :: x11 :: x12 :: x13 :: x14 :: x15 :: x16 :: x17 :: x18 :: x19 :: x20 :: x21 :: x22 :: x23 :: x24 :: x25 :: some v :: r) H) : gName 26 v (x0 :: x1 :: x2 :: x3 :: x4 :: x5 :: x6 :: x7 :: x8 :: x9 :: x10 :: x11 :: x12 :: x13 :: x14 :: x15 :: x16 :: x17 :: x18 :: x19 :: x20 :: x21 :: x22 :: x23 :: x24 :: x25 :: y :: r) H N := h
instance st_g_n26 {x0 x1 x2 x3 x4 x5 x6 x7 x8 x9 x10 x11 x12 x13 x14 x15 x16 x17 x18 x19 x20 x21 x22 x23 x24 x25 y : Option V} {v : V} {r : L2.St} {H : Hp} {N : L2.St → Hp → Prop} : Step (gName 26 v (x0 :: x1 :: x2 :: x3 :: x4 :: x5 :: x6 :: x7 :: x8 :: x9 :: x10 :: x11 :: x12 :: x13 :: x14 :: x15 :: x16 :: x17 :: x18 :: x19 :: x20 :: x21 :: x22 :: x23 :: x24 :: x25 :: y :: r) H N) (N (x0 :: x1 :: x2 :: x3 :: x4 :: x5 :: x6 :: x7 :: x8 :: x9 :: x10 :: x11 :: x12 :: x13 :: x14 :: x15 :: x16 :: x17 :: x18 :: x19 :: x20 :: x21 :: x22 :: x23 :: x24 :: x25 :: some v :: r) H) := ⟨fun z => g_n26 z⟩
theorem g_v27 {x0 x1 x2 x3 x4 x5 x6 x7 x8 x9 x10 x11 x12 x13 x14 x15 x16 x17 x18 x19 x20 x21 x22 x23 x24 x25 x26 : Option V} {v : V} {r : L2.St} {H : Hp} {Q : VK} (h : Q v H) : tVar 27 (x0 :: x1 :: x2 :: x3 :: x4 :: x5 :: x6 :: x7 :: x8 :: x9 :: x10 :: x11 :: x12 :: x13 :: x14 :: x15 :: x16 :: x17 :: x18 :: x19 :: x20 :: x21 :: x22 :: x23 :: x24 :: x25 :: x26 :: some v :: r) H Q := ⟨v, rfl, h⟩
instance st_g_v27 {x0 x1 x2 x3 x4 x5 x6 x7 x8 x9 x10 x11 x12 x13 x14 x15 x16 x17 x18 x19 x20 x21 x22 x23 x24 x25 x26 : Option V} {v : V} {r : L2.St} {H : Hp} {Q : VK} : Step (tVar 27 (x0 :: x1 :: x2 :: x3 :: x4 :: x5 :: x6 :: x7 :: x8 :: x9 :: x10 :: x11 :: x12 :: x13 :: x14 :: x15 :: x16 :: x17 :: x18 :: x19 :: x20 :: x21 :: x22 :: x23 :: x24 :: x25 :: x26 :: some v :: r) H Q) (Q v H) := ⟨fun z => g_v27 z⟩
theorem g_n27 {x0 x1 x2 x3 x4 x5 x6 x7 x8 x9 x10 x11 x12 x13 x14 x15 x16 x17 x18 x19 x20 x21 x22 x23 x24 x25 x26 y : Option V} {v : V} {r : L2.St} {H : Hp} {N : L2.St → Hp → Prop} (h : N (x0 :: x1 :: x2 :: x3 :: x4 :: x5 :: x6 :: x7 :: x8 :: x9 :: x10 :: x11 :: x12 :: x13 :: x14 :: x15 :: x16 :: x17 :: x18 :: x19 :: x20 :: x21 :: x22 :: x23 :: x24 :: x25 :: x26 :: some v :: r) H) : gName 27 v (x0 :: x1 :: x2 :: x3 :: x4 :: x5 :: x6 :: x7 :: x8 :: x9 :: x10 :: x11 :: x12 :: x13 :: x14 :: x15 :: x16 :: x17 :: x18 :: x19 :: x20 :: x21 :: x22 :: x23 :: x24 :: x25 :: x26 :: y :: r) H N := h
instance st_g_n27 {x0 x1 x2 x3 x4 x5 x6 x7 x8 x9 x10 x11 x12 x13 x14 x15 x16 x17 x18 x19 x20 x21 x22 x23 x24 x25 x26 y : Option V} {v : V} {r : L2.St} {H : Hp} {N : L2.St → Hp → Prop} : Step (gName 27 v (x0 :: x1 :: x2 :: x3 :: x4 :: x5 :: x6 :: x7 :: x8 :: x9 :: x10 :: x11 :: x12 :: x13 :: x14 :: x15 :: x16 :: x17 :: x18 :: x19 :: x20 :: x21 :: x22 :: x23 :: x24 :: x25 :: x26 :: y :: r) H N) (N (x0 :: x1 :: x2 :: x3 :: x4 :: x5 :: x6 :: x7 :: x8 :: x9 :: x10 :: x11 :: x12 :: x13 :: x14 :: x15 :: x16 :: x17 :: x18 :: x19 :: x20 :: x21 :: x22 :: x23 :: x24 :: x25 :: x26 :: some v :: r) H) := ⟨fun z => g_n27 z⟩
theorem g_v28 {x0 x1 x2 x3 x4 x5 x6 x7 x8 x9 x10 x11 x12 x13 x14 x15 x16 x17 x18 x19 x20 x21 x22 x23 x24 x25 x26 x27 : Option V} {v : V} {r : L2.St} {H : Hp} {Q : VK} (h : Q v H) : tVar 28 (x0 :: x1 :: x2 :: x3 :: x4 :: x5 :: x6 :: x7 :: x8 :: x9 :: x10 :: x11 :: x12 :: x13 :: x14 :: x15 :: x16 :: x17 :: x18 :: x19 :: x20 :: x21 :: x22 :: x23 :: x24 :: x25 :: x26 :: x27 :: some v :: r) H Q := ⟨v, rfl, h⟩
instance st_g_v28 {x0 x1 x2 x3 x4 x5 x6 x7 x8 x9 x10 x11 x12 x13 x14 x15 x16 x17 x18 x19 x20 x21 x22 x23 x24 x25 x26 x27 : Option V} {v : V} {r : L2.St} {H : Hp} {Q : VK} : Step (tVar 28 (x0 :: x1 :: x2 :: x3 :: x4 :: x5 :: x6 :: x7 :: x8 :: x9 :: x10 :: x11 :: x12 :: x13 :: x14 :: x15 :: x16 :: x17 :: x18 :: x19 :: x20 :: x21 :: x22 :: x23 :: x24 :: x25 :: x26 :: x27 :: some v :: r) H Q) (Q v H) := ⟨fun z => g_v28 z⟩
theorem g_n28 {x0 x1 x2 x3 x4 x5 x6 x7 x8 x9 x10 x11 x12 x13 x14 x15 x16 x17 x18 x19 x20 x21 x22 x23 x24 x25 x26 x27 y : Option V} {v : V} {r : L2.St} {H : Hp} {N : L2.St → Hp → Prop} (h : N (x0 :: x1 :: x2 :: x3 :: x4 :: x5 :: x6 :: x7 :: x8 :: x9 :: x10 :: x11 :: x12 :: x13 :: x14 :: x15 :: x16 :: x17 :: x18 :: x19 :: x20 :: x21 :: x22 :: x23 :: x24 :: x25 :: x26 :: x27 :: some v :: r) H) : gName 28 v (x0 :: x1 :: x2 :: x3 :: x4 :: x5 :: x6 :: x7 :: x8 :: x9 :: x10 :: x11 :: x12 :: x13 :: x14 :: x15 :: x16 :: x17 :: x18 :: x19 :: x20 :: x21 :: x22 :: x23 :: x24 :: x25 :: x26 :: x27 :: y :: r) H N := h
instance st_g_n28 {x0 x1 x2 x3 x4 x5 x6 x7 x8 x9 x10 x11 x12 x13 x14 x15 x16 x17 x18 x19 x20 x21 x22 x23 x24 x25 x26 x27 y : Option V} {v : V} {r : L2.St} {H : Hp} {N : L2.St → Hp → Prop} : Step (gName 28 v (x0 :: x1 :: x2 :: x3 :: x4 :: x5 :: x6 :: x7 :: x8 :: x9 :: x10 :: x11 :: x12 :: x13 :: x14 :: x15 :: x16 :: x17 :: x18 :: x19 :: x20 :: x21 :: x22 :: x23 :: x24 :: x25 :: x26 :: x27 :: y :: r) H N) (N (x0 :: x1 :: x2 :: x3 :: x4 :: x5 :: x6 :: x7 :: x8 :: x9 :: x10 :: x11 :: x12 :: x13 :: x14 :: x15 :: x16 :: x17 :: x18 :: x19 :: x20 :: x21 :: x22 :: x23 :: x24 :: x25 :: x26 :: x27 :: some v :: r) H) := ⟨fun z => g_n28 z⟩
theorem g_v29 {x0 x1 x2 x3 x4 x5 x6 x7 x8 x9 x10 x11 x12 x13 x14 x15 x16 x17 x18 x19 x20 x21 x22 x23 x24 x25 x26 x27 x28 : Option V} {v : V} {r : L2.St} {H : Hp} {Q : VK} (h : Q v H) : tVar 29 (x0 :: x1 :: x2 :: x3 :: x4 :: x5 :: x6 :: x7 :: x8 :: x9 :: x10 :: x11 :: x12 :: x13 :: x14 :: x15 :: x16 :: x17 :: x18 :: x19 :: x20 :: x21 :: x22 :: x23 :: x24 :: x25 :: x26 :: x27 :: x28 :: some v :: r) H Q := ⟨v, rfl, h⟩
instance st_g_v29 {x0 x1 x2 x3 x4 x5 x6 x7 x8 x9 x10 x11 x12 x13 x14 x15 x16 x17 x18 x19 x20 x21 x22 x23 x24 x25 x26 x27 x28 : Option V} {v : V} {r : L2.St} {H : Hp} {Q : VK} : Step (tVar 29 (x0 :: x1 :: x2 :: x3 :: x4 :: x5 :: x6 :: x7 :: x8 :: x9 :: x10 :: x11 :: x12 :: x13 :: x14 :: x15 :: x16 :: x17 :: x18 :: x19 :: x20 :: x21 :: x22 :: x23 :: x24 :: x25 :: x26 :: x27 :: x28 :: some v :: r) H Q) (Q v H) := ⟨fun z => g_v29 z⟩
theorem g_n29 {x0 x1 x2 x3 x4 x5 x6 x7 x8 x9 x10 x11 x12 x13 x14 x15 x16 x17 x18 x19 x20 x21 x22 x23 x24 x25 x26 x27 x28 y : Option V} {v : V} {r : L2.St} {H : Hp} {N : L2.St → Hp → Prop} (h : N (x0 :: x1 :: x2 :: x3 :: x4 :: x5 :: x6 :: x7 :: x8 :: x9 :: x10 :: x11 :: x12 :: x13 :: x14 :: x15 :: x16 :: x17 :: x18 :: x19 :: x20 :: x21 :: x22 :: x23 :: x24 :: x25 :: x26 :: x27 :: x28 :: some v :: r) H) : gName 29 v (x0 :: x1 :: x2 :: x3 :: x4 :: x5 :: x6 :: x7 :: x8 :: x9 :: x10 :: x11 :: x12 :: x13 :: x14 :: x15 :: x16 :: x17 :: x18 :: x19 :: x20 :: x21 :: x22 :: x23 :: x24 :: x25 :: x26 :: x27 :: x28 :: y :: r) H N := h
instance st_g_n29 {x0 x1 x2 x3 x4 x5 x6 x7 x8 x9 x10 x11 x12 x13 x14 x15 x16 x17 x18 x19 x20 x21 x22 x23 x24 x25 x26 x27 x28 y : Option V} {v : V} {r : L2.St} {H : Hp} {N : L2.St → Hp → Prop} : Step (gName 29 v (x0 :: x1 :: x2 :: x3 :: x4 :: x5 :: x6 :: x7 :: x8 :: x9 :: x10 :: x11 :: x12 :: x13 :: x14 :: x15 :: x16 :: x17 :: x18 :: x19 :: x20 :: x21 :: x22 :: x23 :: x24 :: x25 :: x26 :: x27 :: x28 :: y :: r) H N) (N (x0 :: x1 :: x2 :: x3 :: x4 :: x5 :: x6 :: x7 :: x8 :: x9 :: x10 :: x11 :: x12 :: x13 :: x14 :: x15 :: x16 :: x17 :: x18 :: x19 :: x20 :: x21 :: x22 :: x23 :: x24 :: x25 :: x26 :: x27 :: x28 :: some v :: r) H) := ⟨fun z => g_n29 z⟩
theorem g_v30 {x0 x1 x2 x3 x4 x5 x6 x7 x8 x9 x10 x11 x12 x13 x14 x15 x16 x17 x18 x19 x20 x21 x22 x23 x24 x25 x26 x27 x28 x29 : Option V} {v : V} {r : L2.St} {H : Hp} {Q : VK} (h : Q v H) : tVar 30 (x0 :: x1 :: x2 :: x3 :: x4 :: x5 :: x6 :: x7 :: x8 :: x9 :: x10 :: x11 :: x12 :: x13 :: x14 :: x15 :: x16 :: x17 :: x18 :: x19 :: x20 :: x21 :: x22 :: x23 :: x24 :: x25 :: x26 :: x27 :: x28 :: x29 :: some v :: r) H Q := ⟨v, rfl, h⟩
instance st_g_v30 {x0 x1 x2 x3 x4 x5 x6 x7 x8 x9 x10 x11 x12 x13 x14 x15 x16 x17 x18 x19 x20 x21 x22 x23 x24 x25 x26 x27 x28 x29 : Option V} {v : V} {r : L2.St} {H : Hp} {Q : VK} : Step (tVar 30 (x0 :: x1 :: x2 :: x3 :: x4 :: x5 :: x6 :: x7 :: x8 :: x9 :: x10 :: x11 :: x12 :: x13 :: x14 :: x15 :: x16 :: x17 :: x18 :: x19 :: x20 :: x21 :: x22 :: x23 :: x24 :: x25 :: x26 :: x27 :: x28 :: x29 :: some v :: r) H Q) (Q v H) := ⟨fun z => g_v30 z⟩
theorem g_n30 {x0 x1 x2 x3 x4 x5 x6 x7 x8 x9 x10 x11 x12 x13 x14 x15 x16 x17 x18 x19 x20 x21 x22 x23 x24 x25 x26 x27 x28 x29 y : Option V} {v : V} {r : L2.St} {H : Hp} {N : L2.St → Hp → Prop} (h : N (x0 :: x1 :: x2 :: x3 :: x4 :: x5 :: x6 :: x7 :: x8 :: x9 :: x10 :: x11 :: x12 :: x13 :: x14 :: x15 :: x16 :: x17 :: x18 :: x19 :: x20 :: x21 :: x22 :: x23 :: x24 :: x25 :: x26 :: x27 :: x28 :: x29 :: some v :: r) H) : gName 30 v (x0 :: x1 :: x2 :: x3 :: x4 :: x5 :: x6 :: x7 :: x8 :: x9 :: x10 :: x11 :: x12 :: x13 :: x14 :: x15 :: x16 :: x17 :: x18 :: x19 :: x20 :: x21 :: x22 :: x23 :: x24 :: x25 :: x26 :: x27 :: x28 :: x29 :: y :: r) H N := h
instance st_g_n30 {x0 x1 x2 x3 x4 x5 x6 x7 x8 x9 x10 x11 x12 x13 x14 x15 x16 x17 x18 x19 x20 x21 x22 x23 x24 x25 x26 x27 x28 x29 y : Option V} {v : V} {r : L2.St} {H : Hp} {N : L2.St → Hp → Prop} : Step (gName 30 v (x0 :: x1 :: x2 :: x3 :: x4 :: x5 :: x6 :: x7 :: x8 :: x9 :: x10 :: x11 :: x12 :: x13 :: x14 :: x15 :: x16 :: x17 :: x18 :: x19 :: x20 :: x21 :: x22 :: x23 :: x24 :: x25 :: x26 :: x27 :: x28 :: x29 :: y :: r) H N) (N (x0 :: x1 :: x2 :: x3 :: x4 :: x5 :: x6 :: x7 :: x8 :: x9 :: x10 :: x11 :: x12 :: x13 :: x14 :: x15 :: x16 :: x17 :: x18 :: x19 :: x20 :: x21 :: x22 :: x23 :: x24 :: x25 :: x26 :: x27 :: x28 :: x29 :: some v :: r) H) := ⟨fun z => g_n30 z⟩
theorem g_v31 {x0 x1 x2 x3 x4 x5 x6 x7 x8 x9 x10 x11 x12 x13 x14 x15 x16 x17 x18 x19 x20 x21 x22 x23 x24 x25 x26 x27 x28 x29 x30 : Option V} {v : V} {r : L2.St} {H : Hp} {Q : VK} (h : Q v H) : tVar 31 (x0 :: x1 :: x2 :: x3 :: x4 :: x5 :: x6 :: x7 :: x8 :: x9 :: x10 :: x11 :: x12 :: x13 :: x14 :: x15 :: x16 :: x17 :: x18 :: x19 :: x20 :: x21 :: x22 :: x23 :: x24 :: x25 :: x26 :: x27 :: x28 :: x29 :: x30 :: some v :: r) H Q := ⟨v, rfl, h⟩
instance st_g_v31 {x0 x1 x2 x3 x4 x5 x6 x7 x8 x9 x10 x11 x12 x13 x14 x15 x16 x17 x18 x19 x20 x21 x22 x23 x24 x25 x26 x27 x28 x29 x30 : Option V} {v : V} {r : L2.St} {H : Hp} {Q : VK} : Step (tVar 31 (x0 :: x1 :: x2 :: x3 :: x4 :: x5 :: x6 :: x7 :: x8 :: x9 :: x10 :: x11 :: x12 :: x13 :: x14 :: x15 :: x16 :: x17 :: x18 :: x19 :: x20 :: x21 :: x22 :: x23 :: x24 :: x25 :: x26 :: x27 :: x28 :: x29 :: x30 :: some v :: r) H Q) (Q v H) := ⟨fun z => g_v31 z⟩
theorem g_n31 {x0 x1 x2 x3 x4 x5 x6 x7 x8 x9 x10 x11 x12 x13 x14 x15 x16 x17 x18 x19 x20 x21 x22 x23 x24 x25 x26 x27 x28 x29 x30 y : Option V} {v : V} {r : L2.St} {H : Hp} {N : L2.St → Hp → Prop} (h : N (x0 :: x1 :: x2 :: x3 :: x4 :: x5 :: x6 :: x7 :: x8 :: x9 :: x10 :: x11 :: x12 :: x13 :: x14 :: x15 :: x16 :: x17 :: x18 :: x19 :: x20 :: x21 :: x22 :: x23 :: x24 :: x25 :: x26 :: x27 :: x28 :: x29 :: x30 :: some v :: r) H) : gName 31 v (x0 :: x1 :: x2 :: x3 :: x4 :: x5 :: x6 :: x7 :: x8 :: x9 :: x10 :: x11 :: x12 :: x13 :: x14 :: x15 :: x16 :: x17 :: x18 :: x19 :: x20 :: x21 :: x22 :: x23 :: x24 :: x25 :: x26 :: x27 :: x28 :: x29 :: x30 :: y :: r) H N := h
instance st_g_n31 {x0 x1 x2 x3 x4 x5 x6 x7 x8 x9 x10 x11 x12 x13 x14 x15 x16 x17 x18 x19 x20 x21 x22 x23 x24 x25 x26 x27 x28 x29 x30 y : Option V} {v : V} {r : L2.St} {H : Hp} {N : L2.St → Hp → Prop} : Step (gName 31 v (x0 :: x1 :: x2 :: x3 :: x4 :: x5 :: x6 :: x7 :: x8 :: x9 :: x10 :: x11 :: x12 :: x13 :: x14 :: x15 :: x16 :: x17 :: x18 :: x19 :: x20 :: x21 :: x22 :: x23 :: x24 :: x25 :: x26 :: x27 :: x28 :: x29 :: x30 :: y :: r) H N) (N (x0 :: x1 :: x2 :: x3 :: x4 :: x5 :: x6 :: x7 :: x8 :: x9 :: x10 :: x11 :: x12 :: x13 :: x14 :: x15 :: x16 :: x17 :: x18 :: x19 :: x20 :: x21 :: x22 :: x23 :: x24 :: x25 :: x26 :: x27 :: x28 :: x29 :: x30 :: some v :: r) H) := ⟨fun z => g_n31 z⟩
end
end Q
-- step instances

set_option Elab.async false
set_option linter.all false
set_option maxRecDepth 100000
set_option maxHeartbeats 4000000
/-! sorted(x) of a list or a tuple of whole numbers; tuple(x) of a list or a tuple -/
namespace SrtO
open PySem PyProof.Rows Srt
section
variable {prog : Program} {w : World} {A : Around} {E : Value → Shared → Prop} {s : Shared}
theorem sorted_seqI {l : Addr} {o : Obj} {T : String} {n : Nat} {vs : List Value} {ns : List Int} {Q : Value → Shared → Prop} (hT : T = "list" ∨ T = "tuple") (ho : s.heap.get? l = some o) (hc : o.cls = .type T) (hd : o.data = .seq vs.toArray n) (hI : IntsAre vs ns) (hz : vs.length ≤ sizeLine)
    (h : ∀ (out : List Value) (ns' : List Int) (h1 h' : Heap) (e : Nat), IntsAre out ns' → ns'.Perm ns → ns'.Pairwise (· ≤ ·) → (∀ b ob, s.heap.get? b = some ob → h1.get? b = some ob) → (∀ b ob, h1.get? b = some ob → h'.get? b = some ob) → h'.get? h1.objs.size = some (seqObj "list" out.toArray e) → Q (.ref h1.objs.size) { s with heap := h' }) :
    wpAny (model prog w) A (call (.builtin "sorted") [.ref l]) Q E s := by
  refine Calls.call_function_entry kind_sorted plain_sorted entry_sorted (args_sorted1 _) ?_
  unfold Builtin.«sorted»
  refine wpAny_bind (m := checkCount "sorted" 1 1 _) (wpAny_pure ?_)
  refine wpAny_bind (wpAny_collect_seq l hT ho hc hd (fun h1 k1 => ?_) (by rw [List.size_toArray]; exact hz))
  rw [show vs.toArray.toList = vs by simp]
  refine wpAny_bind (wpAny_newList ?_ hz)
  have hoL : (h1.push (seqObj "list" vs.toArray 0)).get? h1.objs.size = some (seqObj "list" vs.toArray 0) := Heap.get?_push_size _ rfl
  show wpAny _ _ _ _ _ { s with heap := h1.push (seqObj "list" vs.toArray 0) }
  refine wpAny_bind (wpAny_holding (wpAny_call_entry slot_list_sort ⟨_, hoL, rfl⟩ entry_list_sort (list_sort_ord swo_int hoL hz (fun h2 => ints_sortable hI h2) fun out hs hb => ⟨_, rfl, ?_⟩) (args_list_sort _)))
  obtain ⟨g1, g2, g3⟩ := ints_out hI hs hb
  obtain ⟨ep, he'⟩ := PyProof.Rows.sortedHeap_at (vs := vs) (out := out.toArray) hoL
  refine wpAny_pure ⟨_, rfl, h out _ h1 _ ep g1 g2 g3 k1 (fun b ob hb2 => ?_) he'⟩
  have lt1 : b < h1.objs.size := Heap.lt_size hb2
  rw [PyProof.Rows.sortedHeap_old (Nat.ne_of_lt lt1) (by rw [size_push']; exact Nat.lt_succ_of_lt lt1)]
  exact Heap.get?_push_of_some _ hb2
end
end SrtO
namespace Q
open PySem PySem.Spec PyProof.Rows L2
/-- sorted(x), x a list or a tuple of whole numbers -/
def qSortB (K : PySem.W.Frag) : List V → Hp → VK → Prop := fun vs H Q => ∃ (a : Addr) (ns : List Int), vs = [V.ref a] ∧ (SqL K H a (ns.map V.int) ∨ SqT K H a (ns.map V.int)) ∧
  ∀ (ns' : List Int) (p : Addr), ns'.Perm ns → ns'.Pairwise (· ≤ ·) → H p = none → Q (.ref p) (upd H p (.lst (ns'.map V.int)))
theorem c_sortB {X : Cx} : CallR X (.builtin "sorted") (qSortB X.K) := by
  intro pins s σ H vs us Q I r h
  obtain ⟨a, ns, rfl, hs, q⟩ := h
  rw [Vals.ref1 r]
  have fin : ∀ {its : List Value}, Vals (ns.map V.int) its → its.length ≤ sizeLine → ∀ (out : List Value) (ns' : List Int) (h1 h' : Heap) (e : Nat), IntsAre out ns' → ns'.Perm ns → ns'.Pairwise (· ≤ ·) → (∀ b ob, s.heap.get? b = some ob → h1.get? b = some ob) → (∀ b ob, h1.get? b = some ob → h'.get? b = some ob) → h'.get? h1.objs.size = some (seqObj "list" out.toArray e) → EP X pins σ Q (.ref h1.objs.size) { s with heap := h' } := by
    intro its rv hz out ns' h1 h' e g1 g2 g3 k1 k2 he'
    have I1 : Inv X pins σ H { s with heap := h1 } := I.kept (t' := s.toks) k1
    have hlen : (ns'.map V.int).length ≤ sizeLine := by
      rw [List.length_map, g2.length_eq]
      have e3 := rv.length
      rw [List.length_map] at e3
      omega
    exact ⟨.ref _, upd H h1.objs.size (.lst (ns'.map V.int)), I1.laid (t' := s.toks) k2 (Nat.le_refl _) ⟨hlen, out, e, vals_of_ints g1, he'⟩, rfl, q _ _ g2 g3 (I1.hok.fresh (Nat.le_refl _))⟩
  rcases hs with hs | hs
  · obtain ⟨its, rv, hl, hz⟩ := I.list hs
    obtain ⟨o, ho, hc, n, hd⟩ := hl.isList
    have hz2 : its.length ≤ sizeLine := by rw [← rv.length]; exact hz
    exact SrtO.sorted_seqI (.inl rfl) ho hc hd rv.ints hz2 (fin rv hz2)
  · obtain ⟨its, rv, hl, hz⟩ := I.tuple hs
    have hT : s.heap.IsTuple a its.toArray := hl
    obtain ⟨o, ho, hc, n, hd⟩ := hT
    have hz2 : its.length ≤ sizeLine := by rw [← rv.length]; exact hz
    exact SrtO.sorted_seqI (.inr rfl) ho hc hd rv.ints hz2 (fin rv hz2)
theorem k_sortB {X : Cx} {K : PySem.W.Frag} (e : X.K = K) : CallR X (.builtin "sorted") (qSortB K) := by subst e; exact c_sortB
theorem g_sortB {K : PySem.W.Frag} {H : Hp} {Q : VK} {a : Addr} {ns : List Int} (h : SqL K H a (ns.map V.int) ∨ SqT K H a (ns.map V.int)) (q : ∀ (ns' : List Int) (p : Addr), ns'.Perm ns → ns'.Pairwise (· ≤ ·) → H p = none → Q (.ref p) (upd H p (.lst (ns'.map V.int)))) : qSortB K [.ref a] H Q := ⟨a, ns, rfl, h, q⟩
/-- tuple(x), x a list or a tuple -/
def qTupB (K : PySem.W.Frag) : List V → Hp → VK → Prop := fun xs H Q => ∃ p ys, xs = [.ref p] ∧ ((SqL K H p ys ∧ ∀ l, H l = none → Q (.ref l) (upd H l (.tup ys))) ∨ (SqT K H p ys ∧ Q (.ref p) H))
theorem k_tupleB {X : Cx} {K : PySem.W.Frag} (e : X.K = K) : CallR X (.type "tuple") (qTupB K) := by subst e; exact call_tuple_of
theorem g_tupBL {K : PySem.W.Frag} {H : Hp} {Q : VK} {p : Addr} {ys : List V} (h : SqL K H p ys) (q : ∀ l, H l = none → Q (.ref l) (upd H l (.tup ys))) : qTupB K [.ref p] H Q := ⟨p, ys, rfl, .inl ⟨h, q⟩⟩
theorem g_tupBT {K : PySem.W.Frag} {H : Hp} {Q : VK} {p : Addr} {ys : List V} (h : SqT K H p ys) (q : Q (.ref p) H) : qTupB K [.ref p] H Q := ⟨p, ys, rfl, .inr ⟨h, q⟩⟩
/-- either way: the answer is a tuple of the same values -/
theorem g_tupB {K : PySem.W.Frag} {H : Hp} {Q : VK} {p : Addr} {ys : List V} (h : SqL K H p ys ∨ SqT K H p ys) (q : ∀ l H', SqT K H' l ys → Same H H' → Q (.ref l) H') : qTupB K [.ref p] H Q := by
  rcases h with h | h
  · exact g_tupBL h fun l hl => q l _ (.inl (.inl upd_same)) (same_new hl)
  · exact g_tupBT h (q p H h fun _ _ e => e)
end Q

set_option Elab.async false
set_option linter.all false
set_option maxRecDepth 100000
set_option maxHeartbeats 4000000
/-! a caught error handed to a def: its class, its attributes -/
namespace Q
open PySem PySem.Spec PyProof.Rows L2
/-- a caught error that a def is handed: its object stands and is not written (base: it may stand there) -/
def ExH (base : Heap) (H : Hp) (a : Addr) (oe : Obj) : Prop := H a = some (.frz oe (.own a)) ∨ base.get? a = some oe
theorem ExH.get {X : Cx} {pins : List (Addr × Obj)} {σ : L2.St} {H : Hp} {s : Shared} {a : Addr} {oe : Obj} (I : Inv X pins σ H s) (h : ExH X.base H a oe) : s.heap.get? a = some oe := by
  rcases h with h | h
  · exact (show ObjOk X.prog X.w H s.heap a (.frz oe (.own a)) from I.hok a _ h).1
  · exact I.bk _ _ h
/-- what is known of it: its class, its attributes -/
structure ExV (base : Heap) (H : Hp) (a C : Addr) (fs : List (Str × V)) : Prop where
  ex : ∃ (oe : Obj) (dd : Addr) (vs : Array Value), ExH base H a oe ∧ oe.cls = .ref C ∧ oe.dict = some dd ∧ oe.data = .fields vs ∧ H dd = some (.xd fs)
theorem ExV.sm {base : Heap} {H H' : Hp} {a C : Addr} {fs : List (Str × V)} (h : ExV base H a C fs) (s : Same H H') : ExV base H' a C fs := by
  obtain ⟨oe, dd, vs, h1, h2, h3, h4, h5⟩ := h
  exact ⟨oe, dd, vs, h1.imp (s _ _) id, h2, h3, h4, s _ _ h5⟩
theorem ExV.inst {X : Cx} {pins : List (Addr × Obj)} {σ : L2.St} {H : Hp} {s : Shared} {a C : Addr} {fs : List (Str × V)} (I : Inv X pins σ H s) (h : ExV X.base H a C fs) :
    ∃ (oe od : Obj) (mA : Str → Option Value), PySem.W.InstAt s.heap a oe C (some od) ∧ (∀ f, RelO (fs.lookup f) (mA f)) ∧ ∀ n, PySem.W.lookIn n od = some (mA n) := by
  obtain ⟨oe, dd, vs, h1, h2, h3, h4, h5⟩ := h
  obtain ⟨mA, hns, hr⟩ := (show ObjOk X.prog X.w H s.heap dd (.xd fs) from I.hok dd _ h5)
  obtain ⟨od, ho, hl⟩ := lookIn_ns hns
  exact ⟨oe, od, mA, ⟨h1.get I, h2, by unfold PySem.W.notCls; rw [h4], by rw [h3]; exact ho⟩, hr, hl⟩
/-- isinstance(e, c), e such an error -/
def rIsE (K : PySem.W.Frag) (base : Heap) : List V → Hp → VK → Prop := fun xs H Q => ∃ (a C : Addr) (fs : List (Str × V)) (c : V) (cv : Value) (b : Bool), xs = [.ref a, c] ∧ ExV base H a C fs ∧ ExcC K C ∧ ClsV c cv ∧ PySem.W.kitOne K (.ref C) cv = some b ∧ Q (.bl b) H
theorem call_isE {X : Cx} : CallR X (.builtin "isinstance") (rIsE X.K X.base) := by
  intro pins s σ H xs us Q I r h
  obtain ⟨a, C, fs, c, cv, b, rfl, hE, hC, k, e, q⟩ := h
  obtain ⟨u1, u2, rfl, r1, r2⟩ := vals2 r
  have e2 := k.eq r2
  subst e2
  cases (show u1 = Value.ref a from r1)
  obtain ⟨oe, od, mA, J, _⟩ := hE.inst I
  exact PySem.W.kia_one (kitx_exd hC) I.kIn ⟨_, J⟩ e (fun z => nomatch z) fun tk => ⟨.bl b, H, I.tok tk, rfl, q⟩
/-- isinstance(e, (c1, c2, ..)) -/
def rIsET (K : PySem.W.Frag) (base : Heap) : List V → Hp → VK → Prop := fun xs H Q => ∃ (a C : Addr) (fs : List (Str × V)) (tp : Addr) (cs : List V) (us : List Value) (b : Bool), xs = [.ref a, .ref tp] ∧ ExV base H a C fs ∧ ExcC K C ∧ H tp = some (.tup cs) ∧ Paired ClsV cs us ∧ PySem.W.kitAny K (.ref C) us = some b ∧ Q (.bl b) H
theorem call_isET {X : Cx} : CallR X (.builtin "isinstance") (rIsET X.K X.base) := by
  intro pins s σ H xs us Q I r h
  obtain ⟨a, C, fs, tp, cs, ws, b, rfl, hE, hC, hT, k, e, q⟩ := h
  obtain ⟨u1, u2, rfl, r1, r2⟩ := vals2 r
  cases (show u1 = Value.ref a from r1)
  cases (show u2 = Value.ref tp from r2)
  obtain ⟨oe, od, mA, J, _⟩ := hE.inst I
  obtain ⟨_, its, rv, o, h1, h2, n, h3⟩ := (show ObjOk X.prog X.w H s.heap tp (.tup cs) from I.hok tp _ hT)
  have e3 := ClsV.all k rv
  subst e3
  obtain ⟨oc, od2, dt, sl⟩ := o
  simp only at h2 h3
  subst h2 h3
  exact PySem.W.kia_tup (kitx_exd hC) I.kIn ⟨_, J⟩ h1 e (fun z => nomatch z) fun tk => ⟨.bl b, H, I.tok tk, rfl, q⟩
/-- e.f -/
def tXfE (K : PySem.W.Frag) (base : Heap) (f : Str) (te : TE) : TE := fun σ H Q => te σ H fun x H1 => ∃ (a C : Addr) (fs : List (Str × V)) (v : V), x = .ref a ∧ ExV base H1 a C fs ∧ XfC K C ∧ PySem.W.findIn K (.ref C) f = some none ∧ fs.lookup f = some v ∧ Q v H1
theorem pe_xfE {X : Cx} {e : Expr} {te : TE} {pos : Pos} {n : Str} (he : PE X e te) (hb : attributeBase e n X.env (eval e X.env) = eval e X.env := by rfl) : PE X (.Attribute e n pos) (tXfE X.K X.base n te) := by
  refine ⟨fun pins s σ H Q I h => ?_⟩
  refine attr_of hb (thn (he.run pins s σ H _ I h) fun u s1 hh => ?_)
  obtain ⟨x, H1, I1, rx, a, C, fs, v, ex, hE, T, hno, l, q⟩ := hh
  subst ex
  obtain rfl : u = Value.ref a := rx
  obtain ⟨oe, od, mA, J, hr, hl⟩ := hE.inst I1
  obtain ⟨u, hu, ru⟩ := RelO.some_of (v := v) (o := mA n) (by rw [← l]; exact hr n)
  exact HandSPX.exc_get I1.kIn J T.ga T.gg T.exC (PySem.W.findObj_own T.hdC hno rfl (by rw [hl, hu])) (handed_of ru) ⟨v, H1, I1.tok _, ru, q⟩
/-- a call in an except suite that hands the caught error on -/
def tCallE (base : Heap) (a : Addr) (oe : Obj) (sp : Sp) (t : TA) : TE := fun σ H Q => t σ H fun vs H1 => (H1 a = none → sp vs (upd H1 a (.frz oe (.own a))) (fun v H2 => Q v (del H2 a)) E0) ∧ (base.get? a = some oe → sp vs H1 Q E0)
theorem hok_del {P : Program} {w : World} {H : Hp} {h : Heap} {a : Addr} {oe : Obj} {u : HO} (x : HOk P w H h) (e : H a = some (.frz oe u)) : HOk P w (del H a) h := fun b o q => by
  have n : b ≠ a := fun z => by rw [z, del_same] at q; cases q
  rw [del_ne n] at q
  refine (x b o q).stay (fun _ _ _ z => z) (fun c z => ?_) fun c xs z => ?_
  · rw [del_ne (fun z2 => by rw [z2, e] at z; cases z)]; exact z
  · rw [del_ne (fun z2 => by rw [z2, e] at z; cases z)]; exact z
theorem un_del {fs : List Addr} {H H2 : Hp} {h h' : Heap} {a : Addr} {oe : Obj} {u : HO} (x : Un fs [] (upd H a (.frz oe u)) H2 h h') (n : H a = none) (nf : a ∉ fs) (e : h.get? a = some oe) (e2 : h'.get? a = some oe) : Un fs [] H (del H2 a) h h' where
  keep b o q n1 n2 n3 := by
    by_cases z : b = a
    · subst z
      rw [e] at q
      rw [e2, ← q]
    · exact x.keep b o q (by rw [upd_ne z]; exact n1) n2 n3
  slot b o q n1 n2 n3 := x.slot b o q (by rw [upd_ne (fun z => nf (by rw [← z]; exact n2))]; exact n1) n2 n3
  free b o q n1 n3 := by
    by_cases z : b = a
    · rw [z]; exact del_same
    · rw [del_ne z]; exact x.free b o q (by rw [upd_ne z]; exact n1) n3
  there := x.there
  tups b xs q := by
    have z : b ≠ a := ne_of_none q n
    rw [del_ne z]; exact x.tups b xs (by rw [upd_ne z]; exact q)
  frzs b o u q := by
    have z : b ≠ a := ne_of_none q n
    rw [del_ne z]; exact x.frzs b o u (by rw [upd_ne z]; exact q)
  tbls b ps q := by
    have z : b ≠ a := ne_of_none q n
    rw [del_ne z]; exact x.tbls b ps (by rw [upd_ne z]; exact q)
section
variable {X : Cx} {x : Str} {k : Nat} {ps : List Str} {sp : Sp} {e : Expr} {es : List Expr} {t : TA} {p pos : Pos} {a : Addr} {oe : Obj} {pn : List (Addr × Obj)}
theorem run_fnE {f : Addr} {fd : FuncData} {pins : List (Addr × Obj)} {σ : L2.St} {H : Hp} {s : Shared} {Q : VK} {us : List Value} {vs : List V} (F : FnC X.prog X.w X.K X.mg X.base CX0 k f fd ps sp) (room : L2H.RoomH k X.A) (hb : Binds X.K fd ps []) (hp : (a, oe) ∈ X.pn)
    (I : Inv X pins σ H s) (r : Vals vs us) (h : (H a = none → sp vs (upd H a (.frz oe (.own a))) (fun v H2 => Q v (del H2 a)) E0) ∧ (X.base.get? a = some oe → sp vs H Q E0)) : wpAny (model X.prog X.w) X.A (call (.ref f) us) (EP X pins σ Q) X.xe s := by
  obtain ⟨hg, na, nL, nF, _⟩ := I.pin (a, oe) (List.mem_append_left _ hp)
  have w1 := h.1 na
  have lenv := F.len _ _ _ _ w1
  have bd : BindsTo s fd ⟨us, []⟩ (ps.zip us) := by
    have z := hb s us I.kIn (by rw [List.append_nil, ← r.length]; exact lenv)
    rwa [List.append_nil] at z
  cases hB : X.base.get? a with
  | some o =>
    have : s.heap.get? a = some o := I.bk _ _ hB
    rw [hg] at this
    exact run_fnC F room hb I r (h.2 (by rw [hB]; exact this.symm))
  | none =>
    have e0 := I.env0
    have ns : a ∉ frs X.stack := fun z => (List.mem_cons.mp (I.stkSub a z)).elim nL nF
    have e1 : Env0 X.prog X.w X.K X.mg X.base X.A X.stack s (upd H a (.frz oe (.own a))) := ⟨e0.frames, e0.mod, fun b o q => ⟨(e0.bs b o q).1, by rw [upd_ne (fun z => by rw [z, hB] at q; cases q)]; exact (e0.bs b o q).2⟩, e0.bsz, e0.funs,
      fun b hb => by rw [upd_ne (fun z => ns (by rw [← z]; exact hb))]; exact e0.frf b hb, _root_.L2.HOk.laidN I.hok (fun _ _ q => q) na ⟨hg, oe, hg⟩, e0.bare⟩
    refine wpAny_call (codeAny_mono (F.run X.A X.stack s _ ⟨us, []⟩ us vs _ E0 room e1 bd r w1) fun res s' hq => ?_)
    cases res with
    | error er => exact pass0 pins σ _ s er s' I (hq : CX0 X.stack _ s E0 er s')
    | ok fl =>
      cases fl with
      | ret u =>
        obtain ⟨v, H2, os, bare, un, hok, rv, q⟩ := hq
        have e2 : H2 a = some (.frz oe (.own a)) := un.frzs a oe (.own a) upd_same
        exact I.after ⟨v, del H2 a, os, bare, un_del un na ns hg (show ObjOk X.prog X.w H2 s'.heap a (.frz oe (.own a)) from hok a _ e2).1, hok_del hok e2, rv, q⟩
      | _ => exact hq.elim
theorem pe_calE (C : CalW X.prog X.w X.K X.mg X.base x k ps sp) (room : L2H.RoomH k (X.suite a ((a, oe) :: pn)).A) (hg : Gl (X.suite a ((a, oe) :: pn)) x) (ha : PA (X.suite a ((a, oe) :: pn)) (e :: es) t)
    (hd : (x == ("__debug__" : Str)) = false := by decide) (he : starEach (e :: es) X.env = (false, eval e X.env) :: starEach es X.env := by rfl) (hl : (backTo pos (starEach es X.env)).any (·.1) = false := by rfl) :
    PE (X.suite a ((a, oe) :: pn)) (.Call (.Name x p) (e :: es) [] pos) (tCallE X.base a oe sp t) := by
  obtain ⟨f, fd, F, hm, hk, hb⟩ := C.ex
  refine ⟨fun pins s σ H Q I h => wpAny_Call_Name_kw (ld_glob I hg hm ?_ hd)⟩
  refine PySem.W.callWith_K (h₀ := X.base) I.ok.mod.kin hk (thn (ha.run pos pins s σ H _ I h) fun us s1 z => ?_) he hl
  obtain ⟨vs, H1, I1, r, q⟩ := z
  exact ⟨I1.kIn, run_fnE F room hb List.mem_cons_self I1 r q⟩
end
theorem k_isE {X : Cx} {K : PySem.W.Frag} {base : Heap} (e : X.K = K) (eb : X.base = base) : CallR X (.builtin "isinstance") (rIsE K base) := by subst e eb; exact call_isE
theorem k_isET {X : Cx} {K : PySem.W.Frag} {base : Heap} (e : X.K = K) (eb : X.base = base) : CallR X (.builtin "isinstance") (rIsET K base) := by subst e eb; exact call_isET
theorem k_xfE {X : Cx} {K : PySem.W.Frag} {base : Heap} {e : Expr} {te : TE} {pos : Pos} {n : Str} (ek : X.K = K) (eb : X.base = base) (he : PE X e te) (hb : attributeBase e n X.env (eval e X.env) = eval e X.env := by rfl) : PE X (.Attribute e n pos) (tXfE K base n te) := by subst ek eb; exact pe_xfE he hb
section
variable {X : Cx} {x : Str} {k : Nat} {ps : List Str} {sp : Sp} {e : Expr} {es : List Expr} {t : TA} {p pos : Pos} {a : Addr} {oe : Obj} {pn : List (Addr × Obj)}
/-- the same, whatever the object is -/
def tCallZ (base : Heap) (a : Addr) (cls : Value) (d : Option Addr) (sp : Sp) (t : TA) : TE := fun σ H Q => t σ H fun vs H1 => ∀ oe : Obj, Zc cls d oe → (∃ vs, oe.data = .fields vs) → (H1 a = none → sp vs (upd H1 a (.frz oe (.own a))) (fun v H2 => Q v (del H2 a)) E0) ∧ (base.get? a = some oe → sp vs H1 Q E0)
theorem pe_calZ {cls : Value} {d : Option Addr} (C : CalW X.prog X.w X.K X.mg X.base x k ps sp) (hz : Zc cls d oe) (hf : ∃ vs, oe.data = .fields vs) (room : L2H.RoomH k (X.suite a ((a, oe) :: pn)).A) (hg : Gl (X.suite a ((a, oe) :: pn)) x) (ha : PA (X.suite a ((a, oe) :: pn)) (e :: es) t)
    (hd : (x == ("__debug__" : Str)) = false := by decide) (he : starEach (e :: es) X.env = (false, eval e X.env) :: starEach es X.env := by rfl) (hl : (backTo pos (starEach es X.env)).any (·.1) = false := by rfl) :
    PE (X.suite a ((a, oe) :: pn)) (.Call (.Name x p) (e :: es) [] pos) (tCallZ X.base a cls d sp t) := by
  obtain ⟨f, fd, F, hm, hk, hb⟩ := C.ex
  refine ⟨fun pins s σ H Q I h => wpAny_Call_Name_kw (ld_glob I hg hm ?_ hd)⟩
  refine PySem.W.callWith_K (h₀ := X.base) I.ok.mod.kin hk (thn (ha.run pos pins s σ H _ I h) fun us s1 z => ?_) he hl
  obtain ⟨vs, H1, I1, r, q⟩ := z
  exact ⟨I1.kIn, run_fnE F room hb List.mem_cons_self I1 r (q oe hz hf)⟩
end
section
variable {σ : L2.St} {H : Hp} {Q : VK} {K : PySem.W.Frag} {base : Heap}
theorem g_calZ {a : Addr} {cls : Value} {d : Option Addr} {sp : Sp} {t : TA} (h : t σ H fun vs H1 => ∀ oe : Obj, Zc cls d oe → (∃ vs, oe.data = .fields vs) → (H1 a = none → sp vs (upd H1 a (.frz oe (.own a))) (fun v H2 => Q v (del H2 a)) E0) ∧ (base.get? a = some oe → sp vs H1 Q E0)) : tCallZ base a cls d sp t σ H Q := h
theorem g_isE {a C : Addr} {fs : List (Str × V)} {c : V} {cv : Value} {b : Bool} (h : ExV base H a C fs) (hC : ExcC K C) (k : ClsV c cv) (e : PySem.W.kitOne K (.ref C) cv = some b) (q : Q (.bl b) H) : rIsE K base [.ref a, c] H Q := ⟨a, C, fs, c, cv, b, rfl, h, hC, k, e, q⟩
theorem g_isET {a C tp : Addr} {fs : List (Str × V)} {cs : List V} {us : List Value} {b : Bool} (h : ExV base H a C fs) (hC : ExcC K C) (hT : H tp = some (.tup cs)) (k : Paired ClsV cs us) (e : PySem.W.kitAny K (.ref C) us = some b) (q : Q (.bl b) H) : rIsET K base [.ref a, .ref tp] H Q := ⟨a, C, fs, tp, cs, us, b, rfl, h, hC, hT, k, e, q⟩
theorem g_xfE {σ : L2.St} {H : Hp} {Q : VK} {K : PySem.W.Frag} {base : Heap} {f : Str} {te : TE} (h : te σ H fun x H1 => ∃ (a C : Addr) (fs : List (Str × V)) (v : V), x = .ref a ∧ ExV base H1 a C fs ∧ XfC K C ∧ PySem.W.findIn K (.ref C) f = some none ∧ fs.lookup f = some v ∧ Q v H1) : tXfE K base f te σ H Q := h
/-- the error in hand, as a def sees it that is called in the suite -/
theorem exV_in {a C dd : Addr} {oe : Obj} {fs : List (Str × V)} (hz : Zc (.ref C) (some dd) oe) (hf : ∃ vs, oe.data = .fields vs) (ne : dd ≠ a) (h : H dd = some (.xd fs)) : ExV base (upd H a (.frz oe (.own a))) a C fs := by
  obtain ⟨vs, hf⟩ := hf
  exact ⟨oe, dd, vs, .inl upd_same, hz.1, hz.2, hf, by rw [upd_ne ne]; exact h⟩
theorem exV_base {a C dd : Addr} {oe : Obj} {fs : List (Str × V)} (hz : Zc (.ref C) (some dd) oe) (hf : ∃ vs, oe.data = .fields vs) (hb : base.get? a = some oe) (h : H dd = some (.xd fs)) : ExV base H a C fs := by
  obtain ⟨vs, hf⟩ := hf
  exact ⟨oe, dd, vs, .inr hb, hz.1, hz.2, hf, h⟩
theorem same_del {H H2 : Hp} {a : Addr} {o : HO} (n : H a = none) (s : Same (upd H a o) H2) : Same H (del H2 a) := fun b u e => by
  have z := ne_of_none e n
  rw [del_ne z]
  exact s b u (by rw [upd_ne z]; exact e)
end
end Q

set_option Elab.async false
set_option linter.all false
set_option maxRecDepth 100000
set_option maxHeartbeats 4000000
/-! walks over what is a list or a tuple; list.count of whole numbers -/
namespace Q
open PySem PySem.Spec PyProof.Rows L2
def iB (K : PySem.W.Frag) (te : TE) : TI := fun σ H R => te σ H fun x H1 => ∃ a, x = .ref a ∧ (((∃ xs, SqL K H1 a xs) ∧ R (Itl K a) H1) ∨ ((∃ xs, SqT K H1 a xs) ∧ R (Itt K a) H1))
theorem pi_B {X : Cx} {tg l : Expr} {te : TE} (hl : PE X l te) : PI X tg l (iB X.K te) := by
  refine ⟨fun pins s σ H R I h => thn (hl.run pins s σ H _ I h) fun v s1 z => ?_⟩
  obtain ⟨x, H1, I1, rx, a, rfl, z⟩ := z
  cases rx
  have own : ∀ b ∈ [s1.heap.objs.size], FpOk X pins H1 b := fun b hb => by
    obtain rfl : b = s1.heap.objs.size := by simpa using hb
    exact I1.fpOk (Nat.le_refl _) (I1.hok.fresh (Nat.le_refl _))
  rcases z with ⟨⟨xs, hq⟩, q⟩ | ⟨⟨xs, hq⟩, q⟩
  · obtain ⟨its, _, p, _⟩ := I1.list hq
    exact wpAny_pyIter_list p.isList ⟨s1.heap.objs.size, [s1.heap.objs.size], _, _, H1, rfl, I1.kept (t' := s1.toks) fun b o e => Heap.get?_push_of_some _ e, turn_list a _, ⟨_, Heap.get?_push_size _ rfl, rfl, rfl⟩, own, q⟩
  · obtain ⟨its, _, p, _⟩ := I1.tuple hq
    exact wpAny_pyIter_tuple (show s1.heap.IsTuple a its.toArray from p) ⟨s1.heap.objs.size, [s1.heap.objs.size], _, _, H1, rfl, I1.kept (t' := s1.toks) fun b o e => Heap.get?_push_of_some _ e, turn_tuple a _, ⟨_, Heap.get?_push_size _ rfl, rfl, rfl⟩, own, q⟩
theorem k_piB {X : Cx} {K : PySem.W.Frag} {tg l : Expr} {te : TE} (e : X.K = K) (hl : PE X l te) : PI X tg l (iB K te) := by subst e; exact pi_B hl
theorem k_lcount {X : Cx} {K : PySem.W.Frag} (e : X.K = K) : MtR X "list.count" (rCntI K) := by subst e; exact mt_lcount
section
variable {K : PySem.W.Frag} {g : TG} {tt : TT} {te : TE} {tb : TS} {vs : List Nat} {D0 : Ends} {σ σ0 : L2.St} {H : Hp} {Q : VK} {a : Addr} {R : It → Hp → Prop}
def BR (K : PySem.W.Frag) (R : It → Hp → Prop) (x : V) (H1 : Hp) : Prop := ∃ a, x = .ref a ∧ (((∃ xs, SqL K H1 a xs) ∧ R (Itl K a) H1) ∨ ((∃ xs, SqT K H1 a xs) ∧ R (Itt K a) H1))
theorem g_iB {tl : TE} (h : tl σ H (BR K R)) : iB K tl σ H R := h
instance st_g_iB {tl : TE} : Step (iB K tl σ H R) (tl σ H (BR K R)) := ⟨fun z => g_iB z⟩
theorem g_bR {xs : List V} (c : SqL K H a xs ∨ SqT K H a xs) (h1 : SqL K H a xs → R (Itl K a) H) (h2 : SqT K H a xs → R (Itt K a) H) : BR K R (.ref a) H := by
  rcases c with c | c
  · exact ⟨a, rfl, .inl ⟨⟨xs, c⟩, h1 c⟩⟩
  · exact ⟨a, rfl, .inr ⟨⟨xs, c⟩, h2 c⟩⟩
theorem keep_sm {H' : Hp} {xs : List V} (s : L2.Same H H') : (SqL K H a xs → SqL K H' a xs) ∧ (SqT K H a xs → SqT K H' a xs) := ⟨sqL_sm s, seqT_same s⟩
theorem lcB {xs : List V} (c : SqL K H a xs ∨ SqT K H a xs) (hw : wipe σ vs = σ0) (h : ∀ D, H D = none → ∃ Pv : Nat → Hp → Prop, Pv 0 (upd H D (.lst [])) ∧ (∀ i H', i ≤ xs.length → Pv i H' → (SqL K H a xs → SqL K H' a xs) ∧ (SqT K H a xs → SqT K H' a xs)) ∧
    (∀ (i : Nat) (x : V) (H' : Hp), xs[i]? = some x → Pv i H' → Turn1 g tt te vs σ0 D x H' (Pv (i + 1))) ∧ ∀ H', Pv xs.length H' → Q (.ref D) H') : BR K (fun J H1 => LcG J g tt te vs σ Q H1) (.ref a) H := by
  refine g_bR c (fun z => lcL (xs := xs) hw fun D hD => ?_) (fun z => lcT (xs := xs) hw fun D hD => ?_)
  · obtain ⟨Pv, h0, hl, hs, hd⟩ := h D hD
    exact ⟨Pv, h0, fun i H' hi p => (hl i H' hi p).1 z, hs, hd⟩
  · obtain ⟨Pv, h0, hl, hs, hd⟩ := h D hD
    exact ⟨Pv, h0, fun i H' hi p => (hl i H' hi p).2 z, hs, hd⟩
theorem forB {xs : List V} (c : SqL K H a xs ∨ SqT K H a xs) (h : ∃ Pv : Nat → L2.St → Hp → Prop, Pv 0 σ H ∧ (∀ i σ' H', i ≤ xs.length → Pv i σ' H' → (SqL K H a xs → SqL K H' a xs) ∧ (SqT K H a xs → SqT K H' a xs)) ∧
    (∀ i x σ' H', xs[i]? = some x → Pv i σ' H' → g x σ' H' fun σ2 H2 => tb { D0 with nx := Pv (i + 1), ct := Pv (i + 1), bk := D0.nx } σ2 H2) ∧ ∀ σ' H', Pv xs.length σ' H' → D0.nx σ' H') : BR K (fun J H1 => ForG J g tb D0 σ H1) (.ref a) H := by
  obtain ⟨Pv, h0, hl, hs, hd⟩ := h
  exact g_bR c (fun z => forL (xs := xs) ⟨Pv, h0, fun i σ' H' hi p => (hl i σ' H' hi p).1 z, hs, hd⟩) (fun z => forT (xs := xs) ⟨Pv, h0, fun i σ' H' hi p => (hl i σ' H' hi p).2 z, hs, hd⟩)
theorem g_lcount {p : Addr} {ns : List Int} {k : Int} (h : SqL K H p (ns.map V.int)) (q : Q (.int (ns.count k : Nat)) H) : rCntI K (.ref p) [.int k] H Q := ⟨p, ns, k, rfl, rfl, h, q⟩
end
end Q
-- step instances

set_option Elab.async false
set_option linter.all false
set_option maxRecDepth 100000
set_option maxHeartbeats 4000000
/-! data as trees; what stays while certain addresses alone are written; comprehensions over such data -/
namespace Q
open PySem PySem.Spec L2
section
variable {K : PySem.W.Frag}
theorem dp_same {H H' : Hp} (s : Same H H') : ∀ {v : V} {d : PyData}, Dp K H v d → Dp K H' v d := by
  intro v d h
  exact Dp.rec (motive_1 := fun v d _ => Dp K H' v d) (motive_2 := fun vs ds _ => DpAll K H' vs ds) .non (fun b => .bl b) (fun i => .int i) (fun x => .str x)
    (fun h1 _ ih => .lst (s.seq h1) ih) (fun h1 _ ih => .tup (seqT_same s h1) ih) .nil (fun _ _ i1 i2 => .cons i1 i2) h
theorem dpAll_len {H : Hp} : ∀ {vs : List V} {ds : List PyData}, DpAll K H vs ds → vs.length = ds.length
  | _, _, .nil => rfl
  | _, _, .cons _ h => congrArg Nat.succ (dpAll_len h)
theorem dpAll_at {H : Hp} : ∀ {vs : List V} {ds : List PyData} {i : Nat} {v : V}, DpAll K H vs ds → vs[i]? = some v → ∃ d, ds[i]? = some d ∧ Dp K H v d
  | _, _, i, v, .nil, e => by simp at e
  | _, _, 0, v, .cons (d := d) h _, e => ⟨d, rfl, by
      obtain rfl := Option.some.inj e
      exact h⟩
  | _, _, i + 1, v, .cons _ h, e => dpAll_at (i := i) h e
theorem all_rep (n : Nat) : (List.replicate n true).all id = true := by
  induction n with
  | zero => rfl
  | succ n ih => rw [List.replicate_succ, List.all_cons, ih]; rfl
mutual
def smallD : PyData → Bool
  | .list xs => decide (xs.length ≤ 1000) && smallAll xs
  | .tuple xs => decide (xs.length ≤ 1000) && smallAll xs
  | _ => true
def smallAll : List PyData → Bool
  | [] => true
  | x :: xs => smallD x && smallAll xs
end
theorem smallAll_mem : ∀ {xs : List PyData} {x : PyData}, smallAll xs = true → x ∈ xs → smallD x = true
  | y :: ys, x, h, m => by
    have h2 : (smallD y && smallAll ys) = true := h
    rw [Bool.and_eq_true] at h2
    rcases List.mem_cons.mp m with e | m
    · rw [e]; exact h2.1
    · exact smallAll_mem h2.2 m
theorem dpAll_same {H H' : Hp} (s : Same H H') : ∀ {xs : List V} {ds : List PyData}, DpAll K H xs ds → DpAll K H' xs ds
  | _, _, .nil => .nil
  | _, _, .cons h hs => .cons (dp_same s h) (dpAll_same s hs)
/-- what is written stands in S -/
def ChgS (S : Addr → Prop) (H H' : Hp) : Prop := ∀ b o, ¬ S b → H b = some o → H' b = some o
theorem ChgS.refl {S : Addr → Prop} {H : Hp} : ChgS S H H := fun _ _ _ h => h
theorem ChgS.trans {S : Addr → Prop} {H H1 H2 : Hp} (x : ChgS S H H1) (y : ChgS S H1 H2) : ChgS S H H2 := fun b o n h => y b o n (x b o n h)
theorem toS {S : Addr → Prop} {a : Addr} {H H' : Hp} (c : Chg a H H') (s : S a) : ChgS S H H' := fun b o n h => c b o (fun e => n (e ▸ s)) h
mutual
inductive Dq (K : PySem.W.Frag) (S : Addr → Prop) (H : Hp) : V → PyData → Prop where
  | non : Dq K S H .non .none
  | bl (b : Bool) : Dq K S H (.bl b) (.bool b)
  | int (i : Int) : Dq K S H (.int i) (.int i)
  | str (x : Str) : Dq K S H (.str x) (.str x)
  | lst {b : Addr} {xs : List V} {ds : List PyData} : (∀ H', ChgS S H H' → H' b = some (.lst xs)) → DqAll K S H xs ds → Dq K S H (.ref b) (.list ds)
  | tup {b : Addr} {xs : List V} {ds : List PyData} : (∀ H', ChgS S H H' → SqT K H' b xs) → DqAll K S H xs ds → Dq K S H (.ref b) (.tuple ds)
inductive DqAll (K : PySem.W.Frag) (S : Addr → Prop) (H : Hp) : List V → List PyData → Prop where
  | nil : DqAll K S H [] []
  | cons {v : V} {vs : List V} {d : PyData} {ds : List PyData} : Dq K S H v d → DqAll K S H vs ds → DqAll K S H (v :: vs) (d :: ds)
end
mutual
theorem Dq.tr {S S2 : Addr → Prop} {H H2 : Hp} (c : ∀ H', ChgS S2 H2 H' → ChgS S H H') : ∀ {x : V} {d : PyData}, Dq K S H x d → Dq K S2 H2 x d
  | _, _, .non => .non
  | _, _, .bl b => .bl b
  | _, _, .int i => .int i
  | _, _, .str z => .str z
  | _, _, .lst h hs => .lst (fun H3 c2 => h H3 (c H3 c2)) (DqAll.tr c hs)
  | _, _, .tup h hs => .tup (fun H3 c2 => h H3 (c H3 c2)) (DqAll.tr c hs)
theorem DqAll.tr {S S2 : Addr → Prop} {H H2 : Hp} (c : ∀ H', ChgS S2 H2 H' → ChgS S H H') : ∀ {xs : List V} {ds : List PyData}, DqAll K S H xs ds → DqAll K S2 H2 xs ds
  | _, _, .nil => .nil
  | _, _, .cons h hs => .cons (Dq.tr c h) (DqAll.tr c hs)
end
theorem Dq.chg {S : Addr → Prop} {H H' : Hp} (c : ChgS S H H') {x : V} {d : PyData} (h : Dq K S H x d) : Dq K S H' x d := h.tr fun _ c2 => c.trans c2
theorem DqAll.chg {S : Addr → Prop} {H H' : Hp} (c : ChgS S H H') {xs : List V} {ds : List PyData} (h : DqAll K S H xs ds) : DqAll K S H' xs ds := h.tr fun _ c2 => c.trans c2
mutual
theorem Dq.dp {S : Addr → Prop} {H : Hp} : ∀ {x : V} {d : PyData}, Dq K S H x d → Dp K H x d
  | _, _, .non => .non
  | _, _, .bl b => .bl b
  | _, _, .int i => .int i
  | _, _, .str z => .str z
  | _, _, .lst h hs => .lst (.of (h H ChgS.refl)) (DqAll.dp hs)
  | _, _, .tup h hs => .tup (h H ChgS.refl) (DqAll.dp hs)
theorem DqAll.dp {S : Addr → Prop} {H : Hp} : ∀ {xs : List V} {ds : List PyData}, DqAll K S H xs ds → DpAll K H xs ds
  | _, _, .nil => .nil
  | _, _, .cons h hs => .cons (Dq.dp h) (DqAll.dp hs)
end
theorem DqAll.len {S : Addr → Prop} {H : Hp} {xs : List V} {ds : List PyData} (h : DqAll K S H xs ds) : xs.length = ds.length := dpAll_len h.dp
theorem DqAll.app {S : Addr → Prop} {H : Hp} : ∀ {xs ys : List V} {ds es : List PyData}, DqAll K S H xs ds → DqAll K S H ys es → DqAll K S H (xs ++ ys) (ds ++ es)
  | _, _, _, _, .nil, h2 => h2
  | _, _, _, _, .cons h hs, h2 => .cons h (DqAll.app hs h2)
theorem DqAll.take {S : Addr → Prop} {H : Hp} : ∀ (n : Nat) {xs : List V} {ds : List PyData}, DqAll K S H xs ds → DqAll K S H (xs.take n) (ds.take n)
  | 0, _, _, _ => by rw [List.take_zero, List.take_zero]; exact .nil
  | _ + 1, _, _, .nil => .nil
  | n + 1, _, _, .cons h hs => .cons h (DqAll.take n hs)
theorem DqAll.drop {S : Addr → Prop} {H : Hp} : ∀ (n : Nat) {xs : List V} {ds : List PyData}, DqAll K S H xs ds → DqAll K S H (xs.drop n) (ds.drop n)
  | 0, _, _, h => h
  | _ + 1, _, _, .nil => .nil
  | n + 1, _, _, .cons _ hs => DqAll.drop n hs
theorem DqAll.set {S : Addr → Prop} {H : Hp} {y : V} {e : PyData} (hy : Dq K S H y e) : ∀ (n : Nat) {xs : List V} {ds : List PyData}, DqAll K S H xs ds → DqAll K S H (xs.set n y) (ds.set n e)
  | _, _, _, .nil => .nil
  | 0, _, _, .cons _ hs => .cons hy hs
  | n + 1, _, _, .cons h hs => .cons h (DqAll.set hy n hs)
theorem DqAll.at {S : Addr → Prop} {H : Hp} : ∀ {xs : List V} {ds : List PyData} {i : Nat} {v : V}, DqAll K S H xs ds → xs[i]? = some v → ∃ d, ds[i]? = some d ∧ Dq K S H v d
  | _, _, 0, _, .cons h _, e => ⟨_, rfl, by rw [← Option.some.inj e]; exact h⟩
  | _, _, n + 1, _, .cons _ hs, e => DqAll.at (i := n) hs e
theorem dq_new {S : Addr → Prop} {b : Addr} {H : Hp} {xs : List V} {ds : List PyData} (n : ¬ S b) (h : H b = some (.lst xs)) (hs : DqAll K S H xs ds) : Dq K S H (.ref b) (.list ds) :=
  .lst (fun H' c => c b _ n h) hs
theorem dq_newT {S : Addr → Prop} {b : Addr} {H : Hp} {xs : List V} {ds : List PyData} (n : ¬ S b) (h : H b = some (.tup xs)) (hs : DqAll K S H xs ds) : Dq K S H (.ref b) (.tuple ds) :=
  .tup (fun H' c => .inl (.inl (c b _ n h))) hs
/-- what may be written is there already -/
def Al (S : Addr → Prop) (H : Hp) : Prop := ∀ s, S s → H s ≠ none
theorem Al.no {S : Addr → Prop} {H : Hp} {p : Addr} (h : Al S H) (hp : H p = none) : ¬ S p := fun z => h p z hp
mutual
/-- the depth and the lengths of data are bounded -/
def bndD : Nat → Nat → PyData → Bool
  | n, m, .list xs => decide (0 < n) && (decide (xs.length ≤ m) && bndAll (n - 1) m xs)
  | n, m, .tuple xs => decide (0 < n) && (decide (xs.length ≤ m) && bndAll (n - 1) m xs)
  | _, _, .dict _ => false
  | _, _, .str s => PyData.strOk s
  | _, _, _ => true
def bndAll : Nat → Nat → List PyData → Bool
  | _, _, [] => true
  | n, m, x :: xs => bndD n m x && bndAll n m xs
end
theorem bndAll_iff {n m : Nat} : ∀ {xs : List PyData}, bndAll n m xs = true ↔ ∀ x ∈ xs, bndD n m x = true
  | [] => ⟨fun _ x hx => absurd hx List.not_mem_nil, fun _ => rfl⟩
  | x :: xs => by
    show (bndD n m x && bndAll n m xs) = true ↔ _
    rw [Bool.and_eq_true, bndAll_iff, List.forall_mem_cons]
theorem bnd_list {n m : Nat} {xs : List PyData} : bndD n m (.list xs) = true ↔ 0 < n ∧ xs.length ≤ m ∧ ∀ x ∈ xs, bndD (n - 1) m x = true := by
  show (decide (0 < n) && (decide (xs.length ≤ m) && bndAll (n - 1) m xs)) = true ↔ _
  rw [Bool.and_eq_true, Bool.and_eq_true, decide_eq_true_iff, decide_eq_true_iff, bndAll_iff]
theorem bnd_tup {n m : Nat} {xs : List PyData} : bndD n m (.tuple xs) = true ↔ 0 < n ∧ xs.length ≤ m ∧ ∀ x ∈ xs, bndD (n - 1) m x = true := by
  show (decide (0 < n) && (decide (xs.length ≤ m) && bndAll (n - 1) m xs)) = true ↔ _
  rw [Bool.and_eq_true, Bool.and_eq_true, decide_eq_true_iff, decide_eq_true_iff, bndAll_iff]
mutual
theorem bnd_mono : ∀ {n m n2 m2 : Nat} {d : PyData}, bndD n m d = true → n ≤ n2 → m ≤ m2 → bndD n2 m2 d = true
  | n, m, n2, m2, .list xs, h, h1, h2 => by
    show (decide (0 < n2) && (decide (xs.length ≤ m2) && bndAll (n2 - 1) m2 xs)) = true
    have z : (decide (0 < n) && (decide (xs.length ≤ m) && bndAll (n - 1) m xs)) = true := h
    rw [Bool.and_eq_true, Bool.and_eq_true] at z ⊢
    have z1 := of_decide_eq_true z.1
    have z2 := of_decide_eq_true z.2.1
    exact ⟨decide_eq_true (by omega), decide_eq_true (by omega), bnd_monos z.2.2 (by omega) h2⟩
  | n, m, n2, m2, .tuple xs, h, h1, h2 => by
    show (decide (0 < n2) && (decide (xs.length ≤ m2) && bndAll (n2 - 1) m2 xs)) = true
    have z : (decide (0 < n) && (decide (xs.length ≤ m) && bndAll (n - 1) m xs)) = true := h
    rw [Bool.and_eq_true, Bool.and_eq_true] at z ⊢
    have z1 := of_decide_eq_true z.1
    have z2 := of_decide_eq_true z.2.1
    exact ⟨decide_eq_true (by omega), decide_eq_true (by omega), bnd_monos z.2.2 (by omega) h2⟩
  | _, _, _, _, .none, _, _, _ => rfl
  | _, _, _, _, .bool _, _, _, _ => rfl
  | _, _, _, _, .int _, _, _, _ => rfl
  | _, _, _, _, .str _, h, _, _ => h
  | _, _, _, _, .dict _, h, _, _ => Bool.noConfusion h
theorem bnd_monos : ∀ {n m n2 m2 : Nat} {ds : List PyData}, bndAll n m ds = true → n ≤ n2 → m ≤ m2 → bndAll n2 m2 ds = true
  | _, _, _, _, [], _, _, _ => rfl
  | n, m, n2, m2, d :: ds, h, h1, h2 => by
    have z : (bndD n m d && bndAll n m ds) = true := h
    rw [Bool.and_eq_true] at z
    show (bndD n2 m2 d && bndAll n2 m2 ds) = true
    rw [bnd_mono z.1 h1 h2, bnd_monos z.2 h1 h2]
    rfl
end
mutual
theorem bnd_small : ∀ {n m : Nat} {d : PyData}, bndD n m d = true → m ≤ 1000 → smallD d = true
  | n, m, .list xs, h, h1 => by
    have z : (decide (0 < n) && (decide (xs.length ≤ m) && bndAll (n - 1) m xs)) = true := h
    rw [Bool.and_eq_true, Bool.and_eq_true] at z
    have z2 := of_decide_eq_true z.2.1
    show (decide (xs.length ≤ 1000) && smallAll xs) = true
    rw [bnd_smalls z.2.2 h1, decide_eq_true (by omega)]
    rfl
  | n, m, .tuple xs, h, h1 => by
    have z : (decide (0 < n) && (decide (xs.length ≤ m) && bndAll (n - 1) m xs)) = true := h
    rw [Bool.and_eq_true, Bool.and_eq_true] at z
    have z2 := of_decide_eq_true z.2.1
    show (decide (xs.length ≤ 1000) && smallAll xs) = true
    rw [bnd_smalls z.2.2 h1, decide_eq_true (by omega)]
    rfl
  | _, _, .none, _, _ => rfl
  | _, _, .bool _, _, _ => rfl
  | _, _, .int _, _, _ => rfl
  | _, _, .str _, _, _ => rfl
  | _, _, .dict _, h, _ => Bool.noConfusion h
theorem bnd_smalls : ∀ {n m : Nat} {ds : List PyData}, bndAll n m ds = true → m ≤ 1000 → smallAll ds = true
  | _, _, [], _, _ => rfl
  | n, m, d :: ds, h, h1 => by
    have z : (bndD n m d && bndAll n m ds) = true := h
    rw [Bool.and_eq_true] at z
    show (smallD d && smallAll ds) = true
    rw [bnd_small z.1 h1, bnd_smalls z.2 h1]
    rfl
end
mutual
theorem bnd_depth : ∀ {n m : Nat} {d : PyData}, bndD n m d = true → d.depth ≤ n
  | n, m, .list xs, h => by
    have z : (decide (0 < n) && (decide (xs.length ≤ m) && bndAll (n - 1) m xs)) = true := h
    rw [Bool.and_eq_true, Bool.and_eq_true] at z
    have z1 := of_decide_eq_true z.1
    have z2 := bnd_depths z.2.2
    show PyData.depthAll xs + 1 ≤ n
    omega
  | n, m, .tuple xs, h => by
    have z : (decide (0 < n) && (decide (xs.length ≤ m) && bndAll (n - 1) m xs)) = true := h
    rw [Bool.and_eq_true, Bool.and_eq_true] at z
    have z1 := of_decide_eq_true z.1
    have z2 := bnd_depths z.2.2
    show PyData.depthAll xs + 1 ≤ n
    omega
  | _, _, .none, _ => Nat.zero_le _
  | _, _, .bool _, _ => Nat.zero_le _
  | _, _, .int _, _ => Nat.zero_le _
  | _, _, .str _, _ => Nat.zero_le _
  | _, _, .dict _, h => Bool.noConfusion h
theorem bnd_depths : ∀ {n m : Nat} {ds : List PyData}, bndAll n m ds = true → PyData.depthAll ds ≤ n
  | _, _, [], _ => Nat.zero_le _
  | n, m, d :: ds, h => by
    have z : (bndD n m d && bndAll n m ds) = true := h
    rw [Bool.and_eq_true] at z
    have z1 := bnd_depth z.1
    have z2 := bnd_depths z.2
    show max d.depth (PyData.depthAll ds) ≤ n
    omega
end
mutual
theorem bnd_can : ∀ {n m : Nat} {d : PyData}, bndD n m d = true → d.canLay0 = true
  | n, m, .list xs, h => by
    have z : (decide (0 < n) && (decide (xs.length ≤ m) && bndAll (n - 1) m xs)) = true := h
    rw [Bool.and_eq_true, Bool.and_eq_true] at z
    exact bnd_cans z.2.2
  | n, m, .tuple xs, h => by
    have z : (decide (0 < n) && (decide (xs.length ≤ m) && bndAll (n - 1) m xs)) = true := h
    rw [Bool.and_eq_true, Bool.and_eq_true] at z
    exact bnd_cans z.2.2
  | _, _, .none, _ => rfl
  | _, _, .bool _, _ => rfl
  | _, _, .int _, _ => rfl
  | _, _, .str _, h => h
  | _, _, .dict _, h => Bool.noConfusion h
theorem bnd_cans : ∀ {n m : Nat} {ds : List PyData}, bndAll n m ds = true → PyData.canLayAll0 ds = true
  | _, _, [], _ => rfl
  | n, m, d :: ds, h => by
    have z : (bndD n m d && bndAll n m ds) = true := h
    rw [Bool.and_eq_true] at z
    show (PyData.canLay0 d && PyData.canLayAll0 ds) = true
    rw [bnd_can z.1, bnd_cans z.2]
    rfl
end
theorem bnd_shaped {n m : Nat} {d : PyData} (h : bndD n m d = true) (h1 : n ≤ 64) : SeqAt.shaped d = true := by
  have h2 := bnd_depth h
  unfold SeqAt.shaped
  rw [bnd_can h, Bool.true_and]
  exact decide_eq_true (by omega)
/-- numbers of a range -/
def isNum (x : V) (l m : Int) : Bool := match x with | .int i => decide (l ≤ i) && decide (i ≤ m) | _ => false
def NumN (x : V) : Prop := (∃ i, x = .int i) ∨ x = .non
theorem isNum_int {x : V} {l m : Int} (h : NumN x) (e : isNum x l m = true) : ∃ i, x = .int i ∧ l ≤ i ∧ i ≤ m := by
  rcases h with ⟨i, rfl⟩ | rfl
  · have e2 : (decide (l ≤ i) && decide (i ≤ m)) = true := e
    rw [Bool.and_eq_true] at e2
    exact ⟨i, rfl, of_decide_eq_true e2.1, of_decide_eq_true e2.2⟩
  · exact absurd (show false = true from e) (by decide)
theorem get_lt {α : Type} {xs : List α} {i : Nat} (h : i < xs.length) : ∃ v, xs[i]? = some v := ⟨xs[i], List.getElem?_eq_getElem h⟩
theorem at_pos {xs : List V} {i : Int} {v : V} (h : 0 ≤ i) (hv : xs[i.toNat]? = some v) : atI xs i = some v := by
  have e : i = ((i.toNat : Nat) : Int) := by omega
  rw [e]
  exact atI_nat hv
theorem bne_t {b : Bool} (h : ¬ b = true) : b = false := by
  cases b
  · rfl
  · exact absurd rfl h
/-- the bag of a law -/
def Bag (H : Hp) (a l : Addr) : Prop := ∃ (ns : List Int) (i g m c : Int),
  H a = some (.lst [.ref l, .int i, .int g, .int m, .int c]) ∧ H l = some (.lst (ns.map V.int)) ∧ l ≠ a ∧
  0 ≤ i ∧ 0 ≤ g ∧ 0 ≤ m ∧ m < 2147483648 ∧ 0 ≤ c

theorem bag_new {H : Hp} {a l p : Addr} {o : HO} (h : Bag H a l) (hp : H p = none) : Bag (L2.upd H p o) a l := by
  obtain ⟨ns, i, g, m, c, hB, hl, r⟩ := h
  exact ⟨ns, i, g, m, c, h_ne (ne_of_none hB hp) hB, h_ne (ne_of_none hl hp) hl, r⟩
theorem bag_sm {H H' : Hp} {a l : Addr} (h : Bag H a l) (s : Same H H') : Bag H' a l := by
  obtain ⟨ns, i, g, m, c, hB, hl, r⟩ := h
  exact ⟨ns, i, g, m, c, s _ _ hB, s _ _ hl, r⟩
theorem bag_chg {H : Hp} {a l D : Addr} {o : HO} (h : Bag H a l) (h1 : D ≠ a) (h2 : D ≠ l) : Bag (L2.upd H D o) a l := by
  obtain ⟨ns, i, g, m, c, hB, hl, r⟩ := h
  exact ⟨ns, i, g, m, c, h_ne (Ne.symm h1) hB, h_ne (Ne.symm h2) hl, r⟩
theorem bag_apart {H : Hp} {a l D : Addr} (h : Bag H a l) (hD : H D = none) : D ≠ a ∧ D ≠ l := by
  obtain ⟨ns, i, g, m, c, hB, hl, r⟩ := h
  exact ⟨Ne.symm (ne_of_none hB hD), Ne.symm (ne_of_none hl hD)⟩
theorem ne_bag {H : Hp} {a l p : Addr} (h : Bag H a l) (hp : H p = none) : p ≠ a := by
  obtain ⟨ns, i, g, m, c, hB, _⟩ := h
  exact Ne.symm (ne_of_none hB hp)

/-! steps that write in S alone and lose nothing -/
structure Go (S : Addr → Prop) (H H' : Hp) : Prop where
  st : ChgS S H H'
  al : ∀ b, H b ≠ none → H' b ≠ none
theorem Go.refl {S : Addr → Prop} {H : Hp} : Go S H H := ⟨ChgS.refl, fun _ h => h⟩
theorem Go.trans {S : Addr → Prop} {H H1 H2 : Hp} (x : Go S H H1) (y : Go S H1 H2) : Go S H H2 := ⟨x.st.trans y.st, fun b h => y.al b (x.al b h)⟩
theorem al_sm {H H' : Hp} (s : Same H H') (b : Addr) (h : H b ≠ none) : H' b ≠ none := fun z => by
  cases e : H b with
  | none => exact h e
  | some o => rw [s b o e] at z; cases z
theorem Go.sm {S : Addr → Prop} {H H' : Hp} (s : Same H H') : Go S H H' := ⟨fun b o _ e => s b o e, al_sm s⟩
theorem Go.put {S : Addr → Prop} {H : Hp} {D : Addr} {o : HO} (s : S D) : Go S H (upd H D o) := by
  refine ⟨fun b u n e => by rw [upd_ne (fun z => n (by rw [z]; exact s))]; exact e, fun b h => ?_⟩
  by_cases z : b = D
  · rw [z, upd_same]; exact fun z => by cases z
  · rw [upd_ne z]; exact h
theorem Go.new {S : Addr → Prop} {H : Hp} {p : Addr} {o : HO} (hp : H p = none) : Go S H (upd H p o) := Go.sm (same_new hp)
theorem Go.bag {S : Addr → Prop} {H H' : Hp} {a l : Addr} (c : Chg a H H') (B : Bag H' a l) (s : S a) : Go S H H' := by
  refine ⟨toS c s, fun b h z => ?_⟩
  by_cases e : b = a
  · obtain ⟨_, _, _, _, _, e1, _⟩ := B
    rw [e, e1] at z
    cases z
  · cases hh : H b with
    | none => exact h hh
    | some o => rw [c b o e hh] at z; cases z
theorem Al.go {S : Addr → Prop} {H H' : Hp} (h : Al S H) (g : Go S H H') : Al S H' := fun s hs => g.al s (h s hs)
theorem Al.sm {S : Addr → Prop} {H H' : Hp} (h : Al S H) (g : Same H H') : Al S H' := fun s hs => al_sm g s (h s hs)
theorem Al.bag {S : Addr → Prop} {H H' : Hp} {a l : Addr} (h : Al S H) (c : Chg a H H') (B : Bag H' a l) (sa : S a) : Al S H' := h.go (Go.bag c B sa)
theorem Dq.go {S : Addr → Prop} {H H' : Hp} (g : Go S H H') {x : V} {d : PyData} (h : Dq K S H x d) : Dq K S H' x d := h.chg g.st
theorem Dq.sm {S : Addr → Prop} {H H' : Hp} (g : Same H H') {x : V} {d : PyData} (h : Dq K S H x d) : Dq K S H' x d := h.chg fun b o _ e => g b o e
theorem DqAll.sm {S : Addr → Prop} {H H' : Hp} (g : Same H H') {x : List V} {d : List PyData} (h : DqAll K S H x d) : DqAll K S H' x d := h.chg fun b o _ e => g b o e
theorem DqAll.go {S : Addr → Prop} {H H' : Hp} (g : Go S H H') {x : List V} {d : List PyData} (h : DqAll K S H x d) : DqAll K S H' x d := h.chg g.st
def SD (S : Addr → Prop) (D : Addr) : Addr → Prop := fun b => S b ∨ b = D
theorem al_sd {S : Addr → Prop} {D : Addr} {H : Hp} (h : Al S H) (hD : H D ≠ none) : Al (SD S D) H := fun b hb => by
  rcases hb with hb | hb
  · exact h b hb
  · rw [hb]; exact hD
theorem chg_in {S : Addr → Prop} {D : Addr} {H H' : Hp} (hD : H D = none) (c : ∀ b o, ¬ S b → b ≠ D → H b = some o → H' b = some o) : ∀ H2, ChgS (SD S D) H' H2 → ChgS S H H2 := fun H2 c2 b o n e => by
  have nb : b ≠ D := ne_of_none e hD
  exact c2 b o (fun z => z.elim n nb) (c b o n nb e)
theorem Dq.in {S : Addr → Prop} {D : Addr} {H H' : Hp} (hD : H D = none) (c : ∀ b o, ¬ S b → b ≠ D → H b = some o → H' b = some o) {x : V} {d : PyData} (h : Dq K S H x d) : Dq K (SD S D) H' x d := h.tr (chg_in hD c)
theorem DqAll.in {S : Addr → Prop} {D : Addr} {H H' : Hp} (hD : H D = none) (c : ∀ b o, ¬ S b → b ≠ D → H b = some o → H' b = some o) {x : List V} {d : List PyData} (h : DqAll K S H x d) : DqAll K (SD S D) H' x d := h.tr (chg_in hD c)
theorem Dq.out {S : Addr → Prop} {D : Addr} {H : Hp} {x : V} {d : PyData} (h : Dq K (SD S D) H x d) : Dq K S H x d := h.tr fun H2 c2 b o n e => c2 b o (fun z => n (.inl z)) e
theorem DqAll.out {S : Addr → Prop} {D : Addr} {H : Hp} {x : List V} {d : List PyData} (h : DqAll K (SD S D) H x d) : DqAll K S H x d := h.tr fun H2 c2 b o n e => c2 b o (fun z => n (.inl z)) e
theorem Dq.list_inv {S : Addr → Prop} {H : Hp} {x : V} {ds : List PyData} (h : Dq K S H x (.list ds)) : ∃ b xs, x = .ref b ∧ H b = some (.lst xs) ∧ DqAll K S H xs ds ∧ ¬ S b := by
  cases h with
  | @lst b xs _ h hs =>
    refine ⟨b, xs, rfl, h H ChgS.refl, hs, fun sb => ?_⟩
    have e := h (upd H b (.lst (xs ++ [.non]))) (fun c o n e => by rw [upd_ne (fun z => n (by rw [z]; exact sb))]; exact e)
    rw [upd_same] at e
    have e2 : xs ++ [V.non] = xs := by
      injection e with e
      injection e
    have e3 := congrArg List.length e2
    rw [List.length_append] at e3
    simp at e3
theorem Dq.tup_inv {S : Addr → Prop} {H : Hp} {x : V} {ds : List PyData} (h : Dq K S H x (.tuple ds)) : ∃ b xs, x = .ref b ∧ SqT K H b xs ∧ DqAll K S H xs ds := by
  cases h with
  | tup h hs => exact ⟨_, _, rfl, h H ChgS.refl, hs⟩
theorem Dq.int_inv {S : Addr → Prop} {H : Hp} {x : V} {i : Int} (h : Dq K S H x (.int i)) : x = .int i := by cases h; rfl
theorem Dq.str_inv {S : Addr → Prop} {H : Hp} {x : V} {i : Str} (h : Dq K S H x (.str i)) : x = .str i := by cases h; rfl
theorem Dq.bl_inv {S : Addr → Prop} {H : Hp} {x : V} {i : Bool} (h : Dq K S H x (.bool i)) : x = .bl i := by cases h; rfl
theorem Dq.non_inv {S : Addr → Prop} {H : Hp} {x : V} (h : Dq K S H x .none) : x = .non := by cases h; rfl
theorem DqAll.get {S : Addr → Prop} {H : Hp} : ∀ {xs : List V} {ds : List PyData} {i : Nat} {d : PyData}, DqAll K S H xs ds → ds[i]? = some d → ∃ v, xs[i]? = some v ∧ Dq K S H v d
  | _, _, 0, _, .cons h _, e => ⟨_, rfl, by rw [← Option.some.inj e]; exact h⟩
  | _, _, n + 1, _, .cons _ hs, e => DqAll.get (i := n) hs e
theorem dqAll_ints {S : Addr → Prop} {H : Hp} : ∀ {ns : List Int} {xs : List V}, DqAll K S H xs (ns.map PyData.int) → xs = ns.map V.int
  | [], _, .nil => rfl
  | n :: ns, _, .cons h hs => by rw [h.int_inv, dqAll_ints hs]; rfl
theorem dqAll_bls {S : Addr → Prop} {H : Hp} : ∀ {ns : List Bool} {xs : List V}, DqAll K S H xs (ns.map PyData.bool) → xs = ns.map V.bl
  | [], _, .nil => rfl
  | n :: ns, _, .cons h hs => by rw [h.bl_inv, dqAll_bls hs]; rfl
theorem dqAll_strs {S : Addr → Prop} {H : Hp} : ∀ {ns : List Str} {xs : List V}, DqAll K S H xs (ns.map PyData.str) → xs = ns.map V.str
  | [], _, .nil => rfl
  | n :: ns, _, .cons h hs => by rw [h.str_inv, dqAll_strs hs]; rfl
theorem dq_ints {S : Addr → Prop} {H : Hp} : ∀ ns : List Int, DqAll K S H (ns.map V.int) (ns.map PyData.int)
  | [] => .nil
  | n :: ns => .cons (.int n) (dq_ints ns)
theorem dp_dq {S : Addr → Prop} {H : Hp} {x : V} {d : PyData} (h : Dq K S H x d) : Dp K H x d := h.dp
-- the turns of a comprehension
section
variable {S : Addr → Prop} {g : TG} {tt : TT} {te : TE} {vs : List Nat} {σ σ0 : L2.St} {H : Hp} {Q : VK}
/-- one turn of a comprehension that writes nothing: its item is told by o -/
def StepQ (K : PySem.W.Frag) (S : Addr → Prop) (H : Hp) (g : TG) (tt : TT) (te : TE) (vs : List Nat) (σ0 : L2.St) (x : V) (o : Option PyData) : Prop :=
  ∀ (D : Addr) (H' : Hp) (N : Hp → Prop), H D = none → Same H H' → Al (SD S D) H' → (∀ {z d}, Dq K S H z d → Dq K (SD S D) H' z d) →
    (∀ e, o = some e → ∀ y H3, Dq K (SD S D) H3 y e → Same H' H3 → TurnD D N y H3) → (o = none → ∀ H3, Same H' H3 → N H3) → Turn1 g tt te vs σ0 D x H' N
theorem fm_some (es : List PyData) : (es.map some).filterMap id = es := by
  induction es with
  | nil => rfl
  | cons e r ih => rw [List.map_cons, List.filterMap_cons_some (f := id) rfl, ih]
theorem coreQ {xs : List V} {os : List (Option PyData)} (al : Al S H) (hl : os.length ≤ 1000) (hx : xs.length = os.length)
    (step : ∀ (i : Nat) x o, xs[i]? = some x → os[i]? = some o → StepQ K S H g tt te vs σ0 x o)
    (done : ∀ p ys H', H p = none → H' p = some (.lst ys) → DqAll K S H' ys (os.filterMap id) → Same H H' → Q (.ref p) H') (D : Addr) (hD : H D = none) :
    ∃ Pv : Nat → Hp → Prop, Pv 0 (upd H D (.lst [])) ∧ (∀ i H', Pv i H' → Same H H') ∧ (∀ (i : Nat) x H', xs[i]? = some x → Pv i H' → Turn1 g tt te vs σ0 D x H' (Pv (i + 1))) ∧ ∀ H', Pv xs.length H' → Q (.ref D) H' := by
  refine ⟨fun i H' => ∃ ys, H' D = some (.lst ys) ∧ Same H H' ∧ DqAll K (SD S D) H' ys ((os.take i).filterMap id), ⟨[], upd_same, same_new hD, .nil⟩, fun i H' ⟨_, _, s, _⟩ => s, ?_, ?_⟩
  · rintro i x H' hx2 ⟨ys, e1, s, hy⟩
    have il : i < os.length := by have := (List.getElem?_eq_some_iff.mp hx2).1; omega
    have ho : os[i]? = some os[i] := List.getElem?_eq_getElem il
    have hal : Al (SD S D) H' := al_sd (al.sm s) (by rw [e1]; exact fun z => by cases z)
    have yl : ys.length ≤ 1000 := by
      rw [hy.len]
      refine Nat.le_trans (List.length_filterMap_le _ _) ?_
      rw [List.length_take]
      omega
    refine step i x _ hx2 ho D H' _ hD s hal (fun h => h.in hD fun b o _ _ e => s b o e) (fun e he y H3 hy3 s3 => ?_) (fun he H3 s3 => ?_)
    · refine g_turnD (s3 _ _ e1) yl ⟨ys ++ [y], upd_same, fun b u e' => by rw [upd_ne (ne_of_none e' hD)]; exact s3 _ _ (s _ _ e'), ?_⟩
      have c3 : ChgS (SD S D) H3 (upd H3 D (.lst (ys ++ [y]))) := fun b o n e' => by rw [upd_ne (fun z => n (.inr z))]; exact e'
      rw [List.take_add_one, ho, List.filterMap_append]
      refine ((hy.sm s3).chg c3).app ?_
      rw [he]
      exact .cons (hy3.chg c3) .nil
    · refine ⟨ys, s3 _ _ e1, s.trans s3, ?_⟩
      rw [List.take_add_one, ho, List.filterMap_append, he]
      show DqAll K (SD S D) H3 ys ((os.take i).filterMap id ++ [])
      rw [List.append_nil]
      exact hy.sm s3
  · rintro H' ⟨ys, e1, s, hy⟩
    rw [hx, List.take_length] at hy
    exact done D ys H' hD e1 hy.out s
theorem lcQL {a : Addr} {xs : List V} {os : List (Option PyData)} (c : SqL K H a xs) (al : Al S H) (hl : os.length ≤ 1000) (hx : xs.length = os.length) (hw : wipe σ vs = σ0)
    (step : ∀ (i : Nat) x o, xs[i]? = some x → os[i]? = some o → StepQ K S H g tt te vs σ0 x o)
    (done : ∀ p ys H', H p = none → H' p = some (.lst ys) → DqAll K S H' ys (os.filterMap id) → Same H H' → Q (.ref p) H') : LcG (Itl K a) g tt te vs σ Q H :=
  lcL (xs := xs) hw fun D hD => by
    obtain ⟨Pv, h0, hs, ht, hd⟩ := coreQ al hl hx step done D hD
    exact ⟨Pv, h0, fun i H' _ p => sqL_sm (hs i H' p) c, ht, hd⟩
theorem lcQT {a : Addr} {xs : List V} {os : List (Option PyData)} (c : SqT K H a xs) (al : Al S H) (hl : os.length ≤ 1000) (hx : xs.length = os.length) (hw : wipe σ vs = σ0)
    (step : ∀ (i : Nat) x o, xs[i]? = some x → os[i]? = some o → StepQ K S H g tt te vs σ0 x o)
    (done : ∀ p ys H', H p = none → H' p = some (.lst ys) → DqAll K S H' ys (os.filterMap id) → Same H H' → Q (.ref p) H') : LcG (Itt K a) g tt te vs σ Q H :=
  lcT (xs := xs) hw fun D hD => by
    obtain ⟨Pv, h0, hs, ht, hd⟩ := coreQ al hl hx step done D hD
    exact ⟨Pv, h0, fun i H' _ p => seqT_same (hs i H' p) c, ht, hd⟩
theorem lcQB {a : Addr} {xs : List V} {os : List (Option PyData)} (c : SqL K H a xs ∨ SqT K H a xs) (al : Al S H) (hl : os.length ≤ 1000) (hx : xs.length = os.length) (hw : wipe σ vs = σ0)
    (step : ∀ (i : Nat) x o, xs[i]? = some x → os[i]? = some o → StepQ K S H g tt te vs σ0 x o)
    (done : ∀ p ys H', H p = none → H' p = some (.lst ys) → DqAll K S H' ys (os.filterMap id) → Same H H' → Q (.ref p) H') : BR K (fun J H1 => LcG J g tt te vs σ Q H1) (.ref a) H :=
  g_bR c (fun c => lcQL c al hl hx hw step done) (fun c => lcQT c al hl hx hw step done)
theorem lcQR {lo : Int} {n : Nat} {os : List (Option PyData)} (al : Al S H) (hl : os.length ≤ 1000) (hx : n = os.length) (hw : wipe σ vs = σ0)
    (step : ∀ (i : Nat) o, os[i]? = some o → StepQ K S H g tt te vs σ0 (.int (lo + i)) o)
    (done : ∀ p ys H', H p = none → H' p = some (.lst ys) → DqAll K S H' ys (os.filterMap id) → Same H H' → Q (.ref p) H') : LcG (Itr lo n) g tt te vs σ Q H :=
  lcR hw fun D hD => by
    have it : ∀ i : Nat, i < n → ((List.range n).map fun i : Nat => V.int (lo + i))[i]? = some (.int (lo + i)) := fun i hi => by rw [List.getElem?_map, List.getElem?_range hi]; rfl
    obtain ⟨Pv, h0, hs, ht, hd⟩ := coreQ (xs := (List.range n).map fun i : Nat => V.int (lo + i)) al hl (by rw [List.length_map, List.length_range]; exact hx) (fun i x o hx2 ho => by
      have il : i < n := by have := (List.getElem?_eq_some_iff.mp ho).1; omega
      rw [it i il] at hx2
      rw [← Option.some.inj hx2]
      exact step i o ho) done D hD
    rw [List.length_map, List.length_range] at hd
    exact ⟨Pv, h0, fun i H' hi p => ht i _ H' (it i hi) p, hd⟩
/-- one turn of a comprehension that draws -/
def StepB (K : PySem.W.Frag) (S : Addr → Prop) (H : Hp) (a l : Addr) (g : TG) (tt : TT) (te : TE) (vs : List Nat) (σ0 : L2.St) (x : V) (R : PyData → Prop) : Prop :=
  ∀ (D : Addr) (H' : Hp) (N : Hp → Prop), H D = none → D ≠ a → D ≠ l → Bag H' a l → Al (SD S D) H' → SD S D a → (∀ b o, b ≠ a → H b = some o → H' b = some o) → (∀ {z d}, Dq K S H z d → Dq K (SD S D) H' z d) →
    (∀ e, R e → ∀ y H3, Dq K (SD S D) H3 y e → Bag H3 a l → Chg a H' H3 → TurnD D N y H3) → Turn1 g tt te vs σ0 D x H' N
theorem coreB {a l : Addr} {xs : List V} {R : Nat → PyData → Prop} (B : Bag H a l) (sa : S a) (al : Al S H) (hl : xs.length ≤ 1000)
    (step : ∀ (i : Nat) x, xs[i]? = some x → StepB K S H a l g tt te vs σ0 x (R i))
    (done : ∀ p ys es H', H p = none → H' p = some (.lst ys) → DqAll K S H' ys es → es.length = xs.length → (∀ (i : Nat) e, es[i]? = some e → R i e) → Bag H' a l → Chg a H H' → Q (.ref p) H') (D : Addr) (hD : H D = none) :
    ∃ Pv : Nat → Hp → Prop, Pv 0 (upd H D (.lst [])) ∧ (∀ i H', Pv i H' → Chg a H H') ∧ (∀ (i : Nat) x H', xs[i]? = some x → Pv i H' → Turn1 g tt te vs σ0 D x H' (Pv (i + 1))) ∧ ∀ H', Pv xs.length H' → Q (.ref D) H' := by
  obtain ⟨na, nl⟩ := bag_apart B hD
  refine ⟨fun i H' => ∃ ys es, H' D = some (.lst ys) ∧ Chg a H H' ∧ Bag H' a l ∧ DqAll K (SD S D) H' ys es ∧ es.length = i ∧ (∀ (j : Nat) e, es[j]? = some e → R j e), ⟨[], [], upd_same, Chg.new hD, bag_new B hD, .nil, rfl, fun j e h => by simp at h⟩, fun i H' ⟨_, _, _, s, _⟩ => s, ?_, ?_⟩
  · rintro i x H' hx2 ⟨ys, es, e1, c, B1, hy, le, hR⟩
    have il : i < xs.length := (List.getElem?_eq_some_iff.mp hx2).1
    have hal : Al (SD S D) H' := al_sd (al.bag c B1 sa) (by rw [e1]; exact fun z => by cases z)
    refine step i x hx2 D H' _ hD na nl B1 hal (.inl sa) c (fun h => h.in hD fun b o n _ e => c b o (fun z => n (z ▸ sa)) e) (fun e he y H3 hy3 B3 c3 => ?_)
    refine g_turnD (c3 _ _ na e1) (by rw [hy.len]; omega) ⟨ys ++ [y], es ++ [e], upd_same, fun b u n e' => by rw [upd_ne (ne_of_none e' hD)]; exact c3 _ _ n (c _ _ n e'), bag_chg B3 na nl, ?_, by rw [List.length_append, le]; rfl, ?_⟩
    · have c4 : ChgS (SD S D) H3 (upd H3 D (.lst (ys ++ [y]))) := fun b o n e' => by rw [upd_ne (fun z => n (.inr z))]; exact e'
      exact ((hy.chg (toS c3 (.inl sa))).chg c4).app (.cons (hy3.chg c4) .nil)
    · intro j e' h
      rcases Nat.lt_or_ge j es.length with hj | hj
      · rw [List.getElem?_append_left hj] at h
        exact hR j e' h
      · rw [List.getElem?_append_right hj] at h
        have j0 : j - es.length = 0 := by
          have := (List.getElem?_eq_some_iff.mp h).1
          simp at this
          omega
        rw [j0] at h
        have ej : j = i := by omega
        rw [ej, ← Option.some.inj h]
        exact he
  · rintro H' ⟨ys, es, e1, c, B1, hy, le, hR⟩
    exact done D ys es H' hD e1 hy.out le hR B1 c
theorem lcBR {a l : Addr} {lo : Int} {n : Nat} {R : Nat → PyData → Prop} (B : Bag H a l) (sa : S a) (al : Al S H) (hl : n ≤ 1000) (hw : wipe σ vs = σ0)
    (step : ∀ i : Nat, i < n → StepB K S H a l g tt te vs σ0 (.int (lo + i)) (R i))
    (done : ∀ p ys es H', H p = none → H' p = some (.lst ys) → DqAll K S H' ys es → es.length = n → (∀ (i : Nat) e, es[i]? = some e → R i e) → Bag H' a l → Chg a H H' → Q (.ref p) H') : LcG (Itr lo n) g tt te vs σ Q H :=
  lcR hw fun D hD => by
    have it : ∀ i : Nat, i < n → ((List.range n).map fun i : Nat => V.int (lo + i))[i]? = some (.int (lo + i)) := fun i hi => by rw [List.getElem?_map, List.getElem?_range hi]; rfl
    have ln : ((List.range n).map fun i : Nat => V.int (lo + i)).length = n := by rw [List.length_map, List.length_range]
    obtain ⟨Pv, h0, hs, ht, hd⟩ := coreB (xs := (List.range n).map fun i : Nat => V.int (lo + i)) B sa al (by rw [ln]; exact hl) (fun i x hx2 => by
      have il : i < n := by have := (List.getElem?_eq_some_iff.mp hx2).1; omega
      rw [it i il] at hx2
      rw [← Option.some.inj hx2]
      exact step i il) (fun p ys es H' h1 h2 h3 h4 => done p ys es H' h1 h2 h3 (by rw [ln] at h4; exact h4)) D hD
    rw [ln] at hd
    exact ⟨Pv, h0, fun i H' hi p => ht i _ H' (it i hi) p, hd⟩
theorem lcBL {a l b : Addr} {xs : List V} {R : Nat → PyData → Prop} (hb : H b = some (.lst xs)) (nb : b ≠ a) (B : Bag H a l) (sa : S a) (al : Al S H) (hl : xs.length ≤ 1000) (hw : wipe σ vs = σ0)
    (step : ∀ (i : Nat) x, xs[i]? = some x → StepB K S H a l g tt te vs σ0 x (R i))
    (done : ∀ p ys es H', H p = none → H' p = some (.lst ys) → DqAll K S H' ys es → es.length = xs.length → (∀ (i : Nat) e, es[i]? = some e → R i e) → Bag H' a l → Chg a H H' → Q (.ref p) H') : LcG (Itl K b) g tt te vs σ Q H :=
  lcL (xs := xs) hw fun D hD => by
    obtain ⟨Pv, h0, hs, ht, hd⟩ := coreB B sa al hl step done D hD
    exact ⟨Pv, h0, fun i H' _ p => .of (hs i H' p _ _ nb hb), ht, hd⟩
end
end
end Q
namespace Q
open PySem PySem.Spec L2
section
variable {K : PySem.W.Frag} {S : Addr → Prop} {g : TG} {tt : TT} {te : TE} {vs : List Nat} {σ σ0 : L2.St} {H : Hp} {Q : VK}
def isSeqD : PyData → Bool
  | .list _ => true
  | .tuple _ => true
  | _ => false
def itsD : PyData → List PyData
  | .list ds => ds
  | .tuple ds => ds
  | _ => []
theorem Dq.sq {x : V} {d : PyData} (h : Dq K S H x d) (s : isSeqD d = true) : ∃ b xs, x = .ref b ∧ (SqL K H b xs ∨ SqT K H b xs) ∧ DqAll K S H xs (itsD d) := by
  cases d with
  | list ds =>
    obtain ⟨b, xs, e, hb, hs, _⟩ := h.list_inv
    exact ⟨b, xs, e, .inl (.of hb), hs⟩
  | tuple ds =>
    obtain ⟨b, xs, e, hb, hs⟩ := h.tup_inv
    exact ⟨b, xs, e, .inr hb, hs⟩
  | _ => cases s
theorem small_its {d : PyData} (h : smallD d = true) : (itsD d).length ≤ 1000 ∧ ∀ e ∈ itsD d, smallD e = true := by
  cases d with
  | list ds =>
    have z : (decide (ds.length ≤ 1000) && smallAll ds) = true := h
    rw [Bool.and_eq_true] at z
    exact ⟨of_decide_eq_true z.1, fun e he => smallAll_mem z.2 he⟩
  | tuple ds =>
    have z : (decide (ds.length ≤ 1000) && smallAll ds) = true := h
    rw [Bool.and_eq_true] at z
    exact ⟨of_decide_eq_true z.1, fun e he => smallAll_mem z.2 he⟩
  | _ => exact ⟨Nat.zero_le _, fun e he => absurd he List.not_mem_nil⟩
theorem g_isSeq {x : V} {d : PyData} {tp : Addr} (h : Dp K H x d) (e : H tp = some (.tup [.ty "list", .ty "tuple"])) (q : Q (.bl (isSeqD d)) H) : rIsiT K [x, .ref tp] H Q := by
  cases h with
  | lst a _ => exact g_isiT2 e (tyL a) kb_list_list kb_list_tuple q
  | tup a _ => exact g_isiT2 e (tyT a) kb_tuple_list kb_tuple_tuple q
  | non => exact g_isiT2 e (.base .non) kb_NoneType_list kb_NoneType_tuple q
  | bl b => exact g_isiT2 e (.base (.bl b)) kb_bool_list kb_bool_tuple q
  | int i => exact g_isiT2 e (.base (.int i)) kb_int_list kb_int_tuple q
  | str z => exact g_isiT2 e (.base (.str z)) kb_str_list kb_str_tuple q
theorem lcFn {b : Addr} {xs : List V} {ds : List PyData} {f : PyData → PyData} (c : SqL K H b xs ∨ SqT K H b xs) (hda : DqAll K S H xs ds) (al : Al S H) (hl : ds.length ≤ 1000) (hw : wipe σ vs = σ0)
    (step : ∀ (i : Nat) x d D H' N, ds[i]? = some d → d ∈ ds → H D = none → Same H H' → Al (SD S D) H' → Dq K (SD S D) H' x d → (∀ {z d}, Dq K S H z d → Dq K (SD S D) H' z d) →
      (∀ y H3, Dq K (SD S D) H3 y (f d) → Same H' H3 → TurnD D N y H3) → Turn1 g tt te vs σ0 D x H' N)
    (done : ∀ P ys H', H P = none → H' P = some (.lst ys) → DqAll K S H' ys (ds.map f) → Same H H' → Q (.ref P) H') : BR K (fun J H1 => LcG J g tt te vs σ Q H1) (.ref b) H := by
  refine lcQB (S := S) (os := (ds.map f).map some) c al (by rw [List.length_map, List.length_map]; exact hl) (by rw [List.length_map, List.length_map]; exact hda.len) hw (fun i x o hx ho => ?_) (fun p ys H' h1 h2 h3 h4 => done p ys H' h1 h2 (by rwa [fm_some] at h3) h4)
  rw [List.getElem?_map, Option.map_eq_some_iff] at ho
  obtain ⟨e, he, rfl⟩ := ho
  rw [List.getElem?_map, Option.map_eq_some_iff] at he
  obtain ⟨d, hd, rfl⟩ := he
  obtain ⟨d', hd', hq⟩ := hda.at hx
  obtain rfl : d = d' := Option.some.inj (hd.symm.trans hd')
  intro D H' N hD s hal tr k1 _
  exact step i x d D H' N hd (List.mem_of_getElem? hd) hD s hal (tr hq) tr (fun y H3 h3 s3 => k1 _ rfl y H3 h3 s3)
theorem lcAll {b : Addr} {xs : List V} {ds : List PyData} {f : PyData → Bool} (c : SqL K H b xs ∨ SqT K H b xs) (hda : DqAll K S H xs ds) (al : Al S H) (hl : ds.length ≤ 1000) (hw : wipe σ vs = σ0)
    (step : ∀ (i : Nat) x d D H' N, ds[i]? = some d → d ∈ ds → H D = none → Same H H' → Al (SD S D) H' → Dq K (SD S D) H' x d → (∀ {z d}, Dq K S H z d → Dq K (SD S D) H' z d) →
      (∀ H3, Same H' H3 → TurnD D N (.bl (f d)) H3) → Turn1 g tt te vs σ0 D x H' N)
    (done : ∀ P H', H P = none → SqL K H' P ((ds.map f).map V.bl) → Same H H' → Q (.ref P) H') : BR K (fun J H1 => LcG J g tt te vs σ Q H1) (.ref b) H := by
  refine lcFn (f := fun d => .bool (f d)) c hda al hl hw (fun i x d D H' N hd hm hD s hal hq tr k => step i x d D H' N hd hm hD s hal hq tr fun H3 s3 => k _ H3 (.bl _) s3) (fun P ys H' h1 h2 h3 h4 => done P H' h1 ?_ h4)
  have e : ds.map (fun d => PyData.bool (f d)) = (ds.map f).map PyData.bool := by rw [List.map_map]; rfl
  rw [e] at h3
  rw [← dqAll_bls h3]
  exact .of h2
theorem g_lenQ {x : V} {d : PyData} (h : Dq K S H x d) (s : isSeqD d = true) (q : Q (.int (itsD d).length) H) : qLen K [x] H Q := by
  obtain ⟨b, xs, rfl, c, hs⟩ := h.sq s
  exact g_len c (by rw [hs.len]; exact q)
theorem g_ixQ {x : V} {d e : PyData} {i : Nat} (h : Dq K S H x d) (s : isSeqD d = true) (he : (itsD d)[i]? = some e) (q : ∀ v, Dq K S H v e → Q v H) : qIx K x (.int (i : Int)) H Q := by
  obtain ⟨b, xs, rfl, c, hs⟩ := h.sq s
  obtain ⟨v, hv, hd⟩ := hs.get he
  exact g_qix c (atI_nat hv) (q v hd)
theorem g_bRQ {x : V} {d : PyData} {R : It → Hp → Prop} (h : Dq K S H x d) (s : isSeqD d = true) (q : ∀ b xs, x = .ref b → (SqL K H b xs ∨ SqT K H b xs) → DqAll K S H xs (itsD d) → BR K R (.ref b) H) : BR K R x H := by
  obtain ⟨b, xs, rfl, c, hs⟩ := h.sq s
  exact q b xs rfl c hs
end
end Q
namespace Q
open PySem PySem.Spec L2
def MakR (C : Addr) (sp : Sp) (E : XK) (Q : VK) (vs : List V) (H1 : Hp) : Prop := ∀ x dx, H1 x = none → H1 dx = none → dx ≠ x →
  sp (.ref x :: vs) (upd (upd H1 dx (.own x)) x (.ins C dx [])) (fun v H2 => v = .non ∧ Q (.ref x) H2) E
theorem g_make {C : Addr} {sp : Sp} {E : XK} {t : TA} {σ : L2.St} {H : Hp} {Q : VK} (h : t σ H (MakR C sp E Q)) : tMake C sp [] E t σ H Q := by
  show t σ H fun vs H1 => ∀ x dx, H1 x = none → H1 dx = none → dx ≠ x → sp (.ref x :: (vs ++ [])) (upd (upd H1 dx (.own x)) x (.ins C dx [])) (fun v H2 => v = .non ∧ Q (.ref x) H2) E
  simp only [List.append_nil]
  exact h
instance st_g_make {C : Addr} {sp : Sp} {E : XK} {t : TA} {σ : L2.St} {H : Hp} {Q : VK} : Step (tMake C sp [] E t σ H Q) (t σ H (MakR C sp E Q)) := ⟨fun z => g_make z⟩
theorem same_own {H : Hp} {x dx : Addr} {o u : HO} (hx : H x = none) (hd : H dx = none) (n : dx ≠ x) : Same H (upd (upd H dx o) x u) := (same_new hd).trans (same_new (by rw [upd_ne (Ne.symm n)]; exact hx))
end Q
namespace Q
open PySem PySem.Spec L2
section
variable {K : PySem.W.Frag} {S : Addr → Prop} {g : TG} {tt : TT} {te : TE} {vs : List Nat} {σ σ0 : L2.St} {H : Hp} {Q : VK}
theorem lcTy {α : Type} {b : Addr} {xs : List V} {ts : List α} {enc f : α → PyData} (c : SqL K H b xs ∨ SqT K H b xs) (hda : DqAll K S H xs (ts.map enc)) (al : Al S H) (hl : ts.length ≤ 1000) (hw : wipe σ vs = σ0)
    (step : ∀ (i : Nat) x t D H' N, ts[i]? = some t → t ∈ ts → H D = none → Same H H' → Al (SD S D) H' → Dq K (SD S D) H' x (enc t) → (∀ {z d}, Dq K S H z d → Dq K (SD S D) H' z d) →
      (∀ y H3, Dq K (SD S D) H3 y (f t) → Same H' H3 → TurnD D N y H3) → Turn1 g tt te vs σ0 D x H' N)
    (done : ∀ P ys H', H P = none → H' P = some (.lst ys) → DqAll K S H' ys (ts.map f) → Same H H' → Q (.ref P) H') : BR K (fun J H1 => LcG J g tt te vs σ Q H1) (.ref b) H := by
  have len := hda.len
  rw [List.length_map] at len
  refine lcQB (S := S) (os := (ts.map f).map some) c al (by rw [List.length_map, List.length_map]; exact hl) (by rw [List.length_map, List.length_map]; exact len) hw (fun i x o hx ho => ?_) (fun p ys H' h1 h2 h3 h4 => done p ys H' h1 h2 (by rwa [fm_some] at h3) h4)
  rw [List.getElem?_map, Option.map_eq_some_iff] at ho
  obtain ⟨e, he, rfl⟩ := ho
  rw [List.getElem?_map, Option.map_eq_some_iff] at he
  obtain ⟨t, ht, rfl⟩ := he
  obtain ⟨d', hd', hq⟩ := hda.at hx
  rw [List.getElem?_map, ht] at hd'
  obtain rfl := Option.some.inj hd'
  intro D H' N hD s hal tr k1 _
  exact step i x t D H' N ht (List.mem_of_getElem? ht) hD s hal (tr hq) tr (fun y H3 h3 s3 => k1 _ rfl y H3 h3 s3)
theorem lcTyI {α : Type} {b : Addr} {xs : List V} {ts : List α} {enc : α → PyData} {f : α → Int} (c : SqL K H b xs ∨ SqT K H b xs) (hda : DqAll K S H xs (ts.map enc)) (al : Al S H) (hl : ts.length ≤ 1000) (hw : wipe σ vs = σ0)
    (step : ∀ (i : Nat) x t D H' N, ts[i]? = some t → t ∈ ts → H D = none → Same H H' → Al (SD S D) H' → Dq K (SD S D) H' x (enc t) → (∀ {z d}, Dq K S H z d → Dq K (SD S D) H' z d) →
      (∀ H3, Same H' H3 → TurnD D N (.int (f t)) H3) → Turn1 g tt te vs σ0 D x H' N)
    (done : ∀ P H', H P = none → H' P = some (.lst ((ts.map f).map V.int)) → Same H H' → Q (.ref P) H') : BR K (fun J H1 => LcG J g tt te vs σ Q H1) (.ref b) H := by
  refine lcTy (f := fun t => .int (f t)) c hda al hl hw (fun i x t D H' N ht hm hD s hal hq tr k => step i x t D H' N ht hm hD s hal hq tr fun H3 s3 => k _ H3 (.int _) s3) (fun P ys H' h1 h2 h3 h4 => done P H' h1 ?_ h4)
  have e : ts.map (fun t => PyData.int (f t)) = (ts.map f).map PyData.int := by rw [List.map_map]; rfl
  rw [e] at h3
  rw [← dqAll_ints h3]
  exact h2
/-- places of the wanted numbers of a list -/
def pickI (ns : List Int) (p : Int → Bool) (i : Nat) : List Int := ((List.range i).filter fun j => p (ns.getD j 0)).map fun (j : Nat) => (j : Int)
theorem pick_succ (ns : List Int) (p : Int → Bool) {i : Nat} {n : Int} (h : ns[i]? = some n) : pickI ns p (i + 1) = pickI ns p i ++ (if p n = true then [(i : Int)] else []) := by
  unfold pickI
  rw [List.range_succ, List.filter_append, List.map_append]
  congr 1
  have e : ns.getD i 0 = n := by rw [List.getD_eq_getElem?_getD, h]; rfl
  rw [List.filter_cons, e]
  split <;> rfl
theorem pick_len (ns : List Int) (p : Int → Bool) (i : Nat) : (pickI ns p i).length ≤ i := by
  unfold pickI
  rw [List.length_map]
  exact Nat.le_trans (List.length_filter_le _ _) (by rw [List.length_range]; exact Nat.le_refl _)
theorem pick_mem {ns : List Int} {p : Int → Bool} {i : Nat} {k : Int} : k ∈ pickI ns p i ↔ ∃ j : Nat, j < i ∧ p (ns.getD j 0) = true ∧ k = (j : Int) := by
  unfold pickI
  rw [List.mem_map]
  constructor
  · rintro ⟨j, hj, rfl⟩
    rw [List.mem_filter, List.mem_range] at hj
    exact ⟨j, hj.1, hj.2, rfl⟩
  · rintro ⟨j, h1, h2, rfl⟩
    exact ⟨j, by rw [List.mem_filter, List.mem_range]; exact ⟨h1, h2⟩, rfl⟩
theorem lcPickE {b : Addr} {ns : List Int} {p : Int → Bool} (c : SqL K H b (ns.map V.int)) (hl : ns.length ≤ 1000) (hw : wipe σ vs = σ0)
    (step : ∀ (i : Nat) n D T H' N, ns[i]? = some n → Same H H' → H' T = some (.tup [.int (i : Nat), .int n]) → (p n = true → ∀ H3, Same H' H3 → TurnD D N (.int (i : Nat)) H3) → (p n = false → N H') → Turn1 g tt te vs σ0 D (.ref T) H' N)
    (done : ∀ P H', H P = none → H' P = some (.lst ((pickI ns p ns.length).map V.int)) → Same H H' → Q (.ref P) H') : LcG (Ite K b) g tt te vs σ Q H := by
  refine lcE (xs := ns.map V.int) hw fun D hD => ⟨fun i H' => H' D = some (.lst ((pickI ns p i).map V.int)) ∧ Same H H', ⟨upd_same, same_new hD⟩, ?_, ?_, ?_⟩
  · rintro i H' _ ⟨_, s⟩
    exact sqL_sm s c
  · rintro i x T H' hx ⟨e1, s⟩ hT
    rw [List.getElem?_map, Option.map_eq_some_iff] at hx
    obtain ⟨n, hn, rfl⟩ := hx
    have nT : D ≠ T := ne_of_none e1 hT
    have il : i < ns.length := (List.getElem?_eq_some_iff.mp hn).1
    have s2 : Same H (upd H' T (.tup [V.int (i : Nat), V.int n])) := s.trans (same_new hT)
    have e2 : upd H' T (.tup [V.int (i : Nat), V.int n]) D = some (.lst ((pickI ns p i).map V.int)) := by rw [upd_ne nT]; exact e1
    refine step i n D T _ _ hn s2 upd_same (fun hp H3 s3 => ?_) (fun hp => ?_)
    · have pl := pick_len ns p i
      refine g_turnD (s3 _ _ e2) (by rw [List.length_map]; omega) ⟨?_, fun b u e' => by rw [upd_ne (ne_of_none e' hD)]; exact s3 _ _ (s2 _ _ e')⟩
      rw [upd_same, pick_succ ns p hn, if_pos hp, List.map_append]
      rfl
    · refine ⟨?_, s2⟩
      rw [pick_succ ns p hn, hp, if_neg Bool.false_ne_true, List.append_nil]
      exact e2
  · rintro H' ⟨e1, s⟩
    rw [List.length_map] at e1
    exact done D H' hD e1 s
end
end Q
namespace Q
open PySem PySem.Spec L2
section
variable {K : PySem.W.Frag} {g : TG} {tb : TS} {D0 : Ends} {σ : L2.St} {H : Hp} {a : Addr}
/-- for (i, x) in enumerate(tuple) -/
theorem forEQT {xs : List V} (h : ∃ Pv : Nat → L2.St → Hp → Prop, Pv 0 σ H ∧ (∀ i σ' H', i ≤ xs.length → Pv i σ' H' → SqT K H' a xs) ∧
    (∀ (i : Nat) (x : V) (T : Addr) (σ' : L2.St) (H' : Hp), xs[i]? = some x → Pv i σ' H' → H' T = none → g (.ref T) σ' (upd H' T (.tup [.int (i : Nat), x])) fun σ2 H2 => tb { D0 with nx := Pv (i + 1), ct := Pv (i + 1), bk := D0.nx } σ2 H2) ∧
    ∀ σ' H', Pv xs.length σ' H' → D0.nx σ' H') : ForG (Iet K a) g tb D0 σ H := by
  obtain ⟨Pv, h0, hl, hs, hd⟩ := h
  refine ⟨fun i m σ H => m = xs.length - i ∧ i ≤ xs.length ∧ Pv i σ H, ⟨xs.length, by simp, Nat.zero_le _, h0⟩, ?_⟩
  rintro i m σ H ⟨rfl, hi, p⟩
  have q := hl i σ H hi p
  rcases Nat.lt_or_ge i xs.length with hlt | hge
  · exact .inr ⟨⟨xs, xs[i], q, by simp [hlt]⟩, Pv (i + 1), fun σ' H' p' => ⟨xs.length - (i + 1), by omega, rfl, hlt, p'⟩, fun v H' ⟨T, x, e1, e2, e3, e4⟩ => by subst e1 e3; exact hs i x T σ _ (e4 xs q) p e2⟩
  · have e : i = xs.length := by omega
    subst e
    exact .inl ⟨⟨xs, q, Nat.le_refl _⟩, hd σ H p⟩
/-- for (i, x) in enumerate(list) -/
theorem forEQL {g : TG} {tb : TS} {D0 : Ends} {σ : L2.St} {H : Hp} {a : Addr} {xs : List V} (h : ∃ Pv : Nat → L2.St → Hp → Prop, Pv 0 σ H ∧ (∀ i σ' H', i ≤ xs.length → Pv i σ' H' → SqL K H' a xs) ∧
    (∀ (i : Nat) (x : V) (T : Addr) (σ' : L2.St) (H' : Hp), xs[i]? = some x → Pv i σ' H' → H' T = none → g (.ref T) σ' (upd H' T (.tup [.int (i : Nat), x])) fun σ2 H2 => tb { D0 with nx := Pv (i + 1), ct := Pv (i + 1), bk := D0.nx } σ2 H2) ∧
    ∀ σ' H', Pv xs.length σ' H' → D0.nx σ' H') : ForG (Ite K a) g tb D0 σ H := by
  obtain ⟨Pv, h0, hl, hs, hd⟩ := h
  refine ⟨fun i m σ H => m = xs.length - i ∧ i ≤ xs.length ∧ Pv i σ H, ⟨xs.length, by simp, Nat.zero_le _, h0⟩, ?_⟩
  rintro i m σ H ⟨rfl, hi, p⟩
  have q := hl i σ H hi p
  rcases Nat.lt_or_ge i xs.length with hlt | hge
  · exact .inr ⟨⟨xs, xs[i], q, by simp [hlt]⟩, Pv (i + 1), fun σ' H' p' => ⟨xs.length - (i + 1), by omega, rfl, hlt, p'⟩, fun v H' ⟨T, x, e1, e2, e3, e4⟩ => by subst e1 e3; exact hs i x T σ _ (e4 xs q) p e2⟩
  · have e : i = xs.length := by omega
    subst e
    exact .inl ⟨⟨xs, q, Nat.le_refl _⟩, hd σ H p⟩
end
end Q
namespace Q
open PySem PySem.Spec L2
section
variable {K : PySem.W.Frag} {S : Addr → Prop} {H : Hp}
theorem Dq.tup_inv2 {x : V} {ds : List PyData} (h : Dq K S H x (.tuple ds)) : ∃ b xs, x = .ref b ∧ (∀ H', ChgS S H H' → SqT K H' b xs) ∧ DqAll K S H xs ds := by
  cases h with
  | tup h hs => exact ⟨_, _, rfl, h, hs⟩
theorem Dq.sq2 {x : V} {d : PyData} (h : Dq K S H x d) (s : isSeqD d = true) : ∃ b xs, x = .ref b ∧ (∀ H', ChgS S H H' → SqL K H' b xs ∨ SqT K H' b xs) ∧ DqAll K S H xs (itsD d) := by
  cases h with
  | lst h hs => exact ⟨_, _, rfl, fun H' c => .inl (.of (h H' c)), hs⟩
  | tup h hs => exact ⟨_, _, rfl, fun H' c => .inr (h H' c), hs⟩
  | _ => cases s
end
end Q
namespace Q
open PySem PySem.Spec L2
section
variable {K : PySem.W.Frag} {S : Addr → Prop} {g : TG} {tb : TS} {D0 : Ends} {σ : L2.St} {H : Hp}
/-- a list or a tuple that stays while S alone is written -/
def SqS (K : PySem.W.Frag) (S : Addr → Prop) (H : Hp) (b : Addr) (xs : List V) : Prop := (∀ H', ChgS S H H' → SqL K H' b xs) ∨ (∀ H', ChgS S H H' → SqT K H' b xs)
theorem Dq.sq3 {x : V} {d : PyData} (h : Dq K S H x d) (s : isSeqD d = true) : ∃ b xs, x = .ref b ∧ SqS K S H b xs ∧ DqAll K S H xs (itsD d) := by
  cases h with
  | lst h hs => exact ⟨_, _, rfl, .inl fun H' c => .of (h H' c), hs⟩
  | tup h hs => exact ⟨_, _, rfl, .inr h, hs⟩
  | _ => cases s
theorem forBQ {b : Addr} {xs : List V} (c : SqS K S H b xs) (h : ∃ Pv : Nat → L2.St → Hp → Prop, Pv 0 σ H ∧ (∀ i σ' H', Pv i σ' H' → ChgS S H H') ∧
    (∀ (i : Nat) x σ' H', xs[i]? = some x → Pv i σ' H' → g x σ' H' fun σ2 H2 => tb { D0 with nx := Pv (i + 1), ct := Pv (i + 1), bk := D0.nx } σ2 H2) ∧ ∀ σ' H', Pv xs.length σ' H' → D0.nx σ' H') : BR K (fun J H1 => ForG J g tb D0 σ H1) (.ref b) H := by
  obtain ⟨Pv, h0, hl, hs, hd⟩ := h
  rcases c with c | c
  · exact ⟨b, rfl, .inl ⟨⟨xs, c H ChgS.refl⟩, forL (xs := xs) ⟨Pv, h0, fun i σ' H' _ p => c H' (hl i σ' H' p), hs, hd⟩⟩⟩
  · exact ⟨b, rfl, .inr ⟨⟨xs, c H ChgS.refl⟩, forT (xs := xs) ⟨Pv, h0, fun i σ' H' _ p => c H' (hl i σ' H' p), hs, hd⟩⟩⟩
end
end Q
namespace Q
open PySem PySem.Spec L2
theorem k_bm {X : Cx} {K : PySem.W.Frag} {o e : Expr} {es : List Expr} {to : TE} {ta : TA} {nm : Str} {p1 p2 : Pos} {Ty i : String} {r : V → List V → Hp → VK → Prop} (ek : X.K = K) (h1 : PlainAttrs Ty) (h2 : Slot Ty nm i) (h3 : typeOf (.builtin i) = pure (.type "method_descriptor")) (h4 : MtM X i r) (h5 : PE X o to) (h6 : PA X (e :: es) ta)
    (h7 : attributeBase o nm X.env (eval o X.env) = eval o X.env := by rfl)
    (h8 : ((backTo p2 (starEach (e :: es) X.env)).all (fun z => !z.1) && (backToKw p2 (keywordEach [] X.env)).all (fun z => z.1.isSome) && decide ((e :: es).length + ([] : List Keyword).length + (if ([] : List Keyword).isEmpty then 0 else 1) < 30)) = true := by rfl)
    (h9 : (p1.endLine == p2.line) = true := by rfl) (h10 : starEach (e :: es) X.env = (false, eval e X.env) :: starEach es X.env := by rfl) (h11 : (backTo p2 (starEach es X.env)).any (·.1) = false := by rfl) :
    PE X (.Call (.Attribute o nm p1) (e :: es) [] p2) (tBM K Ty r to ta) := by
  subst ek
  exact pe_bm h1 h2 h3 h4 h5 h6 h7 h8 h9 h10 h11
theorem pick_permG {α : Type} : ∀ (xs : List α) (m : Nat) (h : m < xs.length), ([xs[m]] ++ xs.eraseIdx m).Perm xs
  | x :: t, 0, _ => .refl _
  | x :: t, m + 1, h => by
    have ih := pick_permG t m (by simpa using h)
    show ([t[m]'(by simpa using h)] ++ x :: t.eraseIdx m).Perm (x :: t)
    refine .trans (.swap x _ _) (.cons x ih)
theorem er_map {α β : Type} (g : α → β) : ∀ (xs : List α) (m : Nat), (xs.map g).eraseIdx m = (xs.eraseIdx m).map g
  | [], _ => rfl
  | _ :: _, 0 => rfl
  | x :: t, m + 1 => congrArg (g x :: ·) (er_map g t m)
theorem seqIx_nat {n m : Nat} (h : m < n) : seqIndex? (m : Int) n = some m := by
  unfold seqIndex?
  rw [if_neg (show ¬ (m : Int) < 0 by omega)]
  show (if (decide ((0 : Int) ≤ (m : Int)) && decide ((m : Int) < (n : Int))) = true then some (m : Int).toNat else none) = some m
  rw [decide_eq_true (by omega), decide_eq_true (by omega), Bool.true_and, if_pos rfl, Int.toNat_natCast]
/-- what each item is, for all together -/
theorem gather {α : Type} {enc : α → PyData} {R : α → Prop} : ∀ {es : List PyData}, (∀ (i : Nat) e, es[i]? = some e → ∃ t, e = enc t ∧ R t) → ∃ ts : List α, es = ts.map enc ∧ ∀ t ∈ ts, R t
  | [], _ => ⟨[], rfl, fun t h => absurd h List.not_mem_nil⟩
  | e :: es, h => by
    obtain ⟨t, rfl, ht⟩ := h 0 e rfl
    obtain ⟨ts, rfl, hts⟩ := gather (es := es) fun i e he => h (i + 1) e he
    exact ⟨t :: ts, rfl, fun u hu => (List.mem_cons.mp hu).elim (fun z => by rw [z]; exact ht) (hts u)⟩
theorem of_ints {x : V} {ns : List Int} {lo hi : Int} (h : x ∈ ns.map V.int) (hb : ∀ i ∈ ns, lo ≤ i ∧ i ≤ hi) : ∃ i : Int, x = .int i ∧ lo ≤ i ∧ i ≤ hi := by
  obtain ⟨i, hi, rfl⟩ := List.mem_map.mp h
  exact ⟨i, rfl, hb i hi⟩
end Q
namespace Q
open PySem PySem.Spec L2
theorem pe_cal0 {X : Cx} {x : Str} {k : Nat} {ps : List Str} {sp : Sp} {p pos : Pos} (C : Cal X.prog X.w X.K X.mg X.base x k ps sp) (hr : Room k X.A) (hg : Gl X x) (hd : (x == ("__debug__" : Str)) = false := by decide) :
    PE X (.Call (.Name x p) [] [] pos) (tCall sp [] E0 tNil) := by
  obtain ⟨f, fd, F, hm, hk, hb⟩ := C.ex
  exact pe_call0 F hr hg hm hk hb .nil pass0 hd
end Q
-- step instances

set_option Elab.async false
set_option linter.all false
set_option maxRecDepth 100000
set_option maxHeartbeats 4000000
namespace Q
open PySem PySem.Spec L2
local macro_rules | `(tactic| walk_at "n") => `(tactic| first
  | with_reducible assumption
  | exact Ne.symm (by with_reducible assumption)
  | ((refine' ne_of_none ?k1 (by with_reducible assumption)); (case k1 => walk_at "h"))
  | ((refine' Ne.symm (ne_of_none ?k1 (by with_reducible assumption))); (case k1 => walk_at "h")))
local macro_rules | `(tactic| walk_at "h") => `(tactic| first
  | with_reducible assumption
  | with_reducible exact upd_same
  | ((with_reducible refine' h_ne ?k1 ?k2); (case k1 => walk_at "n"); (case k2 => walk_at "h"))
  | ((with_reducible refine' h_sm (by with_reducible assumption) ?k1); (case k1 => walk_at "h"))
  | ((with_reducible refine' h_chg (by with_reducible assumption) ?k1 ?k2); (case k1 => walk_at "n"); (case k2 => walk_at "h")))
local macro_rules | `(tactic| walk_at "l") => `(tactic| first
  | with_reducible assumption
  | ((with_reducible refine' SqL.of ?k1); (case k1 => walk_at "h"))
  | ((with_reducible refine' sqL_new (by with_reducible assumption) ?k1); (case k1 => walk_at "l"))
  | ((with_reducible refine' sqL_sm (by with_reducible assumption) ?k1); (case k1 => walk_at "l")))
local macro_rules | `(tactic| walk_at "t") => `(tactic| first
  | with_reducible assumption
  | ((with_reducible refine' SqT.of ?k1); (case k1 => walk_at "h"))
  | ((with_reducible refine' sqT_new (by with_reducible assumption) ?k1); (case k1 => walk_at "t"))
  | ((with_reducible refine' seqT_same (by with_reducible assumption) ?k1); (case k1 => walk_at "t")))
local macro_rules | `(tactic| walk_at "lt") => `(tactic| first
  | with_reducible assumption
  | ((refine' Or.inl ?k1); (case k1 => walk_at "l"))
  | ((refine' Or.inr ?k1); (case k1 => walk_at "t")))
local macro_rules | `(tactic| walk_at "c") => `(tactic| first
  | exact trivial
  | with_reducible assumption
  | exact wide_div (b := 100) (by decide) (by decide) (by decide) (by decide)
  | decide
  | omega
  | (refine' Or.inr ⟨?_, ?_⟩ <;> first | decide | omega)
  | (refine' Or.inl ⟨?_, ?_⟩ <;> first | decide | omega)
  | (refine' And.intro ?_ (And.intro ?_ ?_) <;> first | decide | omega)
  | (refine' And.intro ?_ ?_ <;> first | decide | omega))
local macro_rules | `(tactic| walk_at "ty") => `(tactic| first
  | exact .base (.int _)
  | exact .base (.str _)
  | exact .base (.bl _)
  | exact .base .non
  | ((with_reducible refine' tyL ?k1); (case k1 => walk_at "l"))
  | ((with_reducible refine' tyT ?k1); (case k1 => walk_at "t")))
local macro_rules | `(tactic| walk_at "kb") => `(tactic| exact KbC.h)
local macro_rules | `(tactic| walk_at "s") => `(tactic| first
  | ((with_reducible refine' g_rI ?_ ?_); (· walk_at "c"))
  | ((with_reducible refine' g_ixL0 ?k1 ?_); (case k1 => walk_at "l"))
  | ((with_reducible refine' g_setL0 ?k1 ?_); (case k1 => walk_at "h"))
  | ((with_reducible refine' g_ixL1 ?k1 ?_); (case k1 => walk_at "l"))
  | ((with_reducible refine' g_setL1 ?k1 ?_); (case k1 => walk_at "h"))
  | ((with_reducible refine' g_ixL2 ?k1 ?_); (case k1 => walk_at "l"))
  | ((with_reducible refine' g_setL2 ?k1 ?_); (case k1 => walk_at "h"))
  | ((with_reducible refine' g_ixL3 ?k1 ?_); (case k1 => walk_at "l"))
  | ((with_reducible refine' g_setL3 ?k1 ?_); (case k1 => walk_at "h"))
  | ((with_reducible refine' g_ixL4 ?k1 ?_); (case k1 => walk_at "l"))
  | ((with_reducible refine' g_setL4 ?k1 ?_); (case k1 => walk_at "h"))
  | ((with_reducible refine' g_ixL5 ?k1 ?_); (case k1 => walk_at "l"))
  | ((with_reducible refine' g_setL5 ?k1 ?_); (case k1 => walk_at "h"))
  | ((with_reducible refine' g_ixL6 ?k1 ?_); (case k1 => walk_at "l"))
  | ((with_reducible refine' g_setL6 ?k1 ?_); (case k1 => walk_at "h"))
  | ((with_reducible refine' g_ixL7 ?k1 ?_); (case k1 => walk_at "l"))
  | ((with_reducible refine' g_setL7 ?k1 ?_); (case k1 => walk_at "h"))
  | ((with_reducible refine' g_ixL8 ?k1 ?_); (case k1 => walk_at "l"))
  | ((with_reducible refine' g_setL8 ?k1 ?_); (case k1 => walk_at "h"))
  | ((with_reducible refine' g_ixL9 ?k1 ?_); (case k1 => walk_at "l"))
  | ((with_reducible refine' g_setL9 ?k1 ?_); (case k1 => walk_at "h"))
  | ((with_reducible refine' g_ixL ?k1 ?k2 ?_); (case k1 => walk_at "l"); (case k2 => walk_at "a"))
  | ((with_reducible refine' g_setL ?k1 ?k2 ?_); (case k1 => walk_at "h"); (case k2 => rfl))
  | ((with_reducible refine' g_len ?k1 ?_); (case k1 => walk_at "lt"))
  | ((with_reducible refine' g_newL ?k1 ?_); (case k1 => (simp only [List.length_cons, List.length_nil, Nat.reduceAdd, Nat.reduceLeDiff])); intro p hp)
  | ((with_reducible refine' g_newT ?k1 ?_); (case k1 => (simp only [List.length_cons, List.length_nil, Nat.reduceAdd, Nat.reduceLeDiff])); intro p hp)
  | ((with_reducible refine' g_slL ?k1 ?_); (case k1 => walk_at "l"); intro p hp)
  | ((with_reducible refine' g_inI ?k1 ?_); (case k1 => walk_at "lt"))
  | ((with_reducible refine' g_notinI ?k1 ?_); (case k1 => walk_at "lt"))
  | ((with_reducible refine' g_cat ?k1 ?k2 ?k3 ?_); (case k1 => walk_at "h"); (case k2 => walk_at "h"); (case k3 => walk_at "len"); intro p hp)
  | ((with_reducible refine' g_list ?k1 ?_); (case k1 => walk_at "lt"); intro p hp)
  | ((with_reducible refine' g_tuple ?k1 ?_); (case k1 => walk_at "l"); intro p hp)
  | ((with_reducible refine' g_sum ?k1 ?_); (case k1 => walk_at "l"))
  | ((with_reducible refine' g_any ?k1 ?_); (case k1 => walk_at "l"))
  | ((with_reducible refine' g_all ?k1 ?_); (case k1 => walk_at "l"))
  | ((with_reducible refine' g_en1 ?k1 ?_); (case k1 => walk_at "l"))
  | ((with_reducible refine' g_gTup ?k1 ?k2 ?_); (case k1 => walk_at "t"); (case k2 => rfl))
  | ((with_reducible refine' g_qix0 ?k1 ?_); (case k1 => walk_at "lt"))
  | ((with_reducible refine' g_qix1 ?k1 ?_); (case k1 => walk_at "lt"))
  | ((with_reducible refine' g_qix2 ?k1 ?_); (case k1 => walk_at "lt"))
  | ((with_reducible refine' g_qix3 ?k1 ?_); (case k1 => walk_at "lt"))
  | ((with_reducible refine' g_qix4 ?k1 ?_); (case k1 => walk_at "lt"))
  | ((with_reducible refine' g_qix5 ?k1 ?_); (case k1 => walk_at "lt"))
  | ((with_reducible refine' g_qix6 ?k1 ?_); (case k1 => walk_at "lt"))
  | ((with_reducible refine' g_qix7 ?k1 ?_); (case k1 => walk_at "lt"))
  | ((with_reducible refine' g_qix8 ?k1 ?_); (case k1 => walk_at "lt"))
  | ((with_reducible refine' g_qix9 ?k1 ?_); (case k1 => walk_at "lt"))
  | ((with_reducible refine' g_qix ?k1 ?k2 ?_); (case k1 => walk_at "lt"); (case k2 => walk_at "a"))
  | ((with_reducible refine' g_turnB ?k1 ?_); (case k1 => rfl))
  | ((with_reducible refine' g_kArg ?k1 ?k2 ?k3 ?_); (case k1 => rfl); (case k2 => rfl); (case k3 => rfl))
  | ((with_reducible refine' g_bmL ?k1 ?_); (case k1 => walk_at "l"))
  | ((with_reducible refine' g_neDI ?k1 ?k2 ?_); (case k1 => walk_at "l"); (case k2 => walk_at "l"))
  | ((with_reducible refine' g_eqDI ?k1 ?k2 ?_); (case k1 => walk_at "l"); (case k2 => walk_at "l"))
  | ((with_reducible refine' g_rgNew ?_ ?_); (· (first | omega | (refine' And.intro ?_ (And.intro ?_ (And.intro ?_ ?_)) <;> omega))); intro p hp)
  | ((with_reducible refine' g_rng1 ?_ ?_); (· walk_at "c"))
  | ((with_reducible refine' g_rng2 ?_ ?_); (· walk_at "c"))
  | ((with_reducible refine' g_lstR ?k1 ?_); (case k1 => walk_at "l"))
  | ((with_reducible refine' g_tupR ?k1 ?_); (case k1 => walk_at "t"))
  | ((with_reducible refine' g_isi ?k1 ?k2 ?_); (case k1 => walk_at "ty"); (case k2 => walk_at "kb"))
  | ((with_reducible refine' g_isiT2 ?k1 ?k2 ?k3 ?k4 ?_); (case k1 => walk_at "h"); (case k2 => walk_at "ty"); (case k3 => walk_at "kb"); (case k4 => walk_at "kb"))
  | with_reducible refine' iteT ?_
  | with_reducible refine' iteF ?_
  | ((with_reducible refine' g_iteCT ?k1 ?_); (case k1 => decide))
  | ((with_reducible refine' g_iteCF ?k1 ?_); (case k1 => decide)))
local macro_rules | `(tactic| walk_at "s") => `(tactic| first
  | ((with_reducible refine' g_fldR ?k1 ?k2 ?k3 ?k4 ?_); (case k1 => walk_at "h"); (case k2 => (with_reducible assumption)); (case k3 => (with_reducible assumption)); (case k4 => rfl))
  | ((with_reducible refine' g_methR ?k1 ?k2 ?_); (case k1 => walk_at "h"); (case k2 => rfl))
  | ((with_reducible refine' g_sfldR ?k1 ?k2 ?k3 ?k4 ?_); (case k1 => walk_at "h"); (case k2 => (with_reducible assumption)); (case k3 => (with_reducible assumption)); (case k4 => first | decide | exact (by decide : 1 < 1000) | exact (by decide : 2 < 1000) | exact (by decide : 3 < 1000) | exact (by decide : 4 < 1000) | exact (by decide : 5 < 1000) | exact (by decide : 6 < 1000) | exact (by decide : 7 < 1000) | exact (by decide : 8 < 1000) | exact (by decide : 9 < 1000) | exact (by decide : 10 < 1000) | exact (by decide : 11 < 1000) | exact (by decide : 12 < 1000) | exact (by decide : 13 < 1000) | exact (by decide : 14 < 1000) | exact (by decide : 15 < 1000) | exact (by decide : 16 < 1000) | exact (by decide : 17 < 1000) | exact (by decide : 18 < 1000) | exact (by decide : 19 < 1000) | exact (by decide : 20 < 1000))))
local macro_rules | `(tactic| walk_at "a") => `(tactic| first
  | rfl
  | (with_reducible assumption))
local macro_rules | `(tactic| walk_at "go") => `(tactic| repeat (first | with_reducible refine' Step.imp ?_ | walk_at "s"))
local macro_rules | `(tactic| walk_at "chg") => `(tactic| first
  | with_reducible assumption
  | with_reducible exact Chg.refl
  | ((with_reducible refine' Chg.put ?_); walk_at "chg")
  | ((with_reducible refine' Chg.lay ?_ (by with_reducible assumption)); walk_at "chg")
  | ((with_reducible refine' Chg.putn ?_ (by with_reducible assumption)); walk_at "chg")
  | ((with_reducible refine' Chg.trans ?_ (sm_chg (by with_reducible assumption))); walk_at "chg")
  | ((with_reducible refine' Chg.trans ?_ (by with_reducible assumption)); walk_at "chg"))
local macro_rules | `(tactic| walk_at "len") => `(tactic| (first
  | omega
  | ((try simp only [List.length_map, List.length_cons, List.length_nil, List.length_append, List.length_range]); omega)))

section
variable {P : Program} {w : World} {K : PySem.W.Frag} {mg : Str → Option Value} {base : Heap}

abbrev FnP (K : PySem.W.Frag) (x : Str) (st : Stmt) (f : Addr) (fd : FuncData) : Prop := FunD K x x (defArgs st) (defBody st) (defScope st) [] [] f fd
/-! _law_like of equal data -/
def spLike (K : PySem.W.Frag) (n : Nat) : Sp := fun vs H Q _ => ∃ (x y : V) (d : PyData), vs = [x, y] ∧ Dp K H x d ∧ Dp K H y d ∧ d.depth ≤ n ∧ smallD d = true ∧ ∀ H', Same H H' → Q (.bl true) H'
theorem g_likeD {n : Nat} {x y : V} {d : PyData} {H : Hp} {Q : VK} {E : XK} (h1 : Dp K H x d) (h2 : Dp K H y d) (hd : d.depth ≤ n) (hs : smallD d = true) (q : ∀ H', Same H H' → Q (.bl true) H') : spLike K n [x, y] H Q E := ⟨x, y, d, rfl, h1, h2, hd, hs, q⟩
theorem ok_like {n : Nat} {f : Addr} {fd : FuncData} (T : Top K mg) (C__law_like : Cal P w K mg base "_law_like" (n + 1) P__law_like (spLike K n)) (F : FnP K "_law_like" s__law_like f fd) :
    FnOk P w K mg base CX0 (n + 2) f fd P__law_like (spLike K (n + 1)) := by
  refine F.ok sc__law_like (fun vs H Q E h => ?_) (fun cdv A outer s H vs Q E hr h => ?_)
  · obtain ⟨x, y, d, rfl, _⟩ := h
    rfl
  · obtain ⟨x, y, d, rfl, hx, hy, hd, hs, q⟩ := h
    refine ⟨_, PSs.nox (pss_cons (ps_if (pt_val (pe_callB (k_isiT (K := K) (by rfl)) (by rfl) T.z_isinstance (by decide +kernel) (pa_cons (pv 1) (pa_cons (pe_tup (pa_cons (pe_bltn (v := .ty "list") (u := .type "list") (by rfl) T.z_list (by decide +kernel) rfl) (pa_cons (pe_bltn (v := .ty "tuple") (u := .type "tuple") (by rfl) T.z_tuple (by decide +kernel) rfl) pa_nil))) pa_nil))))
    (pss_cons (ps_if (PW.pt (pw_or (pt_cmpR op_ne (pe_callB (k_isi (K := K) (by rfl)) (by rfl) T.z_isinstance (by decide +kernel) (pa_cons (pv 0) (pa_cons (pe_bltn (v := .ty "list") (u := .type "list") (by rfl) T.z_list (by decide +kernel) rfl) pa_nil))) (pe_callB (k_isi (K := K) (by rfl)) (by rfl) T.z_isinstance (by decide +kernel) (pa_cons (pv 1) (pa_cons (pe_bltn (v := .ty "list") (u := .type "list") (by rfl) T.z_list (by decide +kernel) rfl) pa_nil))) (nomark _)) (pw_or1 (pt_cmpR op_ne (pe_callB (k_isi (K := K) (by rfl)) (by rfl) T.z_isinstance (by decide +kernel) (pa_cons (pv 0) (pa_cons (pe_bltn (v := .ty "tuple") (u := .type "tuple") (by rfl) T.z_tuple (by decide +kernel) rfl) pa_nil))) (pe_callB (k_isi (K := K) (by rfl)) (by rfl) T.z_isinstance (by decide +kernel) (pa_cons (pv 1) (pa_cons (pe_bltn (v := .ty "tuple") (u := .type "tuple") (by rfl) T.z_tuple (by decide +kernel) rfl) pa_nil))) (nomark _)))))
    (pss_one (ps_ret pe_bl))
    pss_nil)
    (pss_one (ps_ret (pe_and (pe_cmpR op_eq (pe_callB (k_len (K := K) (by rfl)) (by rfl) T.z_len (by decide +kernel) (pa_cons (pv 0) pa_nil)) (pe_callB (k_len (K := K) (by rfl)) (by rfl) T.z_len (by decide +kernel) (pa_cons (pv 1) pa_nil)) (nomark _)) (pe_one (pe_callB (k_all (K := K) (by rfl) (by rfl)) (by rfl) T.z_all (by decide +kernel) (pa_cons (pe_lc (own := [("a", 2), ("b", 3)]) (g := gTup K 2 (gCons (gName 2) (gCons (gName 3) gNil))) (by rfl) sc__law_like.nd (k_zip (K := K) (by rfl) (by rfl) T.z_zip (pa_cons (pv 0) (pa_cons (pv 1) pa_nil))) (blkOk_by (own := [("a", 2), ("b", 3)]) (N := N__law_like) (sc := defScope s__law_like) (by decide +kernel)) (fun _ _ _ _ _ => (k_pgt (K := K) (n := 2) (by rfl) (by rfl) (pgs_cons (pg_name (i := 2) sc__law_like.nd rfl (Or.inl rfl)) (pgs_cons (pg_name (i := 3) sc__law_like.nd rfl (Or.inl rfl)) pgs_nil)) (by rfl) (by rfl))) (fun _ _ _ _ _ => pts_nil) (fun _ _ _ _ _ => (pe_cal C__law_like (hr.mono (by first | decide | omega)) (by rfl) (pa_cons (pv 2) (pa_cons (pv 3) pa_nil))))) pa_nil)))))))
    pss_nil)
    (pss_cons (ps_if (PW.pt (pw_or (pt_cmpR o_isN (pv 1) pe_non (nomark _)) (pw_or1 (pt_cmpR o_isN (pv 0) pe_non (nomark _)))))
    (pss_one (ps_ret (pe_and (pe_cmpR o_isN (pv 1) pe_non (nomark _)) (pe_one (pe_cmpR o_isN (pv 0) pe_non (nomark _))))))
    pss_nil)
    (pss_cons (ps_if (PW.pt (pw_or (pt_val (pe_callB (k_isiT (K := K) (by rfl)) (by rfl) T.z_isinstance (by decide +kernel) (pa_cons (pv 0) (pa_cons (pe_tup (pa_cons (pe_bltn (v := .ty "list") (u := .type "list") (by rfl) T.z_list (by decide +kernel) rfl) (pa_cons (pe_bltn (v := .ty "tuple") (u := .type "tuple") (by rfl) T.z_tuple (by decide +kernel) rfl) pa_nil))) pa_nil)))) (pw_or1 (pt_cmpR op_ne (pe_callB (k_isi (K := K) (by rfl)) (by rfl) T.z_isinstance (by decide +kernel) (pa_cons (pv 0) (pa_cons (pe_bltn (v := .ty "bool") (u := .type "bool") (by rfl) T.z_bool (by decide +kernel) rfl) pa_nil))) (pe_callB (k_isi (K := K) (by rfl)) (by rfl) T.z_isinstance (by decide +kernel) (pa_cons (pv 1) (pa_cons (pe_bltn (v := .ty "bool") (u := .type "bool") (by rfl) T.z_bool (by decide +kernel) rfl) pa_nil))) (nomark _)))))
    (pss_one (ps_ret pe_bl))
    pss_nil)
    (pss_cons (ps_if (PW.pt (pw_or (pt_cmpR op_ne (pe_callB (k_isi (K := K) (by rfl)) (by rfl) T.z_isinstance (by decide +kernel) (pa_cons (pv 0) (pa_cons (pe_bltn (v := .ty "str") (u := .type "str") (by rfl) T.z_str (by decide +kernel) rfl) pa_nil))) (pe_callB (k_isi (K := K) (by rfl)) (by rfl) T.z_isinstance (by decide +kernel) (pa_cons (pv 1) (pa_cons (pe_bltn (v := .ty "str") (u := .type "str") (by rfl) T.z_str (by decide +kernel) rfl) pa_nil))) (nomark _)) (pw_or1 (pt_cmpR op_ne (pe_callB (k_isi (K := K) (by rfl)) (by rfl) T.z_isinstance (by decide +kernel) (pa_cons (pv 0) (pa_cons (pe_bltn (v := .ty "int") (u := .type "int") (by rfl) T.z_int (by decide +kernel) rfl) pa_nil))) (pe_callB (k_isi (K := K) (by rfl)) (by rfl) T.z_isinstance (by decide +kernel) (pa_cons (pv 1) (pa_cons (pe_bltn (v := .ty "int") (u := .type "int") (by rfl) T.z_int (by decide +kernel) rfl) pa_nil))) (nomark _)))))
    (pss_one (ps_ret pe_bl))
    pss_nil)
    (pss_one (ps_ret (pe_cmpR op_eq (pv 0) (pv 1) (nomark _)))))))), ?_⟩
    rw [show L2.start N__law_like [x, y] = [some x, some y, none, none] from rfl]
    cases d with
    | none =>
      cases hx
      cases hy
      walk_at "go"
      exact q _ (same_new (by assumption))
    | bool b =>
      cases hx
      cases hy
      walk_at "go"
      rw [decide_eq_true rfl]
      exact q _ ((same_new (by assumption)).trans (same_new (by assumption)))
    | int b =>
      cases hx
      cases hy
      walk_at "go"
      rw [decide_eq_true rfl]
      exact q _ ((same_new (by assumption)).trans (same_new (by assumption)))
    | str b =>
      cases hx
      cases hy
      walk_at "go"
      rw [decide_eq_true rfl]
      exact q _ ((same_new (by assumption)).trans (same_new (by assumption)))
    | dict kvs => cases hx
    | list ds =>
      cases hx with
      | @lst a xs _ ha hda =>
        cases hy with
        | @lst b ys _ hb hdb =>
          walk_at "go"
          rename_i pt hpt
          have hl : xs.length = ys.length := (dpAll_len hda).trans (dpAll_len hdb).symm
          have hs2 : (decide (ds.length ≤ 1000) && smallAll ds) = true := hs
          rw [Bool.and_eq_true] at hs2
          have hl2 : ds.length ≤ 1000 := of_decide_eq_true hs2.1
          have hl3 := dpAll_len hda
          have hdep : PyData.depthAll ds + 1 ≤ n + 1 := hd
          refine g_iteY (by omega) ?_
          walk_at "go"
          refine g_zipL (by walk_at "l") (by walk_at "l") ?_
          have s1 : Same H (upd H pt (.tup [V.ty "list", V.ty "tuple"])) := same_new hpt
          generalize upd H pt (.tup [V.ty "list", V.ty "tuple"]) = H1 at s1 ⊢
          refine lcZ hl (σ0 := [some (.ref a), some (.ref b), none, none]) rfl fun D hD => ⟨fun i H' => H' D = some (.lst ((List.replicate i true).map V.bl)) ∧ Chg D H1 H', ⟨upd_same, Chg.upd⟩, ?_, ?_, ?_⟩
          · rintro i H' ⟨e1, c1⟩
            have s := s1.trans (chg_same c1 hD)
            exact ⟨sqL_sm s ha, sqL_sm s hb⟩
          · rintro i x y T H' hx hy ⟨e1, c1⟩ hT
            obtain ⟨d1, hd1, px⟩ := dpAll_at hda hx
            obtain ⟨d2, hd2, py⟩ := dpAll_at hdb hy
            obtain rfl : d1 = d2 := Option.some.inj (hd1.symm.trans hd2)
            have s2 : Same H (upd H' T (.tup [x, y])) := (s1.trans (chg_same c1 hD)).trans (same_new hT)
            have hlt : i < xs.length := (List.getElem?_eq_some_iff.mp hx).1
            have mem := List.mem_of_getElem? hd1
            have nT : T ≠ D := Ne.symm (ne_of_none e1 hT)
            walk_at "go"
            refine g_likeD (dp_same s2 px) (dp_same s2 py) (by have := PyData.depth_le_depthAll ds d1 mem; omega) (smallAll_mem hs2.2 mem) fun H3 s3 => ?_
            have e3 : H3 D = some (.lst ((List.replicate i true).map V.bl)) := by walk_at "h"
            refine g_turnD e3 (by rw [List.length_map, List.length_replicate]; omega) ⟨?_, by walk_at "chg"⟩
            rw [upd_same, List.replicate_succ', List.map_append]
            rfl
          · rintro H' ⟨e1, c1⟩
            walk_at "go"
            rw [all_rep]
            exact q _ (s1.trans (chg_same c1 hD))

    | tuple ds =>
      cases hx with
      | @tup a xs _ ha hda =>
        cases hy with
        | @tup b ys _ hb hdb =>
          walk_at "go"
          rename_i pt hpt
          have hl : xs.length = ys.length := (dpAll_len hda).trans (dpAll_len hdb).symm
          have hs2 : (decide (ds.length ≤ 1000) && smallAll ds) = true := hs
          rw [Bool.and_eq_true] at hs2
          have hl2 : ds.length ≤ 1000 := of_decide_eq_true hs2.1
          have hl3 := dpAll_len hda
          have hdep : PyData.depthAll ds + 1 ≤ n + 1 := hd
          refine g_iteY (by omega) ?_
          walk_at "go"
          refine g_zipT (by walk_at "t") (by walk_at "t") ?_
          have s1 : Same H (upd H pt (.tup [V.ty "list", V.ty "tuple"])) := same_new hpt
          generalize upd H pt (.tup [V.ty "list", V.ty "tuple"]) = H1 at s1 ⊢
          refine lcZT hl (σ0 := [some (.ref a), some (.ref b), none, none]) rfl fun D hD => ⟨fun i H' => H' D = some (.lst ((List.replicate i true).map V.bl)) ∧ Chg D H1 H', ⟨upd_same, Chg.upd⟩, ?_, ?_, ?_⟩
          · rintro i H' ⟨e1, c1⟩
            have s := s1.trans (chg_same c1 hD)
            exact ⟨seqT_same s ha, seqT_same s hb⟩
          · rintro i x y T H' hx hy ⟨e1, c1⟩ hT
            obtain ⟨d1, hd1, px⟩ := dpAll_at hda hx
            obtain ⟨d2, hd2, py⟩ := dpAll_at hdb hy
            obtain rfl : d1 = d2 := Option.some.inj (hd1.symm.trans hd2)
            have s2 : Same H (upd H' T (.tup [x, y])) := (s1.trans (chg_same c1 hD)).trans (same_new hT)
            have hlt : i < xs.length := (List.getElem?_eq_some_iff.mp hx).1
            have mem := List.mem_of_getElem? hd1
            have nT : T ≠ D := Ne.symm (ne_of_none e1 hT)
            walk_at "go"
            refine g_likeD (dp_same s2 px) (dp_same s2 py) (by have := PyData.depth_le_depthAll ds d1 mem; omega) (smallAll_mem hs2.2 mem) fun H3 s3 => ?_
            have e3 : H3 D = some (.lst ((List.replicate i true).map V.bl)) := by walk_at "h"
            refine g_turnD e3 (by rw [List.length_map, List.length_replicate]; omega) ⟨?_, by walk_at "chg"⟩
            rw [upd_same, List.replicate_succ', List.map_append]
            rfl
          · rintro H' ⟨e1, c1⟩
            walk_at "go"
            rw [all_rep]
            exact q _ (s1.trans (chg_same c1 hD))

end

set_option Elab.async false
set_option linter.all false
set_option maxRecDepth 100000
set_option maxHeartbeats 4000000
open PySem PySem.Spec L2

section
variable {P : Program} {w : World} {K : PySem.W.Frag} {mg : Str → Option Value} {base : Heap}
def spIsN (K : PySem.W.Frag) : Sp := fun vs H Q _ => ∃ (x : V) (d : PyData) (l m : Int), vs = [x, .int l, .int m] ∧ Dp K H x d ∧ Q (.bl (isNum x l m)) H
theorem num_dp {x : V} {H : Hp} (h : NumN x) : ∃ d, Dp K H x d := by
  rcases h with ⟨i, rfl⟩ | rfl
  · exact ⟨_, .int i⟩
  · exact ⟨_, .non⟩
theorem g_isNum {x : V} {l m : Int} {H : Hp} {Q : VK} {E : XK} (h : NumN x) (q : Q (.bl (isNum x l m)) H) : spIsN K [x, .int l, .int m] H Q E := by
  obtain ⟨d, hd⟩ := num_dp (K := K) (H := H) h
  exact ⟨x, d, l, m, rfl, hd, q⟩
theorem g_isNumD {x : V} {d : PyData} {l m : Int} {H : Hp} {Q : VK} {E : XK} (h : Dp K H x d) (q : Q (.bl (isNum x l m)) H) : spIsN K [x, .int l, .int m] H Q E := ⟨x, d, l, m, rfl, h, q⟩
theorem ok_is_number (T : Top K mg) {f : Addr} {fd : FuncData} (F : FnP K "is_number" s_is_number f fd) : FnOk P w K mg base CX0 1 f fd P_is_number (spIsN K) := by
  refine F.ok sc_is_number (fun vs H Q E h => ?_) (fun cdv A outer s H vs Q E hr h => ?_)
  · obtain ⟨x, d, l, m, rfl, _⟩ := h
    rfl
  · obtain ⟨x, d, l, m, rfl, hx, q⟩ := h
    refine ⟨_, PSs.nox (pss_one (ps_ret (pe_and (pe_callB (k_isi (K := K) (by rfl)) (by rfl) T.z_isinstance (by decide +kernel) (pa_cons (pv 0) (pa_cons (pe_bltn (v := .ty "int") (u := .type "int") (by rfl) T.z_int (by decide +kernel) rfl) pa_nil))) (pe_and (pe_not (pe_callB (k_isi (K := K) (by rfl)) (by rfl) T.z_isinstance (by decide +kernel) (pa_cons (pv 0) (pa_cons (pe_bltn (v := .ty "bool") (u := .type "bool") (by rfl) T.z_bool (by decide +kernel) rfl) pa_nil)))) (pe_one (pe_chain op_le op_le (pv 1) (pv 0) (pv 2))))))), ?_⟩
    rw [show L2.start N_is_number [x, .int l, .int m] = [some x, some (.int l), some (.int m)] from rfl]
    cases hx with
    | int i =>
      walk_at "go"
      have e : isNum (.int i) l m = (decide (l ≤ i) && decide (i ≤ m)) := rfl
      rw [e] at q
      refine g_iteD (fun h1 => ?_) (fun h1 => ?_)
      · walk_at "go"
        rw [decide_eq_true h1, Bool.true_and] at q
        exact q
      · rw [decide_eq_false h1, Bool.false_and] at q
        exact q
    | non =>
      walk_at "go"
      exact q
    | bl b =>
      walk_at "go"
      exact q
    | str b =>
      walk_at "go"
      exact q
    | lst hs hd =>
      walk_at "go"
      exact q
    | tup hs hd =>
      walk_at "go"
      exact q
theorem c_is_number (T : Top K mg) : Cal P w K mg base "is_number" 1 P_is_number (spIsN K) := cal_mk T.f_is_number (ok_is_number T) (fun F => F.bindsN fun _ _ _ _ _ _ us hl => match us, hl with | [_, _, _], _ => rfl)
end

set_option Elab.async false
set_option linter.all false
set_option maxRecDepth 100000
set_option maxHeartbeats 4000000
open PySem PySem.Spec L2

section
variable {P : Program} {w : World} {K : PySem.W.Frag} {mg : Str → Option Value} {base : Heap}
def numD (d : PyData) (l m : Int) : Bool := match d with | .int i => decide (l ≤ i) && decide (i ≤ m) | _ => false
theorem num_dpEq {H : Hp} {x : V} {d : PyData} {l m : Int} (h : Dp K H x d) : isNum x l m = numD d l m := by
  cases h <;> rfl
theorem g_isNumQ {x : V} {d : PyData} {l m : Int} {H : Hp} {Q : VK} {E : XK} (h : Dp K H x d) (q : Q (.bl (numD d l m)) H) : spIsN K [x, .int l, .int m] H Q E := g_isNumD h (by rw [num_dpEq h]; exact q)
/-! _is_list -/
def listD (d : PyData) (l m : Int) : Bool := isSeqD d && (decide (l ≤ (itsD d).length) && decide (((itsD d).length : Int) ≤ m))
def spIsL (K : PySem.W.Frag) : Sp := fun vs H Q _ => ∃ (S : Addr → Prop) (x : V) (d : PyData) (l m : Int), vs = [x, .int l, .int m] ∧ Dq K S H x d ∧ ∀ H', Same H H' → Q (.bl (listD d l m)) H'
theorem g_isL {S : Addr → Prop} {x : V} {d : PyData} {l m : Int} {H : Hp} {Q : VK} {E : XK} (h : Dq K S H x d) (q : ∀ H', Same H H' → Q (.bl (listD d l m)) H') : spIsL K [x, .int l, .int m] H Q E := ⟨S, x, d, l, m, rfl, h, q⟩
theorem ok_isL (T : Top K mg) {f : Addr} {fd : FuncData} (F : FnP K "_is_list" s__is_list f fd) : FnOk P w K mg base CX0 1 f fd P__is_list (spIsL K) := by
  refine F.ok sc__is_list (fun vs H Q E h => ?_) (fun cdv A outer s H vs Q E hr h => ?_)
  · obtain ⟨S, x, d, l, m, rfl, _⟩ := h
    rfl
  · obtain ⟨S, x, d, l, m, rfl, hx, q⟩ := h
    refine ⟨_, PSs.nox (pss_one (ps_ret (pe_and (pe_callB (k_isiT (K := K) (by rfl)) (by rfl) T.z_isinstance (by decide +kernel) (pa_cons (pv 0) (pa_cons (pe_tup (pa_cons (pe_bltn (v := .ty "list") (u := .type "list") (by rfl) T.z_list (by decide +kernel) rfl) (pa_cons (pe_bltn (v := .ty "tuple") (u := .type "tuple") (by rfl) T.z_tuple (by decide +kernel) rfl) pa_nil))) pa_nil))) (pe_one (pe_chain op_le op_le (pv 1) (pe_callB (k_len (K := K) (by rfl)) (by rfl) T.z_len (by decide +kernel) (pa_cons (pv 0) pa_nil)) (pv 2)))))), ?_⟩
    try simp only [cxK]
    rw [show L2.start N__is_list [x, .int l, .int m] = [some x, some (.int l), some (.int m)] from rfl]
    unfold listD at q
    walk_at "go"
    rename_i p hp
    have s1 : Same H (upd H p (.tup [V.ty "list", V.ty "tuple"])) := same_new hp
    refine g_isSeq (hx.sm s1).dp upd_same ?_
    cases hs : isSeqD d with
    | false =>
      walk_at "go"
      rw [hs, Bool.false_and] at q
      exact q _ s1
    | true =>
      rw [hs, Bool.true_and] at q
      walk_at "go"
      refine g_lenQ (hx.sm s1) hs ?_
      walk_at "go"
      refine g_iteD (fun h1 => ?_) (fun h1 => ?_)
      · walk_at "go"
        rw [decide_eq_true h1, Bool.true_and] at q
        exact q _ s1
      · walk_at "go"
        rw [decide_eq_false h1, Bool.false_and] at q
        exact q _ s1
theorem c_isL (T : Top K mg) : Cal P w K mg base "_is_list" 1 P__is_list (spIsL K) := cal_mk T.f__is_list (ok_isL T) (fun F => F.bindsN fun _ _ _ _ _ _ us hl => match us, hl with | [_, _, _], _ => rfl)
/-! _is_row -/
def rowD (d : PyData) (n : Int) : Bool := listD d n n && ((itsD d).map fun e => numD e (-9) 9).all id
def spVal (K : PySem.W.Frag) (f : PyData → Int → Bool) : Sp := fun vs H Q _ => ∃ (S : Addr → Prop) (x : V) (d : PyData) (n : Int), vs = [x, .int n] ∧ Dq K S H x d ∧ Al S H ∧ smallD d = true ∧ ∀ H', Same H H' → Q (.bl (f d n)) H'
theorem g_val {f : PyData → Int → Bool} {S : Addr → Prop} {x : V} {d : PyData} {n : Int} {H : Hp} {Q : VK} {E : XK} (h : Dq K S H x d) (al : Al S H) (hs : smallD d = true) (q : ∀ H', Same H H' → Q (.bl (f d n)) H') : spVal K f [x, .int n] H Q E := ⟨S, x, d, n, rfl, h, al, hs, q⟩
theorem listD_seq {d : PyData} {l m : Int} (h : listD d l m = true) : isSeqD d = true := by
  unfold listD at h
  rw [Bool.and_eq_true] at h
  exact h.1
theorem ok_row (T : Top K mg) {f : Addr} {fd : FuncData} (F : FnP K "_is_row" s__is_row f fd) : FnOk P w K mg base CX0 2 f fd P__is_row (spVal K rowD) := by
  have C_is_number := c_is_number (P := P) (w := w) (base := base) T
  have C__is_list := c_isL (P := P) (w := w) (base := base) T
  refine F.ok sc__is_row (fun vs H Q E h => ?_) (fun cdv A outer s H vs Q E hr h => ?_)
  · obtain ⟨S, x, d, n, rfl, _⟩ := h
    rfl
  · obtain ⟨S, x, d, n, rfl, hx, al, hs, q⟩ := h
    refine ⟨_, PSs.nox (pss_cons (ps_if (pt_not (pt_val (pe_cal C__is_list (hr.mono (by first | decide | omega)) (by rfl) (pa_cons (pv 0) (pa_cons (pv 1) (pa_cons (pv 1) pa_nil))))))
    (pss_one (ps_ret pe_bl))
    pss_nil)
    (pss_one (ps_ret (pe_callB (k_all (K := K) (by rfl) (by rfl)) (by rfl) T.z_all (by decide +kernel) (pa_cons (pe_lc (own := [("item", 2)]) (g := gName 2) (by rfl) sc__is_row.nd (k_piB (K := K) (by rfl) (pv 0)) (blkOk_by (own := [("item", 2)]) (N := N__is_row) (sc := defScope s__is_row) (by decide +kernel)) (fun _ _ _ _ _ => pg_name (i := 2) sc__is_row.nd rfl (by first | exact Or.inl rfl | exact Or.inr rfl)) (fun _ _ _ _ _ => pts_nil) (fun _ _ _ _ _ => (pe_cal C_is_number (hr.mono (by first | decide | omega)) (by rfl) (pa_cons (pv 2) (pa_cons (pe_un un_neg (C8.pe_gc (v := .int 9) (by rfl) T.k_GREATEST_ENTRY)) (pa_cons (C8.pe_gc (v := .int 9) (by rfl) T.k_GREATEST_ENTRY) pa_nil)))))) pa_nil))))), ?_⟩
    try simp only [cxK]
    rw [show L2.start N__is_row [x, .int n] = [some x, some (.int n), none] from rfl]
    unfold rowD at q
    walk_at "go"
    refine g_isL hx fun H1 s1 => ?_
    cases hl : listD d n n with
    | false =>
      walk_at "go"
      rw [hl, Bool.false_and] at q
      exact q _ s1
    | true =>
      rw [hl, Bool.true_and] at q
      walk_at "go"
      refine g_bRQ (hx.sm s1) (listD_seq hl) fun b xs e c hds => ?_
      subst e
      refine lcAll (f := fun e => numD e (-9) 9) c hds (al.sm s1) (small_its hs).1 (σ0 := [some (.ref b), some (.int n), none]) rfl (fun i y e D H' N he hm hD s2 al2 hy tr k => ?_) (fun R H2 hR hL s2 => ?_)
      · walk_at "go"
        exact g_isNumQ hy.dp (k _ fun _ _ z => z)
      · walk_at "go"
        exact q _ (s1.trans s2)
theorem c_row (T : Top K mg) : Cal P w K mg base "_is_row" 2 P__is_row (spVal K rowD) := cal_mk T.f__is_row (ok_row T) (fun F => F.bindsN fun _ _ _ _ _ _ us hl => match us, hl with | [_, _], _ => rfl)
/-! _are_rows -/
def rowsD (d : PyData) (l m n : Int) : Bool := listD d l m && ((itsD d).map fun e => rowD e n).all id
def spRows (K : PySem.W.Frag) : Sp := fun vs H Q _ => ∃ (S : Addr → Prop) (x : V) (d : PyData) (l m n : Int), vs = [x, .int l, .int m, .int n] ∧ Dq K S H x d ∧ Al S H ∧ smallD d = true ∧ ∀ H', Same H H' → Q (.bl (rowsD d l m n)) H'
theorem g_rows {S : Addr → Prop} {x : V} {d : PyData} {l m n : Int} {H : Hp} {Q : VK} {E : XK} (h : Dq K S H x d) (al : Al S H) (hs : smallD d = true) (q : ∀ H', Same H H' → Q (.bl (rowsD d l m n)) H') : spRows K [x, .int l, .int m, .int n] H Q E := ⟨S, x, d, l, m, n, rfl, h, al, hs, q⟩
theorem ok_rows (T : Top K mg) {f : Addr} {fd : FuncData} (F : FnP K "_are_rows" s__are_rows f fd) : FnOk P w K mg base CX0 3 f fd P__are_rows (spRows K) := by
  have C__is_row := c_row (P := P) (w := w) (base := base) T
  have C__is_list := c_isL (P := P) (w := w) (base := base) T
  refine F.ok sc__are_rows (fun vs H Q E h => ?_) (fun cdv A outer s H vs Q E hr h => ?_)
  · obtain ⟨S, x, d, l, m, n, rfl, _⟩ := h
    rfl
  · obtain ⟨S, x, d, l, m, n, rfl, hx, al, hs, q⟩ := h
    refine ⟨_, PSs.nox (pss_one (ps_ret (pe_and (pe_cal C__is_list (hr.mono (by first | decide | omega)) (by rfl) (pa_cons (pv 0) (pa_cons (pv 1) (pa_cons (pv 2) pa_nil)))) (pe_one (pe_callB (k_all (K := K) (by rfl) (by rfl)) (by rfl) T.z_all (by decide +kernel) (pa_cons (pe_lc (own := [("row", 4)]) (g := gName 4) (by rfl) sc__are_rows.nd (k_piB (K := K) (by rfl) (pv 0)) (blkOk_by (own := [("row", 4)]) (N := N__are_rows) (sc := defScope s__are_rows) (by decide +kernel)) (fun _ _ _ _ _ => pg_name (i := 4) sc__are_rows.nd rfl (by first | exact Or.inl rfl | exact Or.inr rfl)) (fun _ _ _ _ _ => pts_nil) (fun _ _ _ _ _ => (pe_cal C__is_row (hr.mono (by first | decide | omega)) (by rfl) (pa_cons (pv 4) (pa_cons (pv 3) pa_nil))))) pa_nil)))))), ?_⟩
    try simp only [cxK]
    rw [show L2.start N__are_rows [x, .int l, .int m, .int n] = [some x, some (.int l), some (.int m), some (.int n), none] from rfl]
    unfold rowsD at q
    walk_at "go"
    refine g_isL hx fun H1 s1 => ?_
    cases hl : listD d l m with
    | false =>
      walk_at "go"
      rw [hl, Bool.false_and] at q
      exact q _ s1
    | true =>
      rw [hl, Bool.true_and] at q
      walk_at "go"
      refine g_bRQ (hx.sm s1) (listD_seq hl) fun b xs e c hds => ?_
      subst e
      refine lcAll (f := fun e => rowD e n) c hds (al.sm s1) (small_its hs).1 (σ0 := [some (.ref b), some (.int l), some (.int m), some (.int n), none]) rfl (fun i y e D H' N he hm hD s2 al2 hy tr k => ?_) (fun R H2 hR hL s2 => ?_)
      · walk_at "go"
        exact g_val hy al2 ((small_its hs).2 e hm) k
      · walk_at "go"
        exact q _ (s1.trans s2)
theorem c_rows (T : Top K mg) : Cal P w K mg base "_are_rows" 3 P__are_rows (spRows K) := cal_mk T.f__are_rows (ok_rows T) (fun F => F.bindsN fun _ _ _ _ _ _ us hl => match us, hl with | [_, _, _, _], _ => rfl)
/-! _are_token_rows -/
def fstD (d : PyData) : PyData := (itsD d).headD .none
def tokD (d : PyData) (n : Int) : Bool := listD d n n && (listD (fstD d) 1 4 && rowsD d n n (itsD (fstD d)).length)
def spTokR (K : PySem.W.Frag) : Sp := fun vs H Q _ => ∃ (S : Addr → Prop) (x : V) (d : PyData) (n : Int), vs = [x, .int n] ∧ Dq K S H x d ∧ Al S H ∧ smallD d = true ∧ 1 ≤ n ∧ ∀ H', Same H H' → Q (.bl (tokD d n)) H'
theorem g_tokR {S : Addr → Prop} {x : V} {d : PyData} {n : Int} {H : Hp} {Q : VK} {E : XK} (h : Dq K S H x d) (al : Al S H) (hs : smallD d = true) (h1 : 1 ≤ n) (q : ∀ H', Same H H' → Q (.bl (tokD d n)) H') : spTokR K [x, .int n] H Q E := ⟨S, x, d, n, rfl, h, al, hs, h1, q⟩
theorem fst_at {d : PyData} {l m : Int} (h : listD d l m = true) (h1 : 1 ≤ l) : (itsD d)[0]? = some (fstD d) := by
  unfold listD at h
  rw [Bool.and_eq_true, Bool.and_eq_true] at h
  have := of_decide_eq_true h.2.1
  unfold fstD
  cases e : itsD d with
  | nil => rw [e] at this; simp at this; omega
  | cons y ys => rfl
theorem ok_tokR (T : Top K mg) {f : Addr} {fd : FuncData} (F : FnP K "_are_token_rows" s__are_token_rows f fd) : FnOk P w K mg base CX0 4 f fd P__are_token_rows (spTokR K) := by
  have C__are_rows := c_rows (P := P) (w := w) (base := base) T
  have C__is_list := c_isL (P := P) (w := w) (base := base) T
  refine F.ok sc__are_token_rows (fun vs H Q E h => ?_) (fun cdv A outer s H vs Q E hr h => ?_)
  · obtain ⟨S, x, d, n, rfl, _⟩ := h
    rfl
  · obtain ⟨S, x, d, n, rfl, hx, al, hs, h1, q⟩ := h
    refine ⟨_, PSs.nox (pss_cons (ps_if (PW.pt (pw_or (pt_not (pt_val (pe_cal C__is_list (hr.mono (by first | decide | omega)) (by rfl) (pa_cons (pv 0) (pa_cons (pv 1) (pa_cons (pv 1) pa_nil)))))) (pw_or1 (pt_not (pt_val (pe_cal C__is_list (hr.mono (by first | decide | omega)) (by rfl) (pa_cons (pe_ix (k_ix (K := K) (by rfl)) (pv 0) pe_int (fun _ _ => rfl)) (pa_cons pe_int (pa_cons (C8.pe_gc (v := .int 4) (by rfl) T.k_MOST_WIDTH) pa_nil)))))))))
    (pss_one (ps_ret pe_bl))
    pss_nil)
    (pss_one (ps_ret (pe_cal C__are_rows (hr.mono (by first | decide | omega)) (by rfl) (pa_cons (pv 0) (pa_cons (pv 1) (pa_cons (pv 1) (pa_cons (pe_callB (k_len (K := K) (by rfl)) (by rfl) T.z_len (by decide +kernel) (pa_cons (pe_ix (k_ix (K := K) (by rfl)) (pv 0) pe_int (fun _ _ => rfl)) pa_nil)) pa_nil)))))))), ?_⟩
    try simp only [cxK]
    rw [show L2.start N__are_token_rows [x, .int n] = [some x, some (.int n)] from rfl]
    unfold tokD at q
    walk_at "go"
    refine g_isL hx fun H1 s1 => ?_
    cases hl : listD d n n with
    | false =>
      walk_at "go"
      rw [hl, Bool.false_and] at q
      exact q _ s1
    | true =>
      rw [hl, Bool.true_and] at q
      have e0 := fst_at hl h1
      have sq := listD_seq hl
      walk_at "go"
      refine g_ixQ (i := 0) (hx.sm s1) sq e0 fun v hv => ?_
      walk_at "go"
      refine g_isL hv fun H2 s2 => ?_
      cases hl2 : listD (fstD d) 1 4 with
      | false =>
        walk_at "go"
        rw [hl2, Bool.false_and] at q
        exact q _ (s1.trans s2)
      | true =>
        rw [hl2, Bool.true_and] at q
        walk_at "go"
        refine g_ixQ (i := 0) (hx.sm (s1.trans s2)) sq e0 fun v hv => ?_
        walk_at "go"
        refine g_lenQ hv (listD_seq hl2) ?_
        walk_at "go"
        exact g_rows (hx.sm (s1.trans s2)) (al.sm (s1.trans s2)) hs fun H3 s3 => q _ ((s1.trans s2).trans s3)
theorem c_tokR (T : Top K mg) : Cal P w K mg base "_are_token_rows" 4 P__are_token_rows (spTokR K) := cal_mk T.f__are_token_rows (ok_tokR T) (fun F => F.bindsN fun _ _ _ _ _ _ us hl => match us, hl with | [_, _], _ => rfl)
/-! _is_table, _is_head, _is_layer, _are_layers -/
def tblD (d : PyData) (n : Int) : Bool := rowsD d n n n
theorem ok_tbl (T : Top K mg) {f : Addr} {fd : FuncData} (F : FnP K "_is_table" s__is_table f fd) : FnOk P w K mg base CX0 4 f fd P__is_table (spVal K tblD) := by
  have C__are_rows := c_rows (P := P) (w := w) (base := base) T
  refine F.ok sc__is_table (fun vs H Q E h => ?_) (fun cdv A outer s H vs Q E hr h => ?_)
  · obtain ⟨S, x, d, n, rfl, _⟩ := h
    rfl
  · obtain ⟨S, x, d, n, rfl, hx, al, hs, q⟩ := h
    refine ⟨_, PSs.nox (pss_one (ps_ret (pe_cal C__are_rows (hr.mono (by first | decide | omega)) (by rfl) (pa_cons (pv 0) (pa_cons (pv 1) (pa_cons (pv 1) (pa_cons (pv 1) pa_nil))))))), ?_⟩
    try simp only [cxK]
    rw [show L2.start N__is_table [x, .int n] = [some x, some (.int n)] from rfl]
    walk_at "go"
    exact g_rows hx al hs q
theorem c_tbl (T : Top K mg) : Cal P w K mg base "_is_table" 4 P__is_table (spVal K tblD) := cal_mk T.f__is_table (ok_tbl T) (fun F => F.bindsN fun _ _ _ _ _ _ us hl => match us, hl with | [_, _], _ => rfl)
def headD (d : PyData) (n : Int) : Bool := listD d 3 3 && ((itsD d).map fun e => tblD e n).all id
theorem ok_head (T : Top K mg) {f : Addr} {fd : FuncData} (F : FnP K "_is_head" s__is_head f fd) : FnOk P w K mg base CX0 5 f fd P__is_head (spVal K headD) := by
  have C__is_table := c_tbl (P := P) (w := w) (base := base) T
  have C__is_list := c_isL (P := P) (w := w) (base := base) T
  refine F.ok sc__is_head (fun vs H Q E h => ?_) (fun cdv A outer s H vs Q E hr h => ?_)
  · obtain ⟨S, x, d, n, rfl, _⟩ := h
    rfl
  · obtain ⟨S, x, d, n, rfl, hx, al, hs, q⟩ := h
    refine ⟨_, PSs.nox (pss_cons (ps_if (pt_not (pt_val (pe_cal C__is_list (hr.mono (by first | decide | omega)) (by rfl) (pa_cons (pv 0) (pa_cons (C8.pe_gc (v := .int 3) (by rfl) T.k_HEAD_TABLES) (pa_cons (C8.pe_gc (v := .int 3) (by rfl) T.k_HEAD_TABLES) pa_nil))))))
    (pss_one (ps_ret pe_bl))
    pss_nil)
    (pss_one (ps_ret (pe_callB (k_all (K := K) (by rfl) (by rfl)) (by rfl) T.z_all (by decide +kernel) (pa_cons (pe_lc (own := [("table", 2)]) (g := gName 2) (by rfl) sc__is_head.nd (k_piB (K := K) (by rfl) (pv 0)) (blkOk_by (own := [("table", 2)]) (N := N__is_head) (sc := defScope s__is_head) (by decide +kernel)) (fun _ _ _ _ _ => pg_name (i := 2) sc__is_head.nd rfl (by first | exact Or.inl rfl | exact Or.inr rfl)) (fun _ _ _ _ _ => pts_nil) (fun _ _ _ _ _ => (pe_cal C__is_table (hr.mono (by first | decide | omega)) (by rfl) (pa_cons (pv 2) (pa_cons (pv 1) pa_nil))))) pa_nil))))), ?_⟩
    try simp only [cxK]
    rw [show L2.start N__is_head [x, .int n] = [some x, some (.int n), none] from rfl]
    unfold headD at q
    walk_at "go"
    refine g_isL hx fun H1 s1 => ?_
    cases hl : listD d 3 3 with
    | false =>
      walk_at "go"
      rw [hl, Bool.false_and] at q
      exact q _ s1
    | true =>
      rw [hl, Bool.true_and] at q
      walk_at "go"
      refine g_bRQ (hx.sm s1) (listD_seq hl) fun b xs e c hds => ?_
      subst e
      refine lcAll (f := fun e => tblD e n) c hds (al.sm s1) (small_its hs).1 (σ0 := [some (.ref b), some (.int n), none]) rfl (fun i y e D H' N he hm hD s2 al2 hy tr k => ?_) (fun R H2 hR hL s2 => ?_)
      · walk_at "go"
        exact g_val hy al2 ((small_its hs).2 e hm) k
      · walk_at "go"
        exact q _ (s1.trans s2)
theorem c_head (T : Top K mg) : Cal P w K mg base "_is_head" 5 P__is_head (spVal K headD) := cal_mk T.f__is_head (ok_head T) (fun F => F.bindsN fun _ _ _ _ _ _ us hl => match us, hl with | [_, _], _ => rfl)
end

set_option Elab.async false
set_option linter.all false
set_option maxRecDepth 100000
set_option maxHeartbeats 4000000
/-! len(set(text)); list(text) -/
open PySem PySem.Spec PyProof.Rows
/-- each item once, in the order of its first place -/
def metS {α : Type} [DecidableEq α] : List α → List α
  | [] => []
  | x :: xs => x :: (metS xs).filter fun y => decide (y ≠ x)
def met {α : Type} [DecidableEq α] (xs : List α) : List α := xs.foldl (fun acc v => if v ∈ acc then acc else acc ++ [v]) []
theorem met_snoc {α : Type} [DecidableEq α] (xs : List α) (v : α) : met (xs ++ [v]) = if v ∈ met xs then met xs else met xs ++ [v] := by
  unfold met
  rw [List.foldl_append]
  rfl
theorem snoc_ind {α : Type} {p : List α → Prop} (h0 : p []) (h1 : ∀ xs v, p xs → p (xs ++ [v])) (xs : List α) : p xs := by
  rw [← List.reverse_reverse xs]
  induction xs.reverse with
  | nil => exact h0
  | cons y ys ih => rw [List.reverse_cons]; exact h1 _ _ ih
theorem met_mem {α : Type} [DecidableEq α] (xs : List α) : ∀ v, v ∈ met xs ↔ v ∈ xs := by
  refine snoc_ind (p := fun xs => ∀ v, v ∈ met xs ↔ v ∈ xs) (fun v => Iff.rfl) (fun xs u ih v => ?_) xs
  rw [met_snoc, List.mem_append, List.mem_singleton, ← ih v]
  split
  · rename_i hu
    exact ⟨.inl, fun h => h.elim id fun e => by rw [e]; exact hu⟩
  · rw [List.mem_append, List.mem_singleton]
theorem met_len {α : Type} [DecidableEq α] (xs : List α) : (met xs).length ≤ xs.length ∧ ((met xs).length = xs.length ↔ xs.Nodup) := by
  refine snoc_ind (p := fun xs => (met xs).length ≤ xs.length ∧ ((met xs).length = xs.length ↔ xs.Nodup)) ⟨Nat.le_refl _, by simp [met]⟩ (fun xs u ih => ?_) xs
  rw [met_snoc, List.length_append, List.length_singleton, List.nodup_append]
  by_cases hu : u ∈ met xs
  · rw [if_pos hu]
    refine ⟨by omega, ⟨fun h => by omega, fun h => ?_⟩⟩
    exact absurd rfl (h.2.2 u ((met_mem xs u).mp hu) u (List.mem_singleton.mpr rfl))
  · rw [if_neg hu, List.length_append, List.length_singleton]
    refine ⟨by omega, ⟨fun h => ⟨ih.2.mp (by omega), by simp, fun a ha b hb e => ?_⟩, fun h => by have := ih.2.mpr h.1; omega⟩⟩
    rw [List.mem_singleton.mp hb] at e
    exact hu ((met_mem xs u).mpr (e ▸ ha))
section
variable {prog : Program} {w : World} {A : Around} {R : Result → Shared → Prop} {I : Addr} {n : Nat} {Pi : Nat → Value → Prop} {St : Nat → Shared → Prop} {fp wr : List Addr} {G : Array GenState → Array GenState → Prop}
theorem loopS (Wk : WalksS prog w A.in1 I fp wr G n Pi St) (C : Addr) (hC : C ∉ fp) (xs : List Str) (hx : xs.length = n) (hv : ∀ i v, Pi i v → ∃ t, v = .str (xs.getD i Str.empty) t) (big : n + 1 < scanBound) :
    ∀ (m i : Nat) (sh : Shared), n - i = m → i ≤ n → St i sh → sh.heap.SetOf (PySem.strKind prog w) C (fun z => decide (z ∈ met (xs.take i))) (met (xs.take i)).length →
      (∀ s2, Moved (C :: wr) G sh s2 → s2.heap.SetOf (PySem.strKind prog w) C (fun z => decide (z ∈ met xs)) (met xs).length → R (.ok (.ret .none)) s2) → codeAny (model prog w) A (.builtin "set.update.loop" ⟨[.ref C, .ref I], []⟩) R sh := by
  have w1 : C ∉ wr := fun z => hC (Wk.sub _ z)
  have w2 : ∀ b ∈ wr, b ∈ C :: wr := fun b hb => List.mem_cons_of_mem _ hb
  intro m
  induction m with
  | zero =>
    intro i sh hm hi hst hS k
    obtain rfl : i = n := by omega
    rw [List.take_of_length_le (by omega)] at hS
    refine codeAny_builtin PyProof.Rows.F.entry_set_update_loop ?_
    rw [Around.under_plainId PyProof.Rows.F.plain_set_update_loop _]
    refine wpAny_bind (m := pyNext (.ref I)) (Wk.done sh _ _ hst fun s2 mv => ?_)
    obtain ⟨o, es, ep, t, ho, more⟩ := hS
    exact wpAny_pure (k s2 (mv.mono w2) ⟨o, es, ep, t, mv.heap C _ w1 ho, more⟩)
  | succ m ih =>
    intro i sh hm hi hst hS k
    have lt : i < n := by omega
    refine codeAny_builtin PyProof.Rows.F.entry_set_update_loop ?_
    rw [Around.under_plainId PyProof.Rows.F.plain_set_update_loop _]
    refine wpAny_bind (m := pyNext (.ref I)) (Wk.item i sh _ _ lt hst fun v s2 hp hst2 mv => ?_)
    obtain ⟨t, rfl⟩ := hv i v hp
    obtain ⟨o, es, ep, tb, ho, more⟩ := hS
    have hS2 : s2.heap.SetOf (PySem.strKind prog w) C (fun z => decide (z ∈ met (xs.take i))) (met (xs.take i)).length := ⟨o, es, ep, tb, mv.heap C _ w1 ho, more⟩
    refine wpAny_bind (m := holding [Value.str (xs.getD i Str.empty) t] (setAdd C (.str (xs.getD i Str.empty) t))) (wpAny_holding ?_)
    unfold setAdd
    refine wpAny_holding (wpAny_bind ((PySem.strKind prog w).pyHash (k := xs.getD i Str.empty) (strKind_is _ _ _ _) ?_))
    have few : (met (xs.take i)).length + 1 < scanBound := by
      have := (met_len (xs.take i)).1
      rw [List.length_take] at this
      omega
    refine wpAny_setAddHashed_of (knd := PySem.strKind prog w) (s := { s2 with toks := s2.toks + 1 }) (strKind_is _ _ _ _) rfl hS2 few fun h3 hb hS3 => ?_
    have ei : xs[i]? = some (xs.getD i Str.empty) := by rw [List.getD_eq_getElem?_getD, List.getElem?_eq_getElem (by omega)]; rfl
    have es3 : met (xs.take (i + 1)) = if xs.getD i Str.empty ∈ met (xs.take i) then met (xs.take i) else met (xs.take i) ++ [xs.getD i Str.empty] := by rw [List.take_add_one, ei]; exact met_snoc _ _
    have hS4 : h3.SetOf (PySem.strKind prog w) C (fun z => decide (z ∈ met (xs.take (i + 1)))) (met (xs.take (i + 1))).length := by
      refine SetOf_congr hS3 (fun z => ?_) ?_
      · rw [es3]
        by_cases hm3 : xs.getD i Str.empty ∈ met (xs.take i)
        · rw [if_pos hm3]
          by_cases ez : z = xs.getD i Str.empty
          · rw [ez, decide_eq_true hm3]; rfl
          · rw [decide_eq_false ez, Bool.or_false]
        · rw [if_neg hm3]
          by_cases ez : z = xs.getD i Str.empty
          · rw [decide_eq_true ez, Bool.or_true, decide_eq_true (List.mem_append.mpr (.inr (List.mem_singleton.mpr ez)))]
          · rw [decide_eq_false ez, Bool.or_false]
            congr 1
            rw [List.mem_append, List.mem_singleton]
            exact propext ⟨.inl, fun q => q.elim id fun q => absurd q ez⟩
      · rw [es3]
        by_cases hm3 : xs.getD i Str.empty ∈ met (xs.take i)
        · rw [if_pos hm3, if_pos (decide_eq_true hm3)]
        · rw [if_neg hm3, if_neg (fun q => hm3 (of_decide_eq_true q)), List.length_append]; rfl
    refine wpAny_pure ⟨plainId_quiet PyProof.Rows.F.plain_set_update_loop _, ih (i + 1) _ (by omega) lt (Wk.frame _ s2 _ _ hst2 (Nat.le_succ _) fun b hb2 o e => ?_) hS4 fun s5 mv5 hS5 => k s5 (Moved.trans Wk.gtrans ((mv.mono w2).then_heap (Nat.le_succ _) fun b o hb2 e => ?_) mv5) hS5⟩
    · rw [hb.2 b (fun z : b = C => hC (by rw [← z]; exact hb2))]; exact e
    · rw [hb.2 b (fun z : b = C => hb2 (by rw [z]; exact List.mem_cons_self))]; exact e
end
def chrs (z : Str) : List Str := z.cps.toList.map fun c => ⟨#[c]⟩
theorem chrs_len (z : Str) : (chrs z).length = z.cps.size := by unfold chrs; rw [List.length_map, Array.length_toList]
theorem chrs_at {z : Str} {i : Nat} {c : Nat} (h : z.cps[i]? = some c) : (chrs z).getD i Str.empty = ⟨#[c]⟩ := by
  unfold chrs
  rw [List.getD_eq_getElem?_getD, List.getElem?_map, Array.getElem?_toList, h]
  rfl
section
variable {prog : Program} {w : World} {A : Around} {E : Value → Shared → Prop} {s : Shared}
set_option maxHeartbeats 6400000 in
theorem call_setS {z : Str} {tz : Tok} {Q : Value → Shared → Prop} (hh : A.handled = none) (big : z.cps.size + 1 < scanBound)
    (k : ∀ (h2 : Heap) (tk : Nat), h2.SetOf (PySem.strKind prog w) s.heap.objs.size (fun y => decide (y ∈ met (chrs z))) (met (chrs z)).length → (∀ b o, b < s.heap.objs.size → s.heap.get? b = some o → h2.get? b = some o) → Q (.ref s.heap.objs.size) { s with heap := h2, toks := tk }) :
    wpAny (model prog w) A (call (.type "set") [.str z tz]) Q E s := by
  obtain ⟨c, tl, hmro⟩ := PySem.F.called_set.mro
  have q1 := PySem.F.called_set.made
  have q2 := PySem.F.called_set.sub
  refine wpAny_call (codeAny_of_tree ?_)
  refine wpAny_pure (M := model prog w) ⟨Code.quiet_builtin _ (by decide +kernel), codeAny_builtin PySem.F.entry_type_call ?_⟩
  rw [Around.under_plain (weight_type_call_type "set" [.str z tz] []) rfl]
  have q3 := PySem.F.called_set.notType
  have q4 := PySem.F.called_set.canCreate
  have q5 := PySem.F.typeCall_set_1 (.str z tz)
  repeat (any_goals (first | assumption | wp_step))
  refine codeAny_mono (code_set_new_1 (.str z tz) (E := E) (Q₁ := fun ob s2 => ∃ led : Bool, ob = .ref s.heap.objs.size ∧ s2 = { s with heap := s.heap.push { cls := .type "set", dict := none, data := .set #[] 0 (.fresh 0 0 led) } }) fun led => ⟨led, rfl, rfl⟩) fun r s2 hr => ?_
  rcases r with e | fl
  · exact hr
  · cases fl
    case ret ob =>
      obtain ⟨led, rfl, rfl⟩ := hr
      have o1 : (s.heap.push { cls := .type "set", dict := none, data := .set #[] 0 (.fresh 0 0 led) }).get? s.heap.objs.size = some { cls := .type "set", dict := none, data := .set #[] 0 (.fresh 0 0 led) } := Heap.get?_push_size _ rfl
      have o2 : Shared.TypeIs { s with heap := s.heap.push { cls := .type "set", dict := none, data := .set #[] 0 (.fresh 0 0 led) } } (.ref s.heap.objs.size) "set" := ⟨_, o1, rfl⟩
      have o3 := PySem.F.called_set.init.lookup
      have o4 := PySem.F.called_set.init.bind (.ref s.heap.objs.size)
      repeat (any_goals (first | assumption | wp_step))
      refine codeAny_mono (codeAny_call_builtin (R := wants (fun r s3 => r = .none ∧ ∃ h2 tk, s3 = { s with heap := h2, toks := tk } ∧ h2.SetOf (PySem.strKind prog w) s.heap.objs.size (fun y => decide (y ∈ met (chrs z))) (met (chrs z)).length ∧
          (∀ b o, b < s.heap.objs.size → s.heap.get? b = some o → h2.get? b = some o)) E) PySem.F.called_set.init.plain PySem.F.entry_set_init (check_set_init_1 o2 ?_)) fun r2 s3 hr2 => ?_
      · have st1 := PySem.F.sub_str_set
        have st2 := PySem.F.sub_str_frozenset
        have ne1 : (Value.type "str" == Value.type "dict") = false := by decide
        have ty : Shared.TypeIs { s with heap := s.heap.push { cls := .type "set", dict := none, data := .set #[] 0 (.fresh 0 0 led) } } (.str z tz) "str" := rfl
        unfold Builtin.«set.__init__» noKeywords Builtin.Frozenset.updateFrom
        generalize hPI : pyIter = PI
        wp_walk
        subst hPI
        refine wpAny_pyIter_str fun ob St hW hSt => ?_
        refine wpAny_bind (wpAny_runValue ?_)
        have hA : A.in1.in1.in1.handled = none := by simp [hh]
        have nI : s.heap.objs.size ≠ (s.heap.push { cls := .type "set", dict := none, data := .set #[] 0 (.fresh 0 0 led) }).objs.size := by
          rw [Heap.size_push]
          exact Nat.ne_of_lt (Nat.lt_succ_self _)
        have vals : ∀ (i : Nat) (v : Value), SignAt z i v → ∃ t, v = .str ((chrs z).getD i Str.empty) t := fun i v ⟨c, u, hc, e⟩ => ⟨u, by rw [chrs_at hc]; exact e⟩
        refine loopS ((hW _ hA).toS) s.heap.objs.size (fun q => nI (List.mem_singleton.mp q)) (chrs z) (chrs_len z) vals big (z.cps.size - 0) 0 _ (by omega) (Nat.zero_le _) hSt ?h0 ?h1
        case h0 =>
          exact SetOf_congr ((setObjOf_fresh (knd := PySem.strKind prog w) led).setOf (Heap.get?_push_of_some _ o1) (by unfold scanBound; omega)) (fun _ => rfl) rfl
        case h1 =>
          intro s4 mv hS4
          obtain ⟨h4, g4, d4, t4, os4⟩ := s4
          obtain rfl : g4 = s.gens := mv.gens
          obtain rfl : d4 = s.drawn := mv.drawn
          obtain rfl : os4 = s.os := mv.os
          refine wpAny_pure (M := model prog w) ?_
          refine wpAny_pure (M := model prog w) ⟨rfl, h4, t4, rfl, hS4, fun b o hb e => ?_⟩
          refine mv.heap b o (fun q => ?_) (Heap.get?_push_of_some _ (Heap.get?_push_of_some _ e))
          rcases List.mem_cons.mp q with q | q
          · exact Nat.ne_of_lt hb q
          · rw [List.mem_singleton.mp q, Heap.size_push] at hb
            omega
      · rcases r2 with e | fl2
        · exact hr2
        · cases fl2
          case ret r =>
           obtain ⟨rfl, h2, tk, rfl, hS, hk⟩ := hr2
           repeat (any_goals (first | assumption | wp_step))
           exact k _ _ hS hk
          all_goals exact False.elim hr2
    all_goals exact False.elim hr
end
open PySem PySem.Spec PyProof.Rows L2
theorem vals_pt : ∀ (xs : List V) (us : List Value), xs.length = us.length → (∀ (j : Nat) x u, xs[j]? = some x → us[j]? = some u → RelV x u) → Vals xs us
  | [], [], _, _ => .nil
  | x :: xs, u :: us, e, h => .cons (h 0 x u rfl rfl) (vals_pt xs us (by simpa using e) fun j x u hx hu => h (j + 1) x u hx hu)
theorem vals_chrs {z : Str} {acc : Array Value} (h : ItemsOf (SignAt z) acc z.cps.size) : Vals ((chrs z).map V.str) acc.toList := by
  refine vals_pt _ _ (by rw [List.length_map, chrs_len, Array.length_toList, h.1]) fun j x u hx hu => ?_
  rw [Array.getElem?_toList] at hu
  obtain ⟨c, t, hc, e⟩ := h.2 j u hu
  unfold chrs at hx
  rw [List.map_map, List.getElem?_map, Array.getElem?_toList, hc] at hx
  rw [← Option.some.inj hx, e]
  exact ⟨t, rfl⟩
/-- list(text) -/
def qListS : List V → Hp → VK → Prop := fun xs H Q => ∃ z : Str, xs = [.str z] ∧ z.cps.size ≤ 1000 ∧ ∀ l, H l = none → Q (.ref l) (upd H l (.lst ((chrs z).map V.str)))
theorem c_listS {X : Cx} (hc : X.calm = true) : CallR X (.type "list") qListS := by
  intro pins s σ H xs us Q I r h
  obtain ⟨z, rfl, hz, q⟩ := h
  obtain ⟨u, rfl, t, rfl⟩ := vals1 r
  refine call_list_str (I.ok.hd hc) z t (fun h2 tk acc c2 kp e hi => ?_) (by have : (1000 : Nat) ≤ sizeLine := (Nat.le_of_lt (small1000 (Nat.le_refl _))); omega)
  have ln : ((chrs z).map V.str).length ≤ sizeLine := by
    have : (1000 : Nat) ≤ sizeLine := (Nat.le_of_lt (small1000 (Nat.le_refl _)))
    rw [List.length_map, chrs_len]
    omega
  exact ⟨.ref s.heap.objs.size, _, I.laid (t' := tk) kp (Nat.le_refl _) (show ObjOk X.prog X.w _ h2 _ (.lst ((chrs z).map V.str)) from ⟨ln, acc.toList, c2, vals_chrs hi, e⟩), rfl, q _ (I.hok.fresh (Nat.le_refl _))⟩
theorem g_listS {H : Hp} {Q : VK} {z : Str} (hz : z.cps.size ≤ 1000) (q : ∀ l, H l = none → Q (.ref l) (upd H l (.lst ((chrs z).map V.str)))) : qListS [.str z] H Q := ⟨z, rfl, hz, q⟩
/-- len(set(text)) -/
def tLenSetS (ta : TE) : TE := fun σ H Q => ta σ H fun x H1 => ∃ z : Str, x = .str z ∧ z.cps.size < 64 ∧ Q (.int (met (chrs z)).length) H1
theorem pe_lenSetS {X : Cx} {a : Expr} {ta : TE} {p p2 q pos : Pos} (hc : X.calm = true) (hg : Gl X "len") (hm : X.mg "len" = none) (hg2 : Gl X "set") (hm2 : X.mg "set" = none) (ha : PE X a ta)
    (na : starEach [a] X.env = (false, eval a X.env) :: starEach [] X.env := by rfl) : PE X (.Call (.Name "len" p) [.Call (.Name "set" p2) [a] [] q] [] pos) (tLenSetS ta) := by
  refine ⟨fun pins s σ H Q I h => ?_⟩
  refine Call_ (ld_blt I hg hm boot_len (PyProof.Rows.callWith_builtin1 (args_cons (Call_ (ld_blt I hg2 hm2 boot_set (PyProof.Rows.callWith_type1 (he := na) (args_cons (he := na) (thn (ha.run pins s σ H _ I h) fun v s1 x => args_nil ?_))))))))
  obtain ⟨x1, H1, I1, r1, z, rfl, hz, q1⟩ := x
  obtain ⟨t, rfl⟩ := r1
  refine call_setS (I1.ok.hd hc) (by have : scanBound = 4096 := rfl; omega) fun h2 tk hS hk => ?_
  obtain ⟨o, es, ep, tb, ho, ex, hd, _, _, hb, fit, en⟩ := hS
  have I2 := Inv.kept (t' := tk) I1 fun b o e => hk b o (Heap.lt_size e) e
  refine args_nil (call_len_set ho ex hd fit (by have : scanBound = 4096 := rfl; omega) ⟨.int es.size, H1, I2.tok _, ⟨_, rfl⟩, ?_⟩)
  rw [en]
  exact q1
def LenSR (Q : VK) (x : V) (H1 : Hp) : Prop := ∃ z : Str, x = .str z ∧ z.cps.size < 64 ∧ Q (.int (met (chrs z)).length) H1
theorem g_lenSetS {ta : TE} {σ : L2.St} {H : Hp} {Q : VK} (h : ta σ H (LenSR Q)) : tLenSetS ta σ H Q := h
instance st_g_lenSetS {ta : TE} {σ : L2.St} {H : Hp} {Q : VK} : Step (tLenSetS ta σ H Q) (ta σ H (LenSR Q)) := ⟨fun z => g_lenSetS z⟩
theorem g_lenSR {Q : VK} {H : Hp} {z : Str} (hz : z.cps.size < 64) (q : Q (.int (met (chrs z)).length) H) : LenSR Q (.str z) H := ⟨z, rfl, hz, q⟩
-- step instances

set_option Elab.async false
set_option linter.all false
set_option maxRecDepth 100000
set_option maxHeartbeats 4000000
open PySem PySem.Spec L2

local macro_rules | `(tactic| walk_at "s") => `(tactic| first
  | ((with_reducible refine' g_gLst ?k1 ?k2 ?_); (case k1 => walk_at "l"); (case k2 => rfl))
  | ((with_reducible refine' g_methN2 ?k1 ?k2 ?_); (case k1 => walk_at "h"); (case k2 => rfl))
  | ((with_reducible refine' g_methN3 ?k1 ?k2 ?k3 ?_); (case k1 => rfl); (case k2 => rfl); (case k3 => rfl)))


section
variable {P : Program} {w : World} {K : PySem.W.Frag} {mg : Str → Option Value} {base : Heap}
/-! _is_layer, _are_layers -/
def layD (d : PyData) (h n : Int) : Bool := match itsD d with
  | [p, u, v] => (listD p h h && ((itsD p).map fun e => headD e n).all id) && (tblD u n && tblD v n)
  | _ => false
def spLay (K : PySem.W.Frag) : Sp := fun vs H Q _ => ∃ (S : Addr → Prop) (x : V) (d : PyData) (h n : Int), vs = [x, .int h, .int n] ∧ Dq K S H x d ∧ Al S H ∧ smallD d = true ∧ listD d 3 3 = true ∧ ∀ H', Same H H' → Q (.bl (layD d h n)) H'
theorem g_lay {S : Addr → Prop} {x : V} {d : PyData} {h n : Int} {H : Hp} {Q : VK} {E : XK} (hx : Dq K S H x d) (al : Al S H) (hs : smallD d = true) (h3 : listD d 3 3 = true) (q : ∀ H', Same H H' → Q (.bl (layD d h n)) H') : spLay K [x, .int h, .int n] H Q E := ⟨S, x, d, h, n, rfl, hx, al, hs, h3, q⟩
theorem three_of {d : PyData} (h : listD d 3 3 = true) : ∃ p u v, itsD d = [p, u, v] := by
  unfold listD at h
  rw [Bool.and_eq_true, Bool.and_eq_true] at h
  have h1 := of_decide_eq_true h.2.1
  have h2 := of_decide_eq_true h.2.2
  match e : itsD d with
  | [p, u, v] => exact ⟨p, u, v, rfl⟩
  | [] => rw [e] at h1; simp at h1
  | [_] => rw [e] at h1; simp at h1
  | [_, _] => rw [e] at h1; simp at h1
  | _ :: _ :: _ :: _ :: l => rw [e] at h2; simp at h2; omega
theorem dqAll3 {S : Addr → Prop} {H : Hp} {xs : List V} {p u v : PyData} (h : DqAll K S H xs [p, u, v]) : ∃ a b c, xs = [a, b, c] ∧ Dq K S H a p ∧ Dq K S H b u ∧ Dq K S H c v := by
  cases h with
  | cons h1 h => cases h with
    | cons h2 h => cases h with
      | cons h3 h => cases h; exact ⟨_, _, _, rfl, h1, h2, h3⟩
theorem ok_lay (T : Top K mg) {f : Addr} {fd : FuncData} (F : FnP K "_is_layer" s__is_layer f fd) : FnOk P w K mg base CX0 6 f fd P__is_layer (spLay K) := by
  have C__is_head := c_head (P := P) (w := w) (base := base) T
  have C__is_table := c_tbl (P := P) (w := w) (base := base) T
  have C__is_list := c_isL (P := P) (w := w) (base := base) T
  refine F.ok sc__is_layer (fun vs H Q E h => ?_) (fun cdv A outer s H vs Q E hr h => ?_)
  · obtain ⟨S, x, d, h, n, rfl, _⟩ := h
    rfl
  · obtain ⟨S, x, d, h, n, rfl, hx, al, hs, h3, q⟩ := h
    obtain ⟨p, u, v, ei⟩ := three_of h3
    have q2 : ∀ H', Same H H' → Q (.bl ((listD p h h && ((itsD p).map fun e => headD e n).all id) && (tblD u n && tblD v n))) H' := by
      unfold layD at q
      rw [ei] at q
      exact q
    have sm := (small_its hs).2
    rw [ei] at sm
    have sp := sm p (by simp)
    have su := sm u (by simp)
    have sv := sm v (by simp)
    clear q sm
    have rest : ∀ (σ : L2.St) (b : Addr) (a b2 c : V), σ = [some (.ref b), some (.int h), some (.int n), some a, some b2, some c, none] → Dq K S H a p → Dq K S H b2 u → Dq K S H c v → True := fun _ _ _ _ _ _ _ _ _ => trivial
    cases d with
    | list ds =>
      obtain ⟨b, xs, rfl, hb, hds, _⟩ := hx.list_inv
      rw [show ds = [p, u, v] from ei] at hds
      obtain ⟨a, b2, c, rfl, ha, hu, hv⟩ := dqAll3 hds
      refine ⟨_, PSs.nox (pss_cons (ps_asg (pv 0) (k_pgl (K := K) (n := 3) (by rfl) (by rfl) (pgs_cons (pg_name (i := 3) sc__is_layer.nd rfl (by first | exact Or.inl rfl | exact Or.inr rfl)) (pgs_cons (pg_name (i := 4) sc__is_layer.nd rfl (by first | exact Or.inl rfl | exact Or.inr rfl)) (pgs_cons (pg_name (i := 5) sc__is_layer.nd rfl (by first | exact Or.inl rfl | exact Or.inr rfl)) pgs_nil))) (by rfl) (by rfl)))
    (pss_cons (ps_if (PW.pt (pw_or (pt_not (pt_val (pe_cal C__is_list (hr.mono (by first | decide | omega)) (by rfl) (pa_cons (pv 3) (pa_cons (pv 1) (pa_cons (pv 1) pa_nil)))))) (pw_or1 (pt_not (pt_val (pe_callB (k_all (K := K) (by rfl) (by rfl)) (by rfl) T.z_all (by decide +kernel) (pa_cons (pe_lc (own := [("head", 6)]) (g := gName 6) (by rfl) sc__is_layer.nd (k_piB (K := K) (by rfl) (pv 3)) (blkOk_by (own := [("head", 6)]) (N := N__is_layer) (sc := defScope s__is_layer) (by decide +kernel)) (fun _ _ _ _ _ => pg_name (i := 6) sc__is_layer.nd rfl (by first | exact Or.inl rfl | exact Or.inr rfl)) (fun _ _ _ _ _ => pts_nil) (fun _ _ _ _ _ => (pe_cal C__is_head (hr.mono (by first | decide | omega)) (by rfl) (pa_cons (pv 6) (pa_cons (pv 2) pa_nil))))) pa_nil)))))))
    (pss_one (ps_ret pe_bl))
    pss_nil)
    (pss_one (ps_ret (pe_and (pe_cal C__is_table (hr.mono (by first | decide | omega)) (by rfl) (pa_cons (pv 4) (pa_cons (pv 2) pa_nil))) (pe_one (pe_cal C__is_table (hr.mono (by first | decide | omega)) (by rfl) (pa_cons (pv 5) (pa_cons (pv 2) pa_nil))))))))), ?_⟩
      try simp only [cxK]
      rw [show L2.start N__is_layer [.ref b, .int h, .int n] = [some (.ref b), some (.int h), some (.int n), none, none, none, none] from rfl]
      walk_at "go"
      refine g_isL ha fun H1 s1 => ?_
      cases hl : listD p h h with
      | false =>
        walk_at "go"
        rw [hl, Bool.false_and, Bool.false_and] at q2
        exact q2 _ s1
      | true =>
        rw [hl, Bool.true_and] at q2
        walk_at "go"
        refine g_bRQ (ha.sm s1) (listD_seq hl) fun bb xs e cc hdp => ?_
        subst e
        refine lcAll (f := fun e => headD e n) cc hdp (al.sm s1) (small_its sp).1 (σ0 := [some (.ref b), some (.int h), some (.int n), some (.ref bb), some b2, some c, none]) rfl (fun i y e D H' N he hm hD s2 al2 hy tr k => ?_) (fun R H2 hR hL s2 => ?_)
        · walk_at "go"
          exact g_val hy al2 ((small_its sp).2 e hm) k
        · walk_at "go"
          cases ha2 : ((itsD p).map fun e => headD e n).all id with
          | false =>
            walk_at "go"
            rw [ha2, Bool.false_and] at q2
            exact q2 _ (s1.trans s2)
          | true =>
            rw [ha2, Bool.true_and] at q2
            walk_at "go"
            refine g_val (hu.sm (s1.trans s2)) (al.sm (s1.trans s2)) su fun H3 s3 => ?_
            cases ht : tblD u n with
            | false =>
              walk_at "go"
              rw [ht, Bool.false_and] at q2
              exact q2 _ ((s1.trans s2).trans s3)
            | true =>
              rw [ht, Bool.true_and] at q2
              walk_at "go"
              exact g_val (hv.sm ((s1.trans s2).trans s3)) (al.sm ((s1.trans s2).trans s3)) sv fun H4 s4 => q2 _ (((s1.trans s2).trans s3).trans s4)
    | tuple ds =>
      obtain ⟨b, xs, rfl, hb, hds⟩ := hx.tup_inv
      rw [show ds = [p, u, v] from ei] at hds
      obtain ⟨a, b2, c, rfl, ha, hu, hv⟩ := dqAll3 hds
      refine ⟨_, PSs.nox (pss_cons (ps_asg (pv 0) (k_pgt (K := K) (n := 3) (by rfl) (by rfl) (pgs_cons (pg_name (i := 3) sc__is_layer.nd rfl (by first | exact Or.inl rfl | exact Or.inr rfl)) (pgs_cons (pg_name (i := 4) sc__is_layer.nd rfl (by first | exact Or.inl rfl | exact Or.inr rfl)) (pgs_cons (pg_name (i := 5) sc__is_layer.nd rfl (by first | exact Or.inl rfl | exact Or.inr rfl)) pgs_nil))) (by rfl) (by rfl)))
    (pss_cons (ps_if (PW.pt (pw_or (pt_not (pt_val (pe_cal C__is_list (hr.mono (by first | decide | omega)) (by rfl) (pa_cons (pv 3) (pa_cons (pv 1) (pa_cons (pv 1) pa_nil)))))) (pw_or1 (pt_not (pt_val (pe_callB (k_all (K := K) (by rfl) (by rfl)) (by rfl) T.z_all (by decide +kernel) (pa_cons (pe_lc (own := [("head", 6)]) (g := gName 6) (by rfl) sc__is_layer.nd (k_piB (K := K) (by rfl) (pv 3)) (blkOk_by (own := [("head", 6)]) (N := N__is_layer) (sc := defScope s__is_layer) (by decide +kernel)) (fun _ _ _ _ _ => pg_name (i := 6) sc__is_layer.nd rfl (by first | exact Or.inl rfl | exact Or.inr rfl)) (fun _ _ _ _ _ => pts_nil) (fun _ _ _ _ _ => (pe_cal C__is_head (hr.mono (by first | decide | omega)) (by rfl) (pa_cons (pv 6) (pa_cons (pv 2) pa_nil))))) pa_nil)))))))
    (pss_one (ps_ret pe_bl))
    pss_nil)
    (pss_one (ps_ret (pe_and (pe_cal C__is_table (hr.mono (by first | decide | omega)) (by rfl) (pa_cons (pv 4) (pa_cons (pv 2) pa_nil))) (pe_one (pe_cal C__is_table (hr.mono (by first | decide | omega)) (by rfl) (pa_cons (pv 5) (pa_cons (pv 2) pa_nil))))))))), ?_⟩
      try simp only [cxK]
      rw [show L2.start N__is_layer [.ref b, .int h, .int n] = [some (.ref b), some (.int h), some (.int n), none, none, none, none] from rfl]
      walk_at "go"
      refine g_isL ha fun H1 s1 => ?_
      cases hl : listD p h h with
      | false =>
        walk_at "go"
        rw [hl, Bool.false_and, Bool.false_and] at q2
        exact q2 _ s1
      | true =>
        rw [hl, Bool.true_and] at q2
        walk_at "go"
        refine g_bRQ (ha.sm s1) (listD_seq hl) fun bb xs e cc hdp => ?_
        subst e
        refine lcAll (f := fun e => headD e n) cc hdp (al.sm s1) (small_its sp).1 (σ0 := [some (.ref b), some (.int h), some (.int n), some (.ref bb), some b2, some c, none]) rfl (fun i y e D H' N he hm hD s2 al2 hy tr k => ?_) (fun R H2 hR hL s2 => ?_)
        · walk_at "go"
          exact g_val hy al2 ((small_its sp).2 e hm) k
        · walk_at "go"
          cases ha2 : ((itsD p).map fun e => headD e n).all id with
          | false =>
            walk_at "go"
            rw [ha2, Bool.false_and] at q2
            exact q2 _ (s1.trans s2)
          | true =>
            rw [ha2, Bool.true_and] at q2
            walk_at "go"
            refine g_val (hu.sm (s1.trans s2)) (al.sm (s1.trans s2)) su fun H3 s3 => ?_
            cases ht : tblD u n with
            | false =>
              walk_at "go"
              rw [ht, Bool.false_and] at q2
              exact q2 _ ((s1.trans s2).trans s3)
            | true =>
              rw [ht, Bool.true_and] at q2
              walk_at "go"
              exact g_val (hv.sm ((s1.trans s2).trans s3)) (al.sm ((s1.trans s2).trans s3)) sv fun H4 s4 => q2 _ (((s1.trans s2).trans s3).trans s4)
    | none => cases h3
    | bool _ => cases h3
    | int _ => cases h3
    | str _ => cases h3
    | dict _ => cases h3
theorem c_lay (T : Top K mg) : Cal P w K mg base "_is_layer" 6 P__is_layer (spLay K) := cal_mk T.f__is_layer (ok_lay T) (fun F => F.bindsN fun _ _ _ _ _ _ us hl => match us, hl with | [_, _, _], _ => rfl)
def laysD (d : PyData) (n : Int) : Bool := listD d 1 3 && (((itsD d).map fun e => listD e 3 3).all id && (listD (fstD (fstD d)) 1 2 && ((itsD d).map fun e => layD e (itsD (fstD (fstD d))).length n).all id))
theorem ok_lays (T : Top K mg) {f : Addr} {fd : FuncData} (F : FnP K "_are_layers" s__are_layers f fd) : FnOk P w K mg base CX0 7 f fd P__are_layers (spVal K laysD) := by
  have C__is_layer := c_lay (P := P) (w := w) (base := base) T
  have C__is_list := c_isL (P := P) (w := w) (base := base) T
  refine F.ok sc__are_layers (fun vs H Q E h => ?_) (fun cdv A outer s H vs Q E hr h => ?_)
  · obtain ⟨S, x, d, n, rfl, _⟩ := h
    rfl
  · obtain ⟨S, x, d, n, rfl, hx, al, hs, q⟩ := h
    refine ⟨_, PSs.nox (pss_cons (ps_if (pt_not (pt_val (pe_cal C__is_list (hr.mono (by first | decide | omega)) (by rfl) (pa_cons (pv 0) (pa_cons pe_int (pa_cons (C8.pe_gc (v := .int 3) (by rfl) T.k_MOST_LAYERS) pa_nil))))))
    (pss_one (ps_ret pe_bl))
    pss_nil)
    (pss_cons (ps_if (pt_not (pt_val (pe_callB (k_all (K := K) (by rfl) (by rfl)) (by rfl) T.z_all (by decide +kernel) (pa_cons (pe_lc (own := [("layer", 2)]) (g := gName 2) (by rfl) sc__are_layers.nd (k_piB (K := K) (by rfl) (pv 0)) (blkOk_by (own := [("layer", 2)]) (N := N__are_layers) (sc := defScope s__are_layers) (by decide +kernel)) (fun _ _ _ _ _ => pg_name (i := 2) sc__are_layers.nd rfl (by first | exact Or.inl rfl | exact Or.inr rfl)) (fun _ _ _ _ _ => pts_nil) (fun _ _ _ _ _ => (pe_cal C__is_list (hr.mono (by first | decide | omega)) (by rfl) (pa_cons (pv 2) (pa_cons (C8.pe_gc (v := .int 3) (by rfl) T.k_LAYER_PARTS) (pa_cons (C8.pe_gc (v := .int 3) (by rfl) T.k_LAYER_PARTS) pa_nil)))))) pa_nil))))
    (pss_one (ps_ret pe_bl))
    pss_nil)
    (pss_cons (ps_if (pt_not (pt_val (pe_cal C__is_list (hr.mono (by first | decide | omega)) (by rfl) (pa_cons (pe_ix (k_ix (K := K) (by rfl)) (pe_ix (k_ix (K := K) (by rfl)) (pv 0) pe_int (fun _ _ => rfl)) pe_int (fun _ _ => rfl)) (pa_cons pe_int (pa_cons (C8.pe_gc (v := .int 2) (by rfl) T.k_MOST_HEADS) pa_nil))))))
    (pss_one (ps_ret pe_bl))
    pss_nil)
    (pss_cons (ps_set (i := 3) sc__are_layers.nd rfl (by first | exact Or.inl rfl | exact Or.inr rfl) (pe_callB (k_len (K := K) (by rfl)) (by rfl) T.z_len (by decide +kernel) (pa_cons (pe_ix (k_ix (K := K) (by rfl)) (pe_ix (k_ix (K := K) (by rfl)) (pv 0) pe_int (fun _ _ => rfl)) pe_int (fun _ _ => rfl)) pa_nil)))
    (pss_one (ps_ret (pe_callB (k_all (K := K) (by rfl) (by rfl)) (by rfl) T.z_all (by decide +kernel) (pa_cons (pe_lc (own := [("layer", 2)]) (g := gName 2) (by rfl) sc__are_layers.nd (k_piB (K := K) (by rfl) (pv 0)) (blkOk_by (own := [("layer", 2)]) (N := N__are_layers) (sc := defScope s__are_layers) (by decide +kernel)) (fun _ _ _ _ _ => pg_name (i := 2) sc__are_layers.nd rfl (by first | exact Or.inl rfl | exact Or.inr rfl)) (fun _ _ _ _ _ => pts_nil) (fun _ _ _ _ _ => (pe_cal C__is_layer (hr.mono (by first | decide | omega)) (by rfl) (pa_cons (pv 2) (pa_cons (pv 3) (pa_cons (pv 1) pa_nil)))))) pa_nil)))))))), ?_⟩
    try simp only [cxK]
    rw [show L2.start N__are_layers [x, .int n] = [some x, some (.int n), none, none] from rfl]
    unfold laysD at q
    walk_at "go"
    refine g_isL hx fun H1 s1 => ?_
    cases hl : listD d 1 3 with
    | false =>
      walk_at "go"
      rw [hl, Bool.false_and] at q
      exact q _ s1
    | true =>
      rw [hl, Bool.true_and] at q
      have e0 := fst_at hl (Int.le_refl _)
      have sq := listD_seq hl
      walk_at "go"
      refine g_bRQ (hx.sm s1) sq fun b xs e c hds => ?_
      subst e
      refine lcAll (f := fun e => listD e 3 3) c hds (al.sm s1) (small_its hs).1 (σ0 := [some (.ref b), some (.int n), none, none]) rfl (fun i y e D H' N he hm hD s2 al2 hy tr k => ?_) (fun R H2 hR hL s2 => ?_)
      · walk_at "go"
        exact g_isL hy k
      · walk_at "go"
        cases ha2 : ((itsD d).map fun e => listD e 3 3).all id with
        | false =>
          walk_at "go"
          rw [ha2, Bool.false_and] at q
          exact q _ (s1.trans s2)
        | true =>
          rw [ha2, Bool.true_and] at q
          have each : ∀ e ∈ itsD d, listD e 3 3 = true := fun e he => by
            have := List.all_eq_true.mp ha2 (listD e 3 3) (List.mem_map.mpr ⟨e, he, rfl⟩)
            exact this
          have lf : listD (fstD d) 3 3 = true := each _ (List.mem_of_getElem? e0)
          have e1 := fst_at lf (by decide)
          walk_at "go"
          refine g_ixQ (i := 0) (hx.sm (s1.trans s2)) sq e0 fun v hv => ?_
          walk_at "go"
          refine g_ixQ (i := 0) hv (listD_seq lf) e1 fun v2 hv2 => ?_
          walk_at "go"
          refine g_isL hv2 fun H3 s3 => ?_
          cases hl2 : listD (fstD (fstD d)) 1 2 with
          | false =>
            walk_at "go"
            rw [hl2, Bool.false_and] at q
            exact q _ ((s1.trans s2).trans s3)
          | true =>
            rw [hl2, Bool.true_and] at q
            have s123 := (s1.trans s2).trans s3
            walk_at "go"
            refine g_ixQ (i := 0) (hx.sm s123) sq e0 fun v hv => ?_
            walk_at "go"
            refine g_ixQ (i := 0) hv (listD_seq lf) e1 fun v2 hv2 => ?_
            walk_at "go"
            refine g_lenQ hv2 (listD_seq hl2) ?_
            walk_at "go"
            refine g_bRQ (hx.sm s123) sq fun b' xs' e c hds => ?_
            cases e
            refine lcAll (f := fun e => layD e (itsD (fstD (fstD d))).length n) c hds (al.sm s123) (small_its hs).1 (σ0 := [some (.ref b), some (.int n), none, some (.int (itsD (fstD (fstD d))).length)]) rfl (fun i y e D H' N he hm hD s4 al2 hy tr k => ?_) (fun R H4 hR hL s4 => ?_)
            · walk_at "go"
              exact g_lay hy al2 ((small_its hs).2 e hm) (each e hm) k
            · walk_at "go"
              exact q _ (s123.trans s4)
theorem c_lays (T : Top K mg) : Cal P w K mg base "_are_layers" 7 P__are_layers (spVal K laysD) := cal_mk T.f__are_layers (ok_lays T) (fun F => F.bindsN fun _ _ _ _ _ _ us hl => match us, hl with | [_, _], _ => rfl)
end

set_option Elab.async false
set_option linter.all false
set_option maxRecDepth 100000
set_option maxHeartbeats 4000000
open PySem PySem.Spec L2

section
variable {P : Program} {w : World} {K : PySem.W.Frag} {mg : Str → Option Value} {base : Heap}
def spDraw (B : Int) : Sp := fun vs H Q _ => ∃ (a l : Addr) (size : Int), vs = [.ref a, .int size] ∧ Bag H a l ∧ 1 ≤ size ∧ size ≤ B ∧
  ∀ (r : Int) (H' : Hp), 0 ≤ r → r < size → Bag H' a l → Chg a H H' → Q (.int r) H'
theorem ok_draw1 {f : Addr} {fd : FuncData} (T : Top K mg) (F : FunD K "_law_draw" "_law_draw" (defArgs s__law_draw) (defBody s__law_draw) (defScope s__law_draw) [] [] f fd) :
    FnOk P w K mg base CX0 1 f fd P__law_draw (spDraw 1000000) := by
  refine F.ok sc__law_draw (fun vs H Q E h => ?_) (fun cdv A outer s H vs Q E hr h => ?_)
  · obtain ⟨a, l, size, rfl, _⟩ := h
    rfl
  · obtain ⟨a, l, size, rfl, ⟨ns, i, g, m, c, hB, hl, hla, hi, hg, hm, hm', hc⟩, h1, h2, q⟩ := h
    refine ⟨_, PSs.nox (C8.pss_cut (ps_asg (pe_op op_add (pe_ix (k_ix (K := K) (by rfl)) (pv 0) pe_int (fun _ _ => rfl)) pe_int) (pg_sub (pv 0) pe_int set_list))
    (C8.pss_cut (ps_if (PW.pt (pw_and (pt_cmpR op_eq (pe_ix (k_ix (K := K) (by rfl)) (pv 0) pe_int (fun _ _ => rfl)) pe_int (nomark _)) (pw_and1 (pt_cmpR op_lt (pe_ix (k_ix (K := K) (by rfl)) (pv 0) pe_int (fun _ _ => rfl)) (pe_callB (k_len (K := K) (by rfl)) (by rfl) T.z_len (by decide +kernel) (pa_cons (pe_ix (k_ix (K := K) (by rfl)) (pv 0) pe_int (fun _ _ => rfl)) pa_nil)) (nomark _)))))
    (pss_cons (ps_set (i := 2) sc__law_draw.nd rfl (by first | exact Or.inl rfl | exact Or.inr rfl) (pe_ix (k_ix (K := K) (by rfl)) (pe_ix (k_ix (K := K) (by rfl)) (pv 0) pe_int (fun _ _ => rfl)) (pe_ix (k_ix (K := K) (by rfl)) (pv 0) pe_int (fun _ _ => rfl)) (fun _ _ => rfl)))
    (pss_cons (ps_asg (pe_op op_add (pe_ix (k_ix (K := K) (by rfl)) (pv 0) pe_int (fun _ _ => rfl)) pe_int) (pg_sub (pv 0) pe_int set_list))
    (pss_one (ps_if (pt_cmpR op_ge (pv 2) (pe_op op_pow pe_int pe_int) (nomark _))
    (pss_one (ps_asg (pv 2) (pg_sub (pv 0) pe_int set_list)))
    (pss_one (ps_asg (pe_op op_mod (pe_callTy c_int (by rfl) T.z_int (by decide +kernel) (pa_cons (pe_op op_add (pe_op op_add (pe_op op_mul (pe_ix (k_ix (K := K) (by rfl)) (pv 0) pe_int (fun _ _ => rfl)) pe_int) (pe_op op_mul (pe_op op_mod (pe_callTy c_int (by rfl) T.z_int (by decide +kernel) (pa_cons (pv 2) pa_nil)) pe_int) pe_int)) pe_int) pa_nil)) pe_int) (pg_sub (pv 0) pe_int set_list)))))))
    pss_nil)
    (pss_cons (ps_if (pt_cmpR op_gt (pe_ix (k_ix (K := K) (by rfl)) (pv 0) pe_int (fun _ _ => rfl)) pe_int (nomark _))
    (pss_cons (ps_set (i := 3) sc__law_draw.nd rfl (by first | exact Or.inl rfl | exact Or.inr rfl) (pe_op op_mod (pe_callTy c_int (by rfl) T.z_int (by decide +kernel) (pa_cons (pe_ix (k_ix (K := K) (by rfl)) (pv 0) pe_int (fun _ _ => rfl)) pa_nil)) (pv 1)))
    (pss_cons (ps_asg (pe_op op_fdivW (pe_ix (k_ix (K := K) (by rfl)) (pv 0) pe_int (fun _ _ => rfl)) (pv 1)) (pg_sub (pv 0) pe_int set_list))
    (pss_one (ps_ret (pv 3)))))
    pss_nil)
    (pss_cons (ps_asg (pe_op op_mod (pe_callTy c_int (by rfl) T.z_int (by decide +kernel) (pa_cons (pe_op op_add (pe_op op_add (pe_op op_pow (pe_ix (k_ix (K := K) (by rfl)) (pv 0) pe_int (fun _ _ => rfl)) pe_int) (pe_op op_mul (pe_ix (k_ix (K := K) (by rfl)) (pv 0) pe_int (fun _ _ => rfl)) pe_int)) pe_int) pa_nil)) pe_int) (pg_sub (pv 0) pe_int set_list))
    (pss_one (ps_ret (pe_op op_mod (pe_callTy c_int (by rfl) T.z_int (by decide +kernel) (pa_cons (pe_op op_add (pe_op op_fdivW (pe_ix (k_ix (K := K) (by rfl)) (pv 0) pe_int (fun _ _ => rfl)) pe_int) (pe_op op_mul (pe_op op_mod (pe_callTy c_int (by rfl) T.z_int (by decide +kernel) (pa_cons (pe_ix (k_ix (K := K) (by rfl)) (pv 0) pe_int (fun _ _ => rfl)) pa_nil)) pe_int) pe_int)) pa_nil)) (pv 1)))))))), ?_⟩
    try simp only [cxK]
    rw [show L2.start N__law_draw [V.ref a, V.int size] = [some (.ref a), some (.int size), none, none] from rfl]
    refine g_cut (fun σ' H' => σ' = [some (.ref a), some (.int size), none, none] ∧ ∃ c', H' = upd H a (.lst [V.ref l, V.int i, V.int g, V.int m, V.int c']) ∧ 0 ≤ c') ?_ ?_
    · walk_at "go"
      exact ⟨rfl, _, rfl, by omega⟩
    rintro σ' H' ⟨rfl, c', rfl, hc'⟩
    refine g_cut (fun σ' H' => ∃ x2, σ' = [some (.ref a), some (.int size), x2, none] ∧ ∃ i' g' m', H' a = some (.lst [V.ref l, V.int i', V.int g', V.int m', V.int c']) ∧
      0 ≤ i' ∧ 0 ≤ g' ∧ 0 ≤ m' ∧ m' < 2147483648 ∧ Chg a H H') ?_ ?_
    · walk_at "go"
      refine g_iteD (fun h3 => ?_) (fun h3 => ?_)
      · walk_at "go"
        refine g_iteD (fun h4 => ?_) (fun h4 => ?_)
        · have e : atI (ns.map V.int) i = some (.int (ns.getD i.toNat 0)) := by
            have z := atI_nat (xs := ns.map V.int) (j := i.toNat) (v := .int (ns.getD i.toNat 0)) (by
              rw [List.getElem?_map, List.getD_eq_getElem?_getD, List.getElem?_eq_getElem (by rw [List.length_map] at h4; omega)]; rfl)
            rwa [Int.toNat_of_nonneg hi] at z
          walk_at "go"
          refine g_iteD (fun h5 => ?_) (fun h5 => ?_)
          · walk_at "go"
            exact ⟨_, rfl, _, _, _, by walk_at "h", by omega, by omega, hm, hm', by walk_at "chg"⟩
          · walk_at "go"
            exact ⟨_, rfl, _, _, _, by walk_at "h", by omega, by omega, by omega, by omega, by walk_at "chg"⟩
        · walk_at "go"
          exact ⟨_, rfl, i, g, m, by walk_at "h", hi, hg, hm, hm', by walk_at "chg"⟩
      · walk_at "go"
        exact ⟨_, rfl, i, g, m, by walk_at "h", hi, hg, hm, hm', by walk_at "chg"⟩
    rintro σ' H' ⟨x2, rfl, i', g', m', hB', hi', hg', hm1, hm2, ch⟩
    have hl' : H' l = some (HO.lst (List.map V.int ns)) := by walk_at "h"
    walk_at "go"
    refine g_iteD (fun h3 => ?_) (fun h3 => ?_)
    · have hs : 0 < size := by omega
      have hd : CDivW g' size := wide_div (b := 200) hs (Nat.lt_of_le_of_lt (m := 100000000000000000000000000000000000000000) (by omega) (by decide)) (by decide) (by decide)
      walk_at "go"
      exact q _ _ (Int.emod_nonneg _ (by omega)) (Int.emod_lt_of_pos _ (by omega))
        ⟨ns, _, _, _, _, by walk_at "h", by walk_at "h", hla, hi', Int.ediv_nonneg hg' (by omega), hm1, hm2, hc'⟩ (by walk_at "chg")
    · have hs : 0 < size := by omega
      walk_at "go"
      exact q _ _ (Int.emod_nonneg _ (by omega)) (Int.emod_lt_of_pos _ (by omega))
        ⟨ns, _, _, _, _, by walk_at "h", by walk_at "h", hla, hi', hg', by omega, by omega, hc'⟩ (by walk_at "chg")

theorem c_draw1 (T : Top K mg) : Cal P w K mg base "_law_draw" 1 P__law_draw (spDraw 1000000) := cal_mk T.f__law_draw (ok_draw1 T) (fun F => F.bindsN fun _ _ _ _ _ _ us hl => match us, hl with | [_, _], _ => rfl)
theorem g_drawB {B : Int} {a l : Addr} {size : Int} {H : Hp} {Q : VK} {E : XK} (hB : Bag H a l) (h1 : 1 ≤ size ∧ size ≤ B) (q : ∀ (r : Int) (H' : Hp), 0 ≤ r → r < size → Bag H' a l → Chg a H H' → Q (.int r) H') :
    spDraw B [.ref a, .int size] H Q E := ⟨a, l, size, rfl, hB, h1.1, h1.2, q⟩
/-! _law_of -/
def spOf : Sp := fun vs H Q _ => ∃ (a l t : Addr) (xs : List V), vs = [.ref a, .ref t] ∧ Bag H a l ∧ H t = some (.lst xs) ∧ t ≠ a ∧ (1 ≤ xs.length ∧ xs.length ≤ 1000000) ∧
  ∀ (x : V) (H' : Hp), x ∈ xs → Bag H' a l → Chg a H H' → Q x H'
theorem g_of {a l t : Addr} {xs : List V} {H : Hp} {Q : VK} {E : XK} (hB : Bag H a l) (ht : H t = some (.lst xs)) (n : t ≠ a) (hl : 1 ≤ xs.length ∧ xs.length ≤ 1000000)
    (q : ∀ (x : V) (H' : Hp), x ∈ xs → Bag H' a l → Chg a H H' → Q x H') : spOf [.ref a, .ref t] H Q E := ⟨a, l, t, xs, rfl, hB, ht, n, hl, q⟩
theorem ok_of {f : Addr} {fd : FuncData} (T : Top K mg) (F : FnP K "_law_of" s__law_of f fd) : FnOk P w K mg base CX0 2 f fd P__law_of spOf := by
  have C__law_draw : Cal P w K mg base "_law_draw" 1 P__law_draw (spDraw 1000000) := c_draw1 T
  refine F.ok sc__law_of (fun vs H Q E h => ?_) (fun cdv A outer s H vs Q E hr h => ?_)
  · obtain ⟨a, l, t, xs, rfl, _⟩ := h
    rfl
  · obtain ⟨a, l, t, xs, rfl, hB, ht, hn, hl, q⟩ := h
    refine ⟨_, PSs.nox (pss_one (ps_ret (pe_ix (k_ix (K := K) (by rfl)) (pv 1) (pe_cal C__law_draw (hr.mono (by first | decide | omega)) (by rfl) (pa_cons (pv 0) (pa_cons (pe_callB (k_len (K := K) (by rfl)) (by rfl) T.z_len (by decide +kernel) (pa_cons (pv 1) pa_nil)) pa_nil))) (fun _ _ => rfl)))), ?_⟩
    try simp only [cxK]
    rw [show L2.start N__law_of [V.ref a, V.ref t] = [some (.ref a), some (.ref t)] from rfl]
    walk_at "go"
    refine g_drawB hB ⟨by omega, by omega⟩ fun r H1 ra rb B1 ch1 => ?_
    have e : atI xs r = some (xs.getD r.toNat .non) := by
      have z := atI_nat (xs := xs) (j := r.toNat) (v := xs.getD r.toNat .non) (by
        rw [List.getD_eq_getElem?_getD, List.getElem?_eq_getElem (by omega)]; rfl)
      rwa [Int.toNat_of_nonneg ra] at z
    walk_at "go"
    refine q _ _ ?_ B1 ch1
    rw [List.getD_eq_getElem?_getD, List.getElem?_eq_getElem (by omega)]
    exact List.getElem_mem _
theorem c_of (T : Top K mg) : Cal P w K mg base "_law_of" 2 P__law_of spOf := cal_mk T.f__law_of (ok_of T) (fun F => F.bindsN fun _ _ _ _ _ _ us hl => match us, hl with | [_, _], _ => rfl)
/-! _law_bag -/
def spBag (K : PySem.W.Frag) : Sp := fun vs H Q _ => ∃ (a : Addr) (ns : List Int), vs = [.ref a] ∧ SqL K H a (ns.map V.int) ∧ ∀ (p l : Addr) (H' : Hp), Bag H' p l → H p = none → Same H H' → Q (.ref p) H'
theorem ok_bag {f : Addr} {fd : FuncData} (T : Top K mg) (F : FnP K "_law_bag" s__law_bag f fd) : FnOk P w K mg base CX0 1 f fd P__law_bag (spBag K) := by
  refine F.ok sc__law_bag (fun vs H Q E h => ?_) (fun cdv A outer s H vs Q E hr h => ?_)
  · obtain ⟨a, ns, rfl, _⟩ := h
    rfl
  · obtain ⟨a, ns, rfl, hS, q⟩ := h
    refine ⟨_, PSs.nox (pss_cons (ps_set (i := 1) sc__law_bag.nd rfl (by first | exact Or.inl rfl | exact Or.inr rfl) pe_int)
    (pss_cons (ps_for PassesOwn.never rfl (k_pil (K := K) (by rfl) (pe_slice (k_sl (K := K) (by rfl)) (pv 0) po_none (po_some pe_int))) (pg_name (i := 2) sc__law_bag.nd rfl (by first | exact Or.inl rfl | exact Or.inr rfl))
    (pss_one (ps_set (i := 1) sc__law_bag.nd rfl (by first | exact Or.inl rfl | exact Or.inr rfl) (pe_op op_mod (pe_callTy c_int (by rfl) T.z_int (by decide +kernel) (pa_cons (pe_op op_add (pe_op op_add (pe_op op_mul (pv 1) pe_int) (pe_op op_mod (pe_callTy c_int (by rfl) T.z_int (by decide +kernel) (pa_cons (pv 2) pa_nil)) pe_int)) pe_int) pa_nil)) pe_int))))
    (pss_one (ps_ret (pe_lst (pa_cons (pe_callTy (k_list (K := K) (by rfl)) (by rfl) T.z_list (by decide +kernel) (pa_cons (pe_slice (k_sl (K := K) (by rfl)) (pv 0) po_none (po_some pe_int)) pa_nil)) (pa_cons pe_int (pa_cons pe_int (pa_cons (pv 1) (pa_cons pe_int pa_nil)))))))))), ?_⟩
    try simp only [cxK]
    rw [show L2.start N__law_bag [V.ref a] = [some (.ref a), none, none] from rfl]
    walk_at "go"
    rename_i p hp
    have ec : cutV (ns.map V.int) none (some 63) = (ns.take 63).map V.int := by
      unfold cutV
      rw [HT.sIx_none, show HT.sIx (ns.map V.int).length (ns.map V.int).length (some 63) = min 63 (ns.map V.int).length from HT.sIx_nat _ _ 63]
      rw [List.drop_zero, Nat.sub_zero, ← List.map_take]
      congr 1
      rw [List.length_map]
      rcases Nat.le_total 63 ns.length with z | z
      · rw [Nat.min_eq_left z]
      · rw [Nat.min_eq_right z, List.take_length, List.take_of_length_le z]
    rw [ec]
    have s1 : Same H (upd H p (.lst ((ns.take 63).map V.int))) := same_new hp
    refine forL (xs := (ns.take 63).map V.int) ⟨fun i σ' H' => ∃ m y, σ' = [some (.ref a), some (.int m), y] ∧ 0 ≤ m ∧ m < 2147483648 ∧ H' = upd H p (.lst ((ns.take 63).map V.int)), ⟨_, _, rfl, by decide, by decide, rfl⟩, ?_, ?_, ?_⟩
    · rintro i σ' H' _ ⟨m, y, rfl, _, _, rfl⟩
      exact SqL.of upd_same
    · rintro i x σ' H' hx ⟨m, y, rfl, hm, hm', rfl⟩
      rw [List.getElem?_map, Option.map_eq_some_iff] at hx
      obtain ⟨n, _, rfl⟩ := hx
      walk_at "go"
      exact ⟨_, _, rfl, by omega, by omega, rfl⟩
    · rintro σ' H' ⟨m, y, rfl, hm, hm', rfl⟩
      have hS1 : SqL K (upd H p (.lst ((ns.take 63).map V.int))) a (ns.map V.int) := s1.seq hS
      walk_at "go"
      rename_i p2 hp2 p3 hp3 p1 hp1
      rw [ec] at *
      have s2 := same_new hp2 (o := .lst ((ns.take 63).map V.int))
      have s3 := same_new hp3 (o := .lst ((ns.take 63).map V.int))
      have s4 := same_new hp1 (o := .lst [V.ref p3, V.int 0, V.int 0, V.int m, V.int 0])
      refine q p1 p3 _ ⟨ns.take 63, 0, 0, m, 0, upd_same, s4 _ _ upd_same, ?_, by decide, by decide, hm, hm', by decide⟩ (((s1.trans s2).trans s3).free hp1) (((s1.trans s2).trans s3).trans s4)
      exact ne_of_none upd_same hp1
theorem c_bag (T : Top K mg) : Cal P w K mg base "_law_bag" 1 P__law_bag (spBag K) := cal_mk T.f__law_bag (ok_bag T) (fun F => F.bindsN fun _ _ _ _ _ _ us hl => match us, hl with | [_], _ => rfl)
end

set_option Elab.async false
set_option linter.all false
set_option maxRecDepth 100000
set_option maxHeartbeats 4000000
open PySem PySem.Spec L2



section
variable {P : Program} {w : World} {K : PySem.W.Frag} {mg : Str → Option Value} {base : Heap}
/-! is_tokens -/
def canTok (c : Nat) : Bool := decide (33 ≤ c) && decide (c ≤ 126) && !decide ((c : Int) = 37)
def spCan : Sp := fun vs H Q _ => ∃ c : Nat, vs = [.str (sOf [c])] ∧ Q (.bl (canTok c)) H
theorem ok_can (T : Top K mg) {f : Addr} {fd : FuncData} (F : FnP K "_can_be_token" s__can_be_token f fd) : FnOk P w K mg base CX0 1 f fd P__can_be_token spCan := by
  refine F.ok sc__can_be_token (fun vs H Q E h => ?_) (fun cdv A outer s H vs Q E hr h => ?_)
  · obtain ⟨c, rfl, _⟩ := h
    rfl
  · obtain ⟨c, rfl, q⟩ := h
    refine ⟨_, PSs.nox (pss_one (ps_ret (pe_and (pe_chain op_le_str op_le_str pe_str (pv 0) pe_str) (pe_one (pe_cmpR op_ne (pe_callB call_ord (by rfl) T.z_ord (by decide +kernel) (pa_cons (pv 0) pa_nil)) (C8.pe_gc (v := .int 37) (by rfl) T.k_PERCENT) (nomark _)))))), ?_⟩
    try simp only [cxK]
    rw [show L2.start N__can_be_token [.str (sOf [c])] = [some (.str (sOf [c]))] from rfl]
    have e1 : (!decide ((sOf [c]).cps.toList < (Str.ofString "!").cps.toList)) = decide (33 ≤ c) := by
      have : ((sOf [c]).cps.toList < (Str.ofString "!").cps.toList) ↔ c < 33 := by
        show [c] < [33] ↔ c < 33
        simp [List.cons_lt_cons_iff]
      by_cases h : c < 33
      · rw [decide_eq_true (this.mpr h), decide_eq_false (by omega)]; rfl
      · rw [decide_eq_false (fun z => h (this.mp z)), decide_eq_true (by omega)]; rfl
    have e2 : (!decide ((Str.ofString "~").cps.toList < (sOf [c]).cps.toList)) = decide (c ≤ 126) := by
      have : ((Str.ofString "~").cps.toList < (sOf [c]).cps.toList) ↔ 126 < c := by
        show [126] < [c] ↔ 126 < c
        simp [List.cons_lt_cons_iff]
      by_cases h : 126 < c
      · rw [decide_eq_true (this.mpr h), decide_eq_false (by omega)]; rfl
      · rw [decide_eq_false (fun z => h (this.mp z)), decide_eq_true (by omega)]; rfl
    unfold canTok at q
    walk_at "go"
    refine ⟨_, _, rfl, rfl, ?_⟩
    rw [e1]
    refine g_chR ?_
    by_cases h1 : 33 ≤ c
    · rw [decide_eq_true h1] at q ⊢
      walk_at "go"
      refine ⟨_, _, rfl, rfl, ?_⟩
      rw [e2]
      walk_at "go"
      by_cases h2 : c ≤ 126
      · rw [decide_eq_true h2] at q ⊢
        walk_at "go"
        refine ⟨_, rfl, rfl, ?_⟩
        rw [show ((sOf [c]).cps.getD 0 0 : Nat) = c from rfl]
        walk_at "go"
        exact q
      · rw [decide_eq_false h2] at q ⊢
        walk_at "go"
        exact q
    · rw [decide_eq_false h1] at q ⊢
      walk_at "go"
      exact q
theorem c_can (T : Top K mg) : Cal P w K mg base "_can_be_token" 1 P__can_be_token spCan := cal_mk T.f__can_be_token (ok_can T) (fun F => F.bindsN fun _ _ _ _ _ _ us hl => match us, hl with | [_], _ => rfl)
def toksB (z : Str) : Bool := decide (2 ≤ z.cps.size) && (decide (z.cps.size ≤ 6) && (decide (((met (chrs z)).length : Int) = z.cps.size) && (z.cps.toList.map canTok).all id))
def toksD (d : PyData) : Bool := match d with
  | .str z => toksB z
  | _ => false
def spToks (K : PySem.W.Frag) : Sp := fun vs H Q _ => ∃ (x : V) (d : PyData), vs = [x] ∧ Dp K H x d ∧ (∀ z, d = .str z → z.length ≤ 1000) ∧ ∀ H', Same H H' → Q (.bl (toksD d)) H'
theorem g_toks {x : V} {d : PyData} {H : Hp} {Q : VK} {E : XK} (h : Dp K H x d) (l : ∀ z, d = .str z → z.length ≤ 1000) (q : ∀ H', Same H H' → Q (.bl (toksD d)) H') : spToks K [x] H Q E := ⟨x, d, rfl, h, l, q⟩
theorem ok_toks (T : Top K mg) {f : Addr} {fd : FuncData} (F : FnP K "is_tokens" s_is_tokens f fd) : FnOk P w K mg base CX0 2 f fd P_is_tokens (spToks K) := by
  have C__can_be_token := c_can (P := P) (w := w) (base := base) T
  refine F.ok sc_is_tokens (fun vs H Q E h => ?_) (fun cdv A outer s H vs Q E hr h => ?_)
  · obtain ⟨x, d, rfl, _⟩ := h
    rfl
  · obtain ⟨x, d, rfl, hx, hl, q⟩ := h
    refine ⟨_, PSs.nox (pss_cons (ps_if (PW.pt (pw_or (pt_not (pt_val (pe_callB (k_isi (K := K) (by rfl)) (by rfl) T.z_isinstance (by decide +kernel) (pa_cons (pv 0) (pa_cons (pe_bltn (v := .ty "str") (u := .type "str") (by rfl) T.z_str (by decide +kernel) rfl) pa_nil))))) (pw_or1 (pt_not (pt_chain op_le op_le pe_int (pe_callB call_len_str (by rfl) T.z_len (by decide +kernel) (pa_cons (pv 0) pa_nil)) pe_int)))))
    (pss_one (ps_ret pe_bl))
    pss_nil)
    (pss_one (ps_ret (pe_and (pe_cmpR op_eq (pe_lenSetS (by rfl) (by rfl) T.z_len (by rfl) T.z_set (pv 0)) (pe_callB call_len_str (by rfl) T.z_len (by decide +kernel) (pa_cons (pv 0) pa_nil)) (nomark _)) (pe_one (pe_callB (k_all (K := K) (by rfl) (by rfl)) (by rfl) T.z_all (by decide +kernel) (pa_cons (pe_lc (own := [("character", 1)]) (g := gName 1) (by rfl) sc_is_tokens.nd (pi_str (pv 0)) (blkOk_by (own := [("character", 1)]) (N := N_is_tokens) (sc := defScope s_is_tokens) (by decide +kernel)) (fun _ _ _ _ _ => pg_name (i := 1) sc_is_tokens.nd rfl (by first | exact Or.inl rfl | exact Or.inr rfl)) (fun _ _ _ _ _ => pts_nil) (fun _ _ _ _ _ => (pe_cal C__can_be_token (hr.mono (by first | decide | omega)) (by rfl) (pa_cons (pv 1) pa_nil)))) pa_nil))))))), ?_⟩
    try simp only [cxK]
    rw [show L2.start N_is_tokens [x] = [some x, none] from rfl]
    cases hx with
    | str z =>
      have q2 : ∀ H', Same H H' → Q (.bl (toksB z)) H' := q
      unfold toksB at q2
      clear q
      have ez : sOf z.cps.toList = z := by cases z; rfl
      walk_at "go"
      have zl : z.length ≤ 1000 := hl z rfl
      have zs : z.length ≤ sizeLine := Nat.le_of_lt (small1000 zl)
      have es : z.length = z.cps.size := rfl
      refine ⟨_, rfl, zs, ?_⟩
      walk_at "go"
      by_cases h1 : (2 : Int) ≤ (z.length : Int)
      · rw [decide_eq_true h1]
        rw [decide_eq_true (show 2 ≤ z.cps.size by omega), Bool.true_and] at q2
        walk_at "go"
        by_cases h2 : (z.length : Int) ≤ 6
        · rw [decide_eq_true h2]
          rw [decide_eq_true (show z.cps.size ≤ 6 by omega), Bool.true_and] at q2
          walk_at "go"
          refine g_lenSR (by omega) ?_
          walk_at "go"
          refine ⟨_, rfl, zs, ?_⟩
          walk_at "go"
          refine g_iteD (fun h3 => ?_) (fun h3 => ?_)
          · rw [decide_eq_true (show ((met (chrs z)).length : Int) = z.cps.size from h3), Bool.true_and] at q2
            walk_at "go"
            refine lcS (cs := z.cps.toList) (f := fun c => .bl (canTok c)) (σ0 := [some (.str z), none]) rfl (by rw [Array.length_toList]; omega) (fun D acc c N hD hc k => ?_) (fun D hD => ?_)
            · walk_at "go"
              exact ⟨c, rfl, k⟩
            · have eL : SqL K (upd H D (.lst (z.cps.toList.map fun c => V.bl (canTok c)))) D ((z.cps.toList.map canTok).map V.bl) := .of (by rw [upd_same, List.map_map]; rfl)
              walk_at "go"
              exact q2 _ (same_new hD)
          · walk_at "go"
            rw [decide_eq_false (show ¬ ((met (chrs z)).length : Int) = z.cps.size from h3), Bool.false_and] at q2
            exact q2 _ fun _ _ z => z
        · rw [decide_eq_false h2]
          rw [decide_eq_false (show ¬ z.cps.size ≤ 6 by omega), Bool.false_and] at q2
          walk_at "go"
          exact q2 _ fun _ _ z => z
      · rw [decide_eq_false h1]
        rw [decide_eq_false (show ¬ 2 ≤ z.cps.size by omega), Bool.false_and] at q2
        walk_at "go"
        exact q2 _ fun _ _ z => z
    | non => walk_at "go"; exact q _ fun _ _ z => z
    | bl b => walk_at "go"; exact q _ fun _ _ z => z
    | int b => walk_at "go"; exact q _ fun _ _ z => z
    | lst ha hda => walk_at "go"; exact q _ fun _ _ z => z
    | tup ha hda => walk_at "go"; exact q _ fun _ _ z => z
theorem c_toks (T : Top K mg) : Cal P w K mg base "is_tokens" 2 P_is_tokens (spToks K) := cal_mk T.f_is_tokens (ok_toks T) (fun F => F.bindsN fun _ _ _ _ _ _ us hl => match us, hl with | [_], _ => rfl)
end

set_option Elab.async false
set_option linter.all false
set_option maxRecDepth 100000
set_option maxHeartbeats 4000000
open PySem PySem.Spec L2



section
variable {P : Program} {w : World} {K : PySem.W.Frag} {mg : Str → Option Value} {base : Heap}
/-! as_tuples -/
mutual
def frzD : PyData → PyData
  | .list ds => .tuple (frzAll ds)
  | .tuple ds => .tuple (frzAll ds)
  | d => d
def frzAll : List PyData → List PyData
  | [] => []
  | d :: ds => frzD d :: frzAll ds
end
theorem frzAll_map : ∀ ds : List PyData, frzAll ds = ds.map frzD
  | [] => rfl
  | d :: ds => by rw [List.map_cons, ← frzAll_map ds]; rfl
theorem frz_seq {d : PyData} (h : isSeqD d = true) : frzD d = .tuple ((itsD d).map frzD) := by
  cases d with
  | list ds => show PyData.tuple (frzAll ds) = _; rw [frzAll_map]; rfl
  | tuple ds => show PyData.tuple (frzAll ds) = _; rw [frzAll_map]; rfl
  | _ => cases h
theorem frz_leaf {d : PyData} (h : isSeqD d = false) : frzD d = d := by
  cases d with
  | list ds => cases h
  | tuple ds => cases h
  | _ => rfl
theorem depth_its {d e : PyData} {n : Nat} (h : d.depth ≤ n + 1) (he : e ∈ itsD d) : e.depth ≤ n := by
  cases d with
  | list ds =>
    have h2 : PyData.depthAll ds + 1 ≤ n + 1 := h
    have := PyData.depth_le_depthAll ds e he
    omega
  | tuple ds =>
    have h2 : PyData.depthAll ds + 1 ≤ n + 1 := h
    have := PyData.depth_le_depthAll ds e he
    omega
  | _ => exact absurd he List.not_mem_nil
theorem depth_leaf {d : PyData} (h : d.depth ≤ 0) : isSeqD d = false := by
  cases d with
  | list ds => exact absurd (show PyData.depthAll ds + 1 ≤ 0 from h) (by omega)
  | tuple ds => exact absurd (show PyData.depthAll ds + 1 ≤ 0 from h) (by omega)
  | _ => rfl
def spFrz (K : PySem.W.Frag) (n : Nat) : Sp := fun vs H Q _ => ∃ (S : Addr → Prop) (x : V) (d : PyData), vs = [x] ∧ Dq K S H x d ∧ Al S H ∧ d.depth ≤ n ∧ smallD d = true ∧ ∀ (y : V) (H' : Hp), Dq K S H' y (frzD d) → Same H H' → Q y H'
theorem g_frz {n : Nat} {S : Addr → Prop} {x : V} {d : PyData} {H : Hp} {Q : VK} {E : XK} (h : Dq K S H x d) (al : Al S H) (hd : d.depth ≤ n) (hs : smallD d = true) (q : ∀ (y : V) (H' : Hp), Dq K S H' y (frzD d) → Same H H' → Q y H') : spFrz K n [x] H Q E := ⟨S, x, d, rfl, h, al, hd, hs, q⟩
theorem ok_frz0 (T : Top K mg) {f : Addr} {fd : FuncData} (F : FnP K "as_tuples" s_as_tuples f fd) : FnOk P w K mg base CX0 1 f fd P_as_tuples (spFrz K 0) := by
  refine F.ok sc_as_tuples (fun vs H Q E h => ?_) (fun cdv A outer s H vs Q E hr h => ?_)
  · obtain ⟨S, x, d, rfl, _⟩ := h
    rfl
  · obtain ⟨S, x, d, rfl, hx, al, hd, hs, q⟩ := h
    refine ⟨_, PSs.nox (pss_cons (ps_if (pt_val (pe_callB (k_isiT (K := K) (by rfl)) (by rfl) T.z_isinstance (by decide +kernel) (pa_cons (pv 0) (pa_cons (pe_tup (pa_cons (pe_bltn (v := .ty "list") (u := .type "list") (by rfl) T.z_list (by decide +kernel) rfl) (pa_cons (pe_bltn (v := .ty "tuple") (u := .type "tuple") (by rfl) T.z_tuple (by decide +kernel) rfl) pa_nil))) pa_nil))))
    pss_never
    pss_nil)
    (pss_one (ps_ret (pv 0)))), ?_⟩
    try simp only [cxK]
    rw [show L2.start N_as_tuples [x] = [some x, none] from rfl]
    have lf := depth_leaf hd
    walk_at "go"
    rename_i p hp
    have s1 : Same H (upd H p (.tup [V.ty "list", V.ty "tuple"])) := same_new hp
    refine g_isSeq (hx.sm s1).dp upd_same ?_
    rw [lf]
    rw [frz_leaf lf] at q
    walk_at "go"
    exact q _ _ (hx.sm s1) s1
theorem c_frz0 (T : Top K mg) : Cal P w K mg base "as_tuples" 1 P_as_tuples (spFrz K 0) := cal_mk T.f_as_tuples (ok_frz0 T) (fun F => F.bindsN fun _ _ _ _ _ _ us hl => match us, hl with | [_], _ => rfl)
theorem ok_frz {n : Nat} (T : Top K mg) (C_as_tuples : Cal P w K mg base "as_tuples" (n + 1) P_as_tuples (spFrz K n)) {f : Addr} {fd : FuncData} (F : FnP K "as_tuples" s_as_tuples f fd) : FnOk P w K mg base CX0 (n + 2) f fd P_as_tuples (spFrz K (n + 1)) := by
  refine F.ok sc_as_tuples (fun vs H Q E h => ?_) (fun cdv A outer s H vs Q E hr h => ?_)
  · obtain ⟨S, x, d, rfl, _⟩ := h
    rfl
  · obtain ⟨S, x, d, rfl, hx, al, hd, hs, q⟩ := h
    refine ⟨_, PSs.nox (pss_cons (ps_if (pt_val (pe_callB (k_isiT (K := K) (by rfl)) (by rfl) T.z_isinstance (by decide +kernel) (pa_cons (pv 0) (pa_cons (pe_tup (pa_cons (pe_bltn (v := .ty "list") (u := .type "list") (by rfl) T.z_list (by decide +kernel) rfl) (pa_cons (pe_bltn (v := .ty "tuple") (u := .type "tuple") (by rfl) T.z_tuple (by decide +kernel) rfl) pa_nil))) pa_nil))))
    (pss_one (ps_ret (pe_callTy (k_tupleB (K := K) (by rfl)) (by rfl) T.z_tuple (by decide +kernel) (pa_cons (pe_lc (own := [("item", 1)]) (g := gName 1) (by rfl) sc_as_tuples.nd (k_piB (K := K) (by rfl) (pv 0)) (blkOk_by (own := [("item", 1)]) (N := N_as_tuples) (sc := defScope s_as_tuples) (by decide +kernel)) (fun _ _ _ _ _ => pg_name (i := 1) sc_as_tuples.nd rfl (by first | exact Or.inl rfl | exact Or.inr rfl)) (fun _ _ _ _ _ => pts_nil) (fun _ _ _ _ _ => (pe_cal C_as_tuples (hr.mono (by first | decide | omega)) (by rfl) (pa_cons (pv 1) pa_nil)))) pa_nil))))
    pss_nil)
    (pss_one (ps_ret (pv 0)))), ?_⟩
    try simp only [cxK]
    rw [show L2.start N_as_tuples [x] = [some x, none] from rfl]
    walk_at "go"
    rename_i p hp
    have s1 : Same H (upd H p (.tup [V.ty "list", V.ty "tuple"])) := same_new hp
    refine g_isSeq (hx.sm s1).dp upd_same ?_
    generalize upd H p (.tup [V.ty "list", V.ty "tuple"]) = H1 at s1 ⊢
    cases lf : isSeqD d with
    | false =>
      rw [frz_leaf lf] at q
      walk_at "go"
      exact q _ _ (hx.sm s1) s1
    | true =>
      rw [frz_seq lf] at q
      walk_at "go"
      refine g_bRQ (hx.sm s1) lf fun b xs e c hds => ?_
      subst e
      refine lcFn (f := frzD) c hds (al.sm s1) (small_its hs).1 (σ0 := [some (.ref b), none]) rfl (fun i y e D H' N he hm hD s2 al2 hy tr k => ?_) (fun R ys H2 hR hL hds2 s2 => ?_)
      · walk_at "go"
        exact g_frz hy al2 (depth_its hd hm) ((small_its hs).2 e hm) k
      · walk_at "go"
        refine g_tupBL (.of hL) fun t ht => ?_
        have s3 := (s1.trans s2).trans (same_new (o := .tup ys) ht)
        exact q _ _ (dq_newT ((al.sm (s1.trans s2)).no ht) upd_same (hds2.sm (same_new ht))) s3
theorem c_frz (T : Top K mg) : ∀ n : Nat, Cal P w K mg base "as_tuples" (n + 1) P_as_tuples (spFrz K n)
  | 0 => c_frz0 T
  | n + 1 => cal_mk T.f_as_tuples (ok_frz T (c_frz T n)) (fun F => F.bindsN fun _ _ _ _ _ _ us hl => match us, hl with | [_], _ => rfl)
/-! wrong_part -/
def lenD (d : PyData) : Int := match d with
  | .str z => z.length
  | _ => 0
def wrongV (t c tr pr ly ou b : PyData) : V :=
  if toksD t = true then if numD c 1 99 = true then if tokD tr (lenD t) = true then if rowsD pr 1 6 (itsD (fstD tr)).length = true then if laysD ly (itsD (fstD tr)).length = true then
    if rowsD ou (lenD t) (lenD t) (itsD (fstD tr)).length = true then if rowD b (lenD t) = true then .non else .str (Str.ofString "base")
    else .str (Str.ofString "out_rows") else .str (Str.ofString "layers") else .str (Str.ofString "place_rows") else .str (Str.ofString "token_rows") else .str (Str.ofString "cap") else .str (Str.ofString "tokens")
structure WP (K : PySem.W.Frag) (S : Addr → Prop) (H : Hp) (xs : List V) (ds : List PyData) : Prop where
  d : DqAll K S H xs ds
  s : ∀ d ∈ ds, smallD d = true
  z : ∀ d ∈ ds, ∀ z, d = .str z → z.length ≤ 1000
def spWrong (K : PySem.W.Frag) : Sp := fun vs H Q _ => ∃ (S : Addr → Prop) (t c tr pr ly ou b : PyData), WP K S H vs [t, c, tr, pr, ly, ou, b] ∧ Al S H ∧ ∀ H', Same H H' → Q (wrongV t c tr pr ly ou b) H'
theorem dqAll7 {S : Addr → Prop} {H : Hp} {xs : List V} {a b c d e f g : PyData} (h : DqAll K S H xs [a, b, c, d, e, f, g]) : ∃ a1 b1 c1 d1 e1 f1 g1, xs = [a1, b1, c1, d1, e1, f1, g1] ∧ Dq K S H a1 a ∧ Dq K S H b1 b ∧ Dq K S H c1 c ∧ Dq K S H d1 d ∧ Dq K S H e1 e ∧ Dq K S H f1 f ∧ Dq K S H g1 g := by
  cases h with
  | cons h1 h => cases h with
    | cons h2 h => cases h with
      | cons h3 h => cases h with
        | cons h4 h => cases h with
          | cons h5 h => cases h with
            | cons h6 h => cases h with
              | cons h7 h => cases h; exact ⟨_, _, _, _, _, _, _, rfl, h1, h2, h3, h4, h5, h6, h7⟩
theorem toks_len {d : PyData} (h : toksD d = true) : ∃ z, d = .str z ∧ 2 ≤ z.length ∧ z.length ≤ 6 := by
  cases d with
  | str z =>
    have h2 : toksB z = true := h
    unfold toksB at h2
    rw [Bool.and_eq_true, Bool.and_eq_true] at h2
    exact ⟨z, rfl, of_decide_eq_true h2.1, of_decide_eq_true h2.2.1⟩
  | _ => cases h
theorem ok_wrong (T : Top K mg) {f : Addr} {fd : FuncData} (F : FnP K "wrong_part" s_wrong_part f fd) : FnOk P w K mg base CX0 8 f fd P_wrong_part (spWrong K) := by
  have C__is_row := c_row (P := P) (w := w) (base := base) T
  have C__are_rows := c_rows (P := P) (w := w) (base := base) T
  have C__are_layers := c_lays (P := P) (w := w) (base := base) T
  have C__are_token_rows := c_tokR (P := P) (w := w) (base := base) T
  have C_is_number := c_is_number (P := P) (w := w) (base := base) T
  have C_is_tokens := c_toks (P := P) (w := w) (base := base) T
  refine F.ok sc_wrong_part (fun vs H Q E h => ?_) (fun cdv A outer s H vs Q E hr h => ?_)
  · obtain ⟨S, t, c, tr, pr, ly, ou, b, h, _⟩ := h
    exact h.d.len
  · obtain ⟨S, t, c, tr, pr, ly, ou, b, ⟨hd, hs, hz⟩, al, q⟩ := h
    obtain ⟨t1, c1, tr1, pr1, ly1, ou1, b1, rfl, ht, hc, htr, hpr, hly, hou, hb⟩ := dqAll7 hd
    clear hd
    have sT := hs tr (by simp)
    have sP := hs pr (by simp)
    have sL := hs ly (by simp)
    have sO := hs ou (by simp)
    have sB := hs b (by simp)
    have zT := hz t (by simp)
    clear hs hz
    refine ⟨_, PSs.nox (pss_cons (ps_if (pt_not (pt_val (pe_cal C_is_tokens (hr.mono (by first | decide | omega)) (by rfl) (pa_cons (pv 0) pa_nil))))
    (pss_one (ps_ret pe_str))
    pss_nil)
    (pss_cons (ps_if (pt_not (pt_val (pe_cal C_is_number (hr.mono (by first | decide | omega)) (by rfl) (pa_cons (pv 1) (pa_cons pe_int (pa_cons (C8.pe_gc (v := .int 99) (by rfl) T.k_GREATEST_CAP) pa_nil))))))
    (pss_one (ps_ret pe_str))
    pss_nil)
    (pss_cons (ps_set (i := 7) sc_wrong_part.nd rfl (by first | exact Or.inl rfl | exact Or.inr rfl) (pe_callB call_len_str (by rfl) T.z_len (by decide +kernel) (pa_cons (pv 0) pa_nil)))
    (pss_cons (ps_if (pt_not (pt_val (pe_cal C__are_token_rows (hr.mono (by first | decide | omega)) (by rfl) (pa_cons (pv 2) (pa_cons (pv 7) pa_nil)))))
    (pss_one (ps_ret pe_str))
    pss_nil)
    (pss_cons (ps_set (i := 8) sc_wrong_part.nd rfl (by first | exact Or.inl rfl | exact Or.inr rfl) (pe_callB (k_len (K := K) (by rfl)) (by rfl) T.z_len (by decide +kernel) (pa_cons (pe_ix (k_ix (K := K) (by rfl)) (pv 2) pe_int (fun _ _ => rfl)) pa_nil)))
    (pss_cons (ps_if (pt_not (pt_val (pe_cal C__are_rows (hr.mono (by first | decide | omega)) (by rfl) (pa_cons (pv 3) (pa_cons pe_int (pa_cons (C8.pe_gc (v := .int 6) (by rfl) T.k_MOST_PLACE_ROWS) (pa_cons (pv 8) pa_nil)))))))
    (pss_one (ps_ret pe_str))
    pss_nil)
    (pss_cons (ps_if (pt_not (pt_val (pe_cal C__are_layers (hr.mono (by first | decide | omega)) (by rfl) (pa_cons (pv 4) (pa_cons (pv 8) pa_nil)))))
    (pss_one (ps_ret pe_str))
    pss_nil)
    (pss_cons (ps_if (pt_not (pt_val (pe_cal C__are_rows (hr.mono (by first | decide | omega)) (by rfl) (pa_cons (pv 5) (pa_cons (pv 7) (pa_cons (pv 7) (pa_cons (pv 8) pa_nil)))))))
    (pss_one (ps_ret pe_str))
    pss_nil)
    (pss_one (ps_ret (pe_ifExp (pt_val (pe_cal C__is_row (hr.mono (by first | decide | omega)) (by rfl) (pa_cons (pv 6) (pa_cons (pv 7) pa_nil)))) pe_non pe_str))))))))))), ?_⟩
    try simp only [cxK]
    rw [show L2.start N_wrong_part [t1, c1, tr1, pr1, ly1, ou1, b1] = [some t1, some c1, some tr1, some pr1, some ly1, some ou1, some b1, none, none] from rfl]
    unfold wrongV at q
    walk_at "go"
    refine g_toks ht.dp zT fun H1 s1 => ?_
    cases e1 : toksD t with
    | false =>
      walk_at "go"
      rw [e1, if_neg Bool.false_ne_true] at q
      exact q _ s1
    | true =>
      rw [e1, if_pos rfl] at q
      obtain ⟨z, rfl, z2, z6⟩ := toks_len e1
      obtain rfl := ht.str_inv
      walk_at "go"
      refine g_isNumQ (hc.sm s1).dp ?_
      cases e2 : numD c 1 99 with
      | false =>
        walk_at "go"
        rw [e2, if_neg Bool.false_ne_true] at q
        exact q _ s1
      | true =>
        rw [e2, if_pos rfl] at q
        walk_at "go"
        refine ⟨z, rfl, Nat.le_of_lt (small1000 (by omega)), ?_⟩
        walk_at "go"
        refine g_tokR (htr.sm s1) (al.sm s1) sT (by omega) fun H2 s2' => ?_
        have s2 := s1.trans s2'
        clear s2'
        have q : ∀ H', Same H H' → Q (if tokD tr z.length = true then if rowsD pr 1 6 (itsD (fstD tr)).length = true then if laysD ly (itsD (fstD tr)).length = true then
            if rowsD ou z.length z.length (itsD (fstD tr)).length = true then if rowD b z.length = true then .non else .str (Str.ofString "base")
            else .str (Str.ofString "out_rows") else .str (Str.ofString "layers") else .str (Str.ofString "place_rows") else .str (Str.ofString "token_rows")) H' := q
        cases e3 : tokD tr z.length with
        | false =>
          walk_at "go"
          rw [e3, if_neg Bool.false_ne_true] at q
          exact q _ s2
        | true =>
          rw [e3, if_pos rfl] at q
          have e3' := e3
          unfold tokD at e3'
          rw [Bool.and_eq_true, Bool.and_eq_true] at e3'
          have e0 := fst_at e3'.1 (by omega)
          have sq := listD_seq e3'.1
          have sq2 := listD_seq e3'.2.1
          walk_at "go"
          refine g_ixQ (i := 0) (htr.sm s2) sq e0 fun v hv => ?_
          walk_at "go"
          refine g_lenQ hv sq2 ?_
          walk_at "go"
          refine g_rows (hpr.sm s2) (al.sm s2) sP fun H3 s3' => ?_
          have s3 := s2.trans s3'
          clear s3' hv
          cases e4 : rowsD pr 1 6 (itsD (fstD tr)).length with
          | false =>
            walk_at "go"
            rw [e4, if_neg Bool.false_ne_true] at q
            exact q _ s3
          | true =>
            rw [e4, if_pos rfl] at q
            walk_at "go"
            refine g_val (hly.sm s3) (al.sm s3) sL fun H4 s4' => ?_
            have s4 := s3.trans s4'
            clear s4'
            cases e5 : laysD ly (itsD (fstD tr)).length with
            | false =>
              walk_at "go"
              rw [e5, if_neg Bool.false_ne_true] at q
              exact q _ s4
            | true =>
              rw [e5, if_pos rfl] at q
              walk_at "go"
              refine g_rows (hou.sm s4) (al.sm s4) sO fun H5 s5' => ?_
              have s5 := s4.trans s5'
              clear s5'
              cases e6 : rowsD ou z.length z.length (itsD (fstD tr)).length with
              | false =>
                walk_at "go"
                rw [e6, if_neg Bool.false_ne_true] at q
                exact q _ s5
              | true =>
                rw [e6, if_pos rfl] at q
                walk_at "go"
                refine g_val (hb.sm s5) (al.sm s5) sB fun H6 s6' => ?_
                have s6 := s5.trans s6'
                cases e7 : rowD b z.length with
                | false =>
                  walk_at "go"
                  rw [e7, if_neg Bool.false_ne_true] at q
                  exact q _ s6
                | true =>
                  rw [e7, if_pos rfl] at q
                  walk_at "go"
                  exact q _ s6
theorem c_wrong (T : Top K mg) : Cal P w K mg base "wrong_part" 8 P_wrong_part (spWrong K) := cal_mk T.f_wrong_part (ok_wrong T) (fun F => F.bindsN fun _ _ _ _ _ _ us hl => match us, hl with | [_, _, _, _, _, _, _], _ => rfl)
end

set_option Elab.async false
set_option linter.all false
set_option maxRecDepth 100000
set_option maxHeartbeats 4000000
open PySem PySem.Spec L2



section
variable {P : Program} {w : World} {K : PySem.W.Frag} {mg : Str → Option Value} {base : Heap}
abbrev NC (K : PySem.W.Frag) : Addr := He.ga K "Net"
abbrev SC (K : PySem.W.Frag) : Addr := He.ga K "Shape"
abbrev shF (a b c d : Int) : List (Str × V) := [("tokens", .int a), ("width", .int b), ("layers", .int c), ("heads", .int d)]
def ShO (K : PySem.W.Frag) (H : Hp) (p : Addr) (a b c d : Int) : Prop := ∃ dx, H p = some (.ins (SC K) dx (shF a b c d))
def spShI (K : PySem.W.Frag) : Sp := fun vs H Q _ => ∃ (p dx : Addr) (a b c d : Int), vs = [.ref p, .int a, .int b, .int c, .int d] ∧ H p = some (.ins (SC K) dx []) ∧ (2 ≤ a ∧ a ≤ 6 ∧ 1 ≤ b ∧ b ≤ 4 ∧ 1 ≤ c ∧ c ≤ 3 ∧ 1 ≤ d ∧ d ≤ 2) ∧
  ∀ H', H' p = some (.ins (SC K) dx (shF a b c d)) → Chg p H H' → Q .non H'
theorem g_isNumY {i l m : Int} {H : Hp} {Q : VK} {E : XK} (h : l ≤ i ∧ i ≤ m) (q : Q (.bl true) H) : spIsN K [.int i, .int l, .int m] H Q E := g_isNumQ (.int i) (by
  show Q (.bl (decide (l ≤ i) && decide (i ≤ m))) H
  rw [decide_eq_true h.1, decide_eq_true h.2]
  exact q)
theorem ok_ShI (T : Top K mg) {f : Addr} {fd : FuncData} (F : FunD K "__init__" "Shape.__init__" (defArgs s_Shape___init__) (defBody s_Shape___init__) (defScope s_Shape___init__) [] [] f fd) : FnOk P w K mg base CX0 2 f fd P_Shape___init__ (spShI K) := by
  have cl_Shape := T.cl_Shape; have na_Shape_tokens := T.na_Shape_tokens; have na_Shape_width := T.na_Shape_width; have na_Shape_layers := T.na_Shape_layers; have na_Shape_heads := T.na_Shape_heads; have in_Shape := T.in_Shape
  have C_is_number := c_is_number (P := P) (w := w) (base := base) T
  refine F.ok sc_Shape___init__ (fun vs H Q E h => ?_) (fun cdv A outer s H vs Q E hr h => ?_)
  · obtain ⟨p, dx, a, b, c, d, rfl, _⟩ := h
    rfl
  · obtain ⟨p, dx, a, b, c, d, rfl, hp, hb, q⟩ := h
    refine ⟨_, PSs.nox (pss_cons (ps_set (i := 5) sc_Shape___init__.nd rfl (by first | exact Or.inl rfl | exact Or.inr rfl) (pe_lst (pa_cons (pe_tup (pa_cons pe_str (pa_cons (pv 1) (pa_cons (C8.pe_gc (v := .int 2) (by rfl) T.k_LEAST_TOKENS) (pa_cons (C8.pe_gc (v := .int 6) (by rfl) T.k_MOST_TOKENS) pa_nil))))) (pa_cons (pe_tup (pa_cons pe_str (pa_cons (pv 2) (pa_cons pe_int (pa_cons (C8.pe_gc (v := .int 4) (by rfl) T.k_MOST_WIDTH) pa_nil))))) (pa_cons (pe_tup (pa_cons pe_str (pa_cons (pv 3) (pa_cons pe_int (pa_cons (C8.pe_gc (v := .int 3) (by rfl) T.k_MOST_LAYERS) pa_nil))))) (pa_cons (pe_tup (pa_cons pe_str (pa_cons (pv 4) (pa_cons pe_int (pa_cons (C8.pe_gc (v := .int 2) (by rfl) T.k_MOST_HEADS) pa_nil))))) pa_nil))))))
    (pss_cons (ps_for (by first | exact PassesOwn.never | exact passes_of rfl) rfl (k_pil (K := K) (by rfl) (pv 5)) (k_pgt (K := K) (n := 4) (by rfl) (by rfl) (pgs_cons (pg_name (i := 6) sc_Shape___init__.nd rfl (by first | exact Or.inl rfl | exact Or.inr rfl)) (pgs_cons (pg_name (i := 7) sc_Shape___init__.nd rfl (by first | exact Or.inl rfl | exact Or.inr rfl)) (pgs_cons (pg_name (i := 8) sc_Shape___init__.nd rfl (by first | exact Or.inl rfl | exact Or.inr rfl)) (pgs_cons (pg_name (i := 9) sc_Shape___init__.nd rfl (by first | exact Or.inl rfl | exact Or.inr rfl)) pgs_nil)))) (by rfl) (by rfl))
    (pss_one (ps_if (pt_not (pt_val (pe_cal C_is_number (hr.mono (by first | decide | omega)) (by rfl) (pa_cons (pv 7) (pa_cons (pv 8) (pa_cons (pv 9) pa_nil))))))
    (pss_one ps_never)
    pss_nil)))
    (pss_cons (k_sfld (K := K) (by rfl) (pv 0) (pv 1) rfl)
    (pss_cons (k_sfld (K := K) (by rfl) (pv 0) (pv 2) rfl)
    (pss_cons (k_sfld (K := K) (by rfl) (pv 0) (pv 3) rfl)
    (pss_one (k_sfld (K := K) (by rfl) (pv 0) (pv 4) rfl))))))), ?_⟩
    try simp only [cxK]
    rw [show L2.start N_Shape___init__ [.ref p, .int a, .int b, .int c, .int d] = [some (.ref p), some (.int a), some (.int b), some (.int c), some (.int d), none, none, none, none, none] from rfl]
    walk_at "go"
    rename_i t1 h1 t2 h2 t3 h3 t4 h4 bl hbl
    have E1 : SqT K (upd (upd (upd (upd (upd H t1 (.tup [.str (Str.ofString "tokens"), .int a, .int 2, .int 6])) t2 (.tup [.str (Str.ofString "width"), .int b, .int 1, .int 4])) t3 (.tup [.str (Str.ofString "layers"), .int c, .int 1, .int 3])) t4 (.tup [.str (Str.ofString "heads"), .int d, .int 1, .int 2])) bl (.lst [.ref t1, .ref t2, .ref t3, .ref t4])) t1 [.str (Str.ofString "tokens"), .int a, .int 2, .int 6] := .of (by walk_at "h")
    have E2 : SqT K (upd (upd (upd (upd (upd H t1 (.tup [.str (Str.ofString "tokens"), .int a, .int 2, .int 6])) t2 (.tup [.str (Str.ofString "width"), .int b, .int 1, .int 4])) t3 (.tup [.str (Str.ofString "layers"), .int c, .int 1, .int 3])) t4 (.tup [.str (Str.ofString "heads"), .int d, .int 1, .int 2])) bl (.lst [.ref t1, .ref t2, .ref t3, .ref t4])) t2 [.str (Str.ofString "width"), .int b, .int 1, .int 4] := .of (by walk_at "h")
    have E3 : SqT K (upd (upd (upd (upd (upd H t1 (.tup [.str (Str.ofString "tokens"), .int a, .int 2, .int 6])) t2 (.tup [.str (Str.ofString "width"), .int b, .int 1, .int 4])) t3 (.tup [.str (Str.ofString "layers"), .int c, .int 1, .int 3])) t4 (.tup [.str (Str.ofString "heads"), .int d, .int 1, .int 2])) bl (.lst [.ref t1, .ref t2, .ref t3, .ref t4])) t3 [.str (Str.ofString "layers"), .int c, .int 1, .int 3] := .of (by walk_at "h")
    have E4 : SqT K (upd (upd (upd (upd (upd H t1 (.tup [.str (Str.ofString "tokens"), .int a, .int 2, .int 6])) t2 (.tup [.str (Str.ofString "width"), .int b, .int 1, .int 4])) t3 (.tup [.str (Str.ofString "layers"), .int c, .int 1, .int 3])) t4 (.tup [.str (Str.ofString "heads"), .int d, .int 1, .int 2])) bl (.lst [.ref t1, .ref t2, .ref t3, .ref t4])) t4 [.str (Str.ofString "heads"), .int d, .int 1, .int 2] := .of (by walk_at "h")
    have E0 : SqL K (upd (upd (upd (upd (upd H t1 (.tup [.str (Str.ofString "tokens"), .int a, .int 2, .int 6])) t2 (.tup [.str (Str.ofString "width"), .int b, .int 1, .int 4])) t3 (.tup [.str (Str.ofString "layers"), .int c, .int 1, .int 3])) t4 (.tup [.str (Str.ofString "heads"), .int d, .int 1, .int 2])) bl (.lst [.ref t1, .ref t2, .ref t3, .ref t4])) bl [.ref t1, .ref t2, .ref t3, .ref t4] := .of upd_same
    have s5 : Same H (upd (upd (upd (upd (upd H t1 (.tup [.str (Str.ofString "tokens"), .int a, .int 2, .int 6])) t2 (.tup [.str (Str.ofString "width"), .int b, .int 1, .int 4])) t3 (.tup [.str (Str.ofString "layers"), .int c, .int 1, .int 3])) t4 (.tup [.str (Str.ofString "heads"), .int d, .int 1, .int 2])) bl (.lst [.ref t1, .ref t2, .ref t3, .ref t4])) :=
      ((((same_new h1).trans (same_new h2)).trans (same_new h3)).trans (same_new h4)).trans (same_new hbl)
    generalize (upd (upd (upd (upd (upd H t1 (.tup [.str (Str.ofString "tokens"), .int a, .int 2, .int 6])) t2 (.tup [.str (Str.ofString "width"), .int b, .int 1, .int 4])) t3 (.tup [.str (Str.ofString "layers"), .int c, .int 1, .int 3])) t4 (.tup [.str (Str.ofString "heads"), .int d, .int 1, .int 2])) bl (.lst [.ref t1, .ref t2, .ref t3, .ref t4])) = H5 at E1 E2 E3 E4 E0 s5 ⊢
    refine forL (xs := [.ref t1, .ref t2, .ref t3, .ref t4]) ⟨fun i σ' H' => ∃ y1 y2 y3 y4, σ' = [some (.ref p), some (.int a), some (.int b), some (.int c), some (.int d), some (.ref bl), y1, y2, y3, y4] ∧ H' = H5, ⟨_, _, _, _, rfl, rfl⟩, ?_, ?_, ?_⟩
    · rintro i σ' H' _ ⟨_, _, _, _, _, e⟩
      rw [e]
      exact E0
    · rintro i x σ' H' hx ⟨y1, y2, y3, y4, rfl, rfl⟩
      rcases i with _ | _ | _ | _ | i
      · obtain rfl := Option.some.inj hx
        walk_at "go"
        refine g_isNumY ⟨by omega, by omega⟩ ?_
        walk_at "go"
        exact ⟨_, _, _, _, rfl, rfl⟩
      · obtain rfl := Option.some.inj hx
        walk_at "go"
        refine g_isNumY ⟨by omega, by omega⟩ ?_
        walk_at "go"
        exact ⟨_, _, _, _, rfl, rfl⟩
      · obtain rfl := Option.some.inj hx
        walk_at "go"
        refine g_isNumY ⟨by omega, by omega⟩ ?_
        walk_at "go"
        exact ⟨_, _, _, _, rfl, rfl⟩
      · obtain rfl := Option.some.inj hx
        walk_at "go"
        refine g_isNumY ⟨by omega, by omega⟩ ?_
        walk_at "go"
        exact ⟨_, _, _, _, rfl, rfl⟩
      · simp at hx
    · rintro σ' H' ⟨y1, y2, y3, y4, rfl, rfl⟩
      have hp5 := s5 _ _ hp
      walk_at "go"
      rw [upd_upd, upd_upd, upd_upd]
      exact q _ upd_same ((sm_chg s5).trans Chg.upd)
theorem m_Shape (T : Top K mg) : MkC P w K mg base (SC K) 2 P_Shape___init__ (spShI K) := by
  obtain ⟨fd, F⟩ := T.f_Shape___init__
  exact ⟨_, fd, T.mk_Shape, ok_ShI T F, (fun F => F.bindsN fun _ _ _ _ _ _ us hl => match us, hl with | [_, _, _, _, _], _ => rfl) F⟩
/-! Net.__init__ -/
abbrev netF (t c tr pr ly ou b sh : V) : List (Str × V) := [("tokens", t), ("cap", c), ("token_rows", tr), ("place_rows", pr), ("layers", ly), ("out_rows", ou), ("base", b), ("shape", sh)]
structure NetO (K : PySem.W.Frag) (S : Addr → Prop) (H : Hp) (p : Addr) (ds : List PyData) (a b c d : Int) : Prop where
  ex : ∃ dx sh t1 c1 tr1 pr1 ly1 ou1 b1, H p = some (.ins (NC K) dx (netF t1 c1 tr1 pr1 ly1 ou1 b1 (.ref sh))) ∧ DqAll K S H [t1, c1, tr1, pr1, ly1, ou1, b1] ds ∧ ShO K H sh a b c d ∧ sh ≠ p
def wdD (tr : PyData) : Int := (itsD (fstD tr)).length
def dpD (ly : PyData) : Int := (itsD ly).length
def hdD (ly : PyData) : Int := (itsD (fstD (fstD ly))).length
def spNetI (K : PySem.W.Frag) : Sp := fun vs H Q _ => ∃ (S : Addr → Prop) (p dx : Addr) (xs : List V) (t c tr pr ly ou b : PyData), vs = .ref p :: xs ∧ H p = some (.ins (NC K) dx []) ∧ S p ∧ Al S H ∧ WP K S H xs [t, c, tr, pr, ly, ou, b] ∧ wrongV t c tr pr ly ou b = .non ∧
  (∀ d ∈ [tr, pr, ly, ou, b], d.depth ≤ 6) ∧ ∀ H', NetO K S H' p [t, c, frzD tr, frzD pr, frzD ly, frzD ou, frzD b] (lenD t) (wdD tr) (dpD ly) (hdD ly) → Chg p H H' → Q .non H'
theorem wrong_no {t c tr pr ly ou b : PyData} (h : wrongV t c tr pr ly ou b = .non) : toksD t = true ∧ numD c 1 99 = true ∧ tokD tr (lenD t) = true ∧ rowsD pr 1 6 (itsD (fstD tr)).length = true ∧ laysD ly (itsD (fstD tr)).length = true ∧ rowsD ou (lenD t) (lenD t) (itsD (fstD tr)).length = true ∧ rowD b (lenD t) = true := by
  unfold wrongV at h
  split at h
  · split at h
    · split at h
      · split at h
        · split at h
          · split at h
            · split at h
              · rename_i h1 h2 h3 h4 h5 h6 h7
                exact ⟨h1, h2, h3, h4, h5, h6, h7⟩
              all_goals cases h
            all_goals cases h
          all_goals cases h
        all_goals cases h
      all_goals cases h
    all_goals cases h
  · cases h
theorem lays_no {ly : PyData} {n : Int} (h : laysD ly n = true) : listD ly 1 3 = true ∧ listD (fstD ly) 3 3 = true ∧ listD (fstD (fstD ly)) 1 2 = true := by
  unfold laysD at h
  rw [Bool.and_eq_true, Bool.and_eq_true, Bool.and_eq_true] at h
  refine ⟨h.1, ?_, h.2.2.1⟩
  have e0 := fst_at h.1 (Int.le_refl _)
  exact List.all_eq_true.mp h.2.1 _ (List.mem_map.mpr ⟨_, List.mem_of_getElem? e0, rfl⟩)
theorem listD_len {d : PyData} {l m : Int} (h : listD d l m = true) : l ≤ (itsD d).length ∧ ((itsD d).length : Int) ≤ m := by
  unfold listD at h
  rw [Bool.and_eq_true, Bool.and_eq_true] at h
  exact ⟨of_decide_eq_true h.2.1, of_decide_eq_true h.2.2⟩
end

set_option Elab.async false
set_option linter.all false
set_option maxRecDepth 100000
set_option maxHeartbeats 4000000
open PySem PySem.Spec L2
section
variable {K : PySem.W.Frag}
/-! what the parts of a net are, as data -/
def Sq (K : PySem.W.Frag) (H : Hp) (p : Addr) (xs : List V) : Prop := SqL K H p xs ∨ SqT K H p xs
theorem Sq.same {K : PySem.W.Frag} {H H' : Hp} {p : Addr} {xs : List V} (h : Sq K H p xs) (s : Same H H') : Sq K H' p xs := by
  rcases h with h | h
  · exact .inl (s.seq h)
  · exact .inr (seqT_same s h)
def tI (ns : List Int) : PyData := .tuple (ns.map PyData.int)
def dI (ns : List Int) : PyData := .list (ns.map PyData.int)
def tG (rs : List (List Int)) : PyData := .tuple (rs.map tI)
def dG (rs : List (List Int)) : PyData := .list (rs.map dI)
theorem tI_sq {S : Addr → Prop} {H : Hp} {x : V} {ns : List Int} (h : Dq K S H x (tI ns)) : ∃ b, x = .ref b ∧ Sq K H b (ns.map V.int) := by
  obtain ⟨b, xs, rfl, hb, hs⟩ := h.tup_inv
  exact ⟨b, rfl, .inr (by rw [← dqAll_ints hs]; exact hb)⟩
theorem dI_sq {S : Addr → Prop} {H : Hp} {x : V} {ns : List Int} (h : Dq K S H x (dI ns)) : ∃ b, x = .ref b ∧ Sq K H b (ns.map V.int) ∧ H b = some (.lst (ns.map V.int)) ∧ ¬ S b := by
  obtain ⟨b, xs, rfl, hb, hs, nb⟩ := h.list_inv
  rw [dqAll_ints hs] at hb
  exact ⟨b, rfl, .inl (.of hb), hb, nb⟩
theorem tI_new {S : Addr → Prop} {H H' : Hp} {p : Addr} {ns : List Int} (al : Al S H) (hp : H p = none) (e : H' p = some (.tup (ns.map V.int))) : Dq K S H' (.ref p) (tI ns) := dq_newT (al.no hp) e (dq_ints ns)
abbrev Row := List Int
def Bnd (n : Nat) (b : Int) (r : Row) : Prop := r.length = n ∧ ∀ x ∈ r, -b ≤ x ∧ x ≤ b
theorem Bnd.mono {n : Nat} {c d : Int} {x : Row} (h : Bnd n c x) (hc : c ≤ d) : Bnd n d x := ⟨h.1, fun y hy => by have := h.2 y hy; omega⟩
theorem Dq.bot {S : Addr → Prop} {H : Hp} {x : V} {d : PyData} (h : Dq K S H x d) : Dq K (fun _ => False) H x d := h.tr fun H2 c2 b o _ e => c2 b o (fun z => z) e
abbrev Tb := List Row
abbrev Hd := Tb × Tb × Tb
abbrev Ly := List Hd × Tb × Tb
def dHT (h : Hd) : PyData := .tuple [tG h.1, tG h.2.1, tG h.2.2]
def dLT (l : Ly) : PyData := .tuple [.tuple (l.1.map dHT), tG l.2.1, tG l.2.2]
def TbOk (n : Nat) (t : Tb) : Prop := t.length = n ∧ ∀ r ∈ t, Bnd n 9 r
def HdOk (n : Nat) (h : Hd) : Prop := TbOk n h.1 ∧ TbOk n h.2.1 ∧ TbOk n h.2.2
def LyOk (n k : Nat) (l : Ly) : Prop := l.1.length = k ∧ (∀ h ∈ l.1, HdOk n h) ∧ TbOk n l.2.1 ∧ TbOk n l.2.2
structure Pt where
  tk : Str
  cap : Int
  tr : List Row
  pr : List Row
  ly : List Ly
  ou : List Row
  ba : Row
structure PtOk (n k : Nat) (p : Pt) : Prop where
  tk : toksB p.tk = true
  cp : 1 ≤ p.cap ∧ p.cap ≤ 99
  tr : p.tr.length = p.tk.length ∧ ∀ r ∈ p.tr, Bnd n 9 r
  pr : 1 ≤ p.pr.length ∧ p.pr.length ≤ 6 ∧ ∀ r ∈ p.pr, Bnd n 9 r
  ly : 1 ≤ p.ly.length ∧ p.ly.length ≤ 3 ∧ ∀ l ∈ p.ly, LyOk n k l
  ou : p.ou.length = p.tk.length ∧ ∀ r ∈ p.ou, Bnd n 9 r
  ba : Bnd p.tk.length 9 p.ba
  n4 : 1 ≤ n ∧ n ≤ 4
  k2 : 1 ≤ k ∧ k ≤ 2
def fldT (p : Pt) : List PyData := [.str p.tk, .int p.cap, tG p.tr, tG p.pr, .tuple (p.ly.map dLT), tG p.ou, tI p.ba]
def NetP (K : PySem.W.Frag) (S : Addr → Prop) (H : Hp) (a : Addr) (p : Pt) : Prop := (∃ dx sh tr1 pr1 ly1 ou1 b1, H a = some (.ins (NC K) dx (netF (.str p.tk) (.int p.cap) tr1 pr1 ly1 ou1 b1 (.ref sh))) ∧ Dq K S H tr1 (tG p.tr) ∧ Dq K S H pr1 (tG p.pr) ∧ Dq K S H ly1 (.tuple (p.ly.map dLT)) ∧ Dq K S H ou1 (tG p.ou) ∧ Dq K S H b1 (tI p.ba)) ∧ ¬ S a
theorem NetP.chg {S : Addr → Prop} {H H' : Hp} {a : Addr} {p : Pt} (h : NetP K S H a p) (c : ChgS S H H') : NetP K S H' a p := by
  obtain ⟨⟨dx, sh, _, _, _, _, _, e, h1, h2, h3, h4, h5⟩, n⟩ := h
  exact ⟨⟨dx, sh, _, _, _, _, _, c _ _ n e, h1.chg c, h2.chg c, h3.chg c, h4.chg c, h5.chg c⟩, n⟩
theorem NetP.sm {S : Addr → Prop} {H H' : Hp} {a : Addr} {p : Pt} (h : NetP K S H a p) (s : Same H H') : NetP K S H' a p := h.chg fun b o _ e => s b o e
theorem NetP.in {S : Addr → Prop} {D : Addr} {H H' : Hp} {a : Addr} {p : Pt} (h : NetP K S H a p) (hD : H D = none) (c : ∀ b o, ¬ S b → b ≠ D → H b = some o → H' b = some o) : NetP K (SD S D) H' a p := by
  obtain ⟨⟨dx, sh, _, _, _, _, _, e, h1, h2, h3, h4, h5⟩, n⟩ := h
  have ne := ne_of_none e hD
  exact ⟨⟨dx, sh, _, _, _, _, _, c _ _ n ne e, h1.in hD c, h2.in hD c, h3.in hD c, h4.in hD c, h5.in hD c⟩, fun z => z.elim n ne⟩
theorem NetP.fields {S : Addr → Prop} {H : Hp} {a : Addr} {p : Pt} (h : NetP K S H a p) : ∃ dx sh tr1 pr1 ly1 ou1 b1, H a = some (.ins (NC K) dx (netF (.str p.tk) (.int p.cap) tr1 pr1 ly1 ou1 b1 (.ref sh))) ∧ Dq K S H tr1 (tG p.tr) ∧ Dq K S H pr1 (tG p.pr) ∧ Dq K S H ly1 (.tuple (p.ly.map dLT)) ∧ Dq K S H ou1 (tG p.ou) ∧ Dq K S H b1 (tI p.ba) := h.1
theorem NetO.np {S : Addr → Prop} {H : Hp} {a : Addr} {p : Pt} {w x y z : Int} (h : NetO K S H a (fldT p) w x y z) (n : ¬ S a) : NetP K S H a p := by
  obtain ⟨dx, sh, t1, c1, tr1, pr1, ly1, ou1, b1, e, hd, _⟩ := h.ex
  obtain ⟨_, _, _, _, _, _, _, e2, a1, a2, a3, a4, a5, a6, a7⟩ := dqAll7 hd
  injection e2 with q1 e2
  injection e2 with q2 e2
  injection e2 with q3 e2
  injection e2 with q4 e2
  injection e2 with q5 e2
  injection e2 with q6 e2
  injection e2 with q7 e2
  subst q1 q2 q3 q4 q5 q6 q7
  rw [a1.str_inv, a2.int_inv] at e
  exact ⟨⟨dx, sh, _, _, _, _, _, e, a3, a4, a5, a6, a7⟩, n⟩
theorem getD_mem {α : Type} {xs : List α} {i : Nat} {d : α} (h : i < xs.length) : xs.getD i d ∈ xs ∧ xs[i]? = some (xs.getD i d) := by
  rw [List.getD_eq_getElem?_getD, List.getElem?_eq_getElem h]
  exact ⟨List.getElem_mem _, rfl⟩
end

set_option Elab.async false
set_option linter.all false
set_option maxRecDepth 100000
set_option maxHeartbeats 4000000
/-! fresh copies: data as nested lists, no list twice, with the places of all of them -/
open PySem PySem.Spec L2
mutual
inductive Dx (H : Hp) : V → PyData → List Addr → Prop where
  | non : Dx H .non .none []
  | bl (b : Bool) : Dx H (.bl b) (.bool b) []
  | int (i : Int) : Dx H (.int i) (.int i) []
  | str (x : Str) : Dx H (.str x) (.str x) []
  | lst {b : Addr} {xs : List V} {ds : List PyData} {A : List Addr} : H b = some (.lst xs) → DxAll H xs ds A → b ∉ A → Dx H (.ref b) (.list ds) (b :: A)
inductive DxAll (H : Hp) : List V → List PyData → List Addr → Prop where
  | nil : DxAll H [] [] []
  | cons {v : V} {vs : List V} {d : PyData} {ds : List PyData} {A B : List Addr} : Dx H v d A → DxAll H vs ds B → (∀ a ∈ A, a ∉ B) → DxAll H (v :: vs) (d :: ds) (A ++ B)
end
mutual
theorem Dx.keep {H H' : Hp} : ∀ {v : V} {d : PyData} {A : List Addr}, (∀ a ∈ A, ∀ o, H a = some o → H' a = some o) → Dx H v d A → Dx H' v d A
  | _, _, _, _, .non => .non
  | _, _, _, _, .bl b => .bl b
  | _, _, _, _, .int i => .int i
  | _, _, _, _, .str z => .str z
  | _, _, _, k, .lst h hs n => .lst (k _ List.mem_cons_self _ h) (DxAll.keep (fun a ha => k a (List.mem_cons_of_mem _ ha)) hs) n
theorem DxAll.keep {H H' : Hp} : ∀ {v : List V} {d : List PyData} {A : List Addr}, (∀ a ∈ A, ∀ o, H a = some o → H' a = some o) → DxAll H v d A → DxAll H' v d A
  | _, _, _, _, .nil => .nil
  | _, _, _, k, .cons h hs n => .cons (Dx.keep (fun a ha => k a (List.mem_append_left _ ha)) h) (DxAll.keep (fun a ha => k a (List.mem_append_right _ ha)) hs) n
end
mutual
theorem Dx.dq {K : PySem.W.Frag} {S : Addr → Prop} {H : Hp} : ∀ {v : V} {d : PyData} {A : List Addr}, (∀ a ∈ A, ¬ S a) → Dx H v d A → Dq K S H v d
  | _, _, _, _, .non => .non
  | _, _, _, _, .bl b => .bl b
  | _, _, _, _, .int i => .int i
  | _, _, _, _, .str z => .str z
  | _, _, _, k, .lst h hs n => .lst (fun H' c => c _ _ (k _ List.mem_cons_self) h) (DxAll.dq (fun a ha => k a (List.mem_cons_of_mem _ ha)) hs)
theorem DxAll.dq {K : PySem.W.Frag} {S : Addr → Prop} {H : Hp} : ∀ {v : List V} {d : List PyData} {A : List Addr}, (∀ a ∈ A, ¬ S a) → DxAll H v d A → DqAll K S H v d
  | _, _, _, _, .nil => .nil
  | _, _, _, k, .cons h hs n => .cons (Dx.dq (fun a ha => k a (List.mem_append_left _ ha)) h) (DxAll.dq (fun a ha => k a (List.mem_append_right _ ha)) hs)
end
mutual
theorem Dx.ne {H : Hp} : ∀ {v : V} {d : PyData} {A : List Addr}, Dx H v d A → ∀ a ∈ A, H a ≠ none
  | _, _, _, .non => fun a h => absurd h List.not_mem_nil
  | _, _, _, .bl b => fun a h => absurd h List.not_mem_nil
  | _, _, _, .int i => fun a h => absurd h List.not_mem_nil
  | _, _, _, .str z => fun a h => absurd h List.not_mem_nil
  | _, _, _, .lst h hs n => fun a ha => (List.mem_cons.mp ha).elim (fun e => by rw [e, h]; exact fun z => by cases z) (DxAll.ne hs a)
theorem DxAll.ne {H : Hp} : ∀ {v : List V} {d : List PyData} {A : List Addr}, DxAll H v d A → ∀ a ∈ A, H a ≠ none
  | _, _, _, .nil => fun a h => absurd h List.not_mem_nil
  | _, _, _, .cons h hs n => fun a ha => (List.mem_append.mp ha).elim (Dx.ne h a) (DxAll.ne hs a)
end
theorem DxAll.len {H : Hp} : ∀ {vs : List V} {ds : List PyData} {A : List Addr}, DxAll H vs ds A → vs.length = ds.length
  | _, _, _, .nil => rfl
  | _, _, _, .cons _ hs _ => congrArg Nat.succ (DxAll.len hs)
theorem DxAll.snoc {H : Hp} {v : V} {d : PyData} {B : List Addr} (h : Dx H v d B) : ∀ {vs : List V} {ds : List PyData} {A : List Addr}, DxAll H vs ds A → (∀ a ∈ A, a ∉ B) → DxAll H (vs ++ [v]) (ds ++ [d]) (A ++ B)
  | _, _, _, .nil, _ => by
    have z : DxAll H [v] [d] (B ++ []) := .cons h .nil fun _ _ z => absurd z List.not_mem_nil
    rw [List.append_nil] at z
    exact z
  | _, _, _, .cons (A := A1) (B := B1) h1 hs n, dis => by
    have ih := DxAll.snoc h hs fun a ha => dis a (List.mem_append_right _ ha)
    rw [List.append_assoc]
    exact .cons h1 ih fun a ha hb => (List.mem_append.mp hb).elim (n a ha) (dis a (List.mem_append_left _ ha))
/-- another thing at one place -/
theorem DxAll.put {H : Hp} : ∀ {xs : List V} {ds : List PyData} {A : List Addr} {i : Nat} {d : PyData}, DxAll H xs ds A → ds[i]? = some d → ∃ v B, xs[i]? = some v ∧ Dx H v d B ∧ (∀ a ∈ B, a ∈ A) ∧
    ∀ (K : PySem.W.Frag) (S : Addr → Prop) (H' : Hp) (e : PyData), (∀ a ∈ A, a ∉ B → ¬ S a ∧ ∀ o, H a = some o → H' a = some o) → Dq K S H' v e → DqAll K S H' xs (ds.set i e)
  | _, _, _, 0, d, .cons (A := A1) (B := B1) h hs n, e => by
    obtain rfl := Option.some.inj e
    refine ⟨_, A1, rfl, h, fun a ha => List.mem_append_left _ ha, fun K S H' e k hv => .cons hv ?_⟩
    have k2 := fun a ha => k a (List.mem_append_right _ ha) (fun z => n a z ha)
    exact (hs.keep fun a ha => (k2 a ha).2).dq fun a ha => (k2 a ha).1
  | _, _, _, i + 1, d, .cons (A := A1) (B := B1) h hs n, e => by
    obtain ⟨v, B, h1, h2, h3, h4⟩ := DxAll.put (i := i) hs e
    refine ⟨v, B, h1, h2, fun a ha => List.mem_append_right _ (h3 a ha), fun K S H' e k hv => .cons ?_ (h4 K S H' e (fun a ha nb => k a (List.mem_append_right _ ha) nb) hv)⟩
    have k2 := fun a ha => k a (List.mem_append_left _ ha) (fun z => n a ha (h3 a z))
    exact (h.keep fun a ha => (k2 a ha).2).dq fun a ha => (k2 a ha).1
theorem Dx.list_inv {H : Hp} {v : V} {ds : List PyData} {A : List Addr} (h : Dx H v (.list ds) A) : ∃ b xs B, v = .ref b ∧ A = b :: B ∧ H b = some (.lst xs) ∧ DxAll H xs ds B ∧ b ∉ B := by
  cases h with
  | lst h hs n => exact ⟨_, _, _, rfl, rfl, h, hs, n⟩
section
variable {K : PySem.W.Frag} {S : Addr → Prop} {g : TG} {tt : TT} {te : TE} {vs : List Nat} {σ σ0 : L2.St} {H : Hp} {Q : VK}
theorem coreX {xs : List V} {ds : List PyData} {f : PyData → PyData} (hda : DqAll K S H xs ds) (al : Al S H) (hl : ds.length ≤ 1000)
    (step : ∀ (i : Nat) x d D H' N, ds[i]? = some d → d ∈ ds → H D = none → Same H H' → Al (SD S D) H' → Dq K (SD S D) H' x d →
      (∀ y H3 B, Dx H3 y (f d) B → (∀ a ∈ B, H' a = none) → Same H' H3 → TurnD D N y H3) → Turn1 g tt te vs σ0 D x H' N)
    (done : ∀ P ys H' A, H P = none → H' P = some (.lst ys) → DxAll H' ys (ds.map f) A → (∀ a ∈ A, H a = none) → P ∉ A → Same H H' → Q (.ref P) H') (D : Addr) (hD : H D = none) :
    ∃ Pv : Nat → Hp → Prop, Pv 0 (upd H D (.lst [])) ∧ (∀ i H', Pv i H' → Same H H') ∧ (∀ (i : Nat) x H', xs[i]? = some x → Pv i H' → Turn1 g tt te vs σ0 D x H' (Pv (i + 1))) ∧ ∀ H', Pv xs.length H' → Q (.ref D) H' := by
  refine ⟨fun i H' => ∃ ys A, H' D = some (.lst ys) ∧ Same H H' ∧ DxAll H' ys ((ds.map f).take i) A ∧ (∀ a ∈ A, H a = none) ∧ D ∉ A, ⟨[], [], upd_same, same_new hD, .nil, fun a h => absurd h List.not_mem_nil, List.not_mem_nil⟩, fun i H' ⟨_, _, _, s, _⟩ => s, ?_, ?_⟩
  · rintro i x H' hx ⟨ys, A, e1, s, hy, hA, nD⟩
    obtain ⟨d, hd, hq⟩ := hda.at hx
    have il : i < ds.length := (List.getElem?_eq_some_iff.mp hd).1
    have hal : Al (SD S D) H' := al_sd (al.sm s) (by rw [e1]; exact fun z => by cases z)
    have yl : ys.length ≤ 1000 := by rw [hy.len, List.length_take]; omega
    refine step i x d D H' _ hd (List.mem_of_getElem? hd) hD s hal (hq.in hD fun b o _ _ e => s b o e) fun y H3 B hB nB s3 => ?_
    have nA := hy.ne
    have kD : ∀ a, a ≠ D → ∀ o, H3 a = some o → upd H3 D (.lst (ys ++ [y])) a = some o := fun a n o e => by rw [upd_ne n]; exact e
    have aD : ∀ a ∈ A, a ≠ D := fun a ha z => nD (z ▸ ha)
    have bD : ∀ a ∈ B, a ≠ D := fun a ha z => by rw [z] at ha; have := nB D ha; rw [e1] at this; cases this
    refine g_turnD (s3 _ _ e1) yl ⟨ys ++ [y], A ++ B, upd_same, fun b u e' => by rw [upd_ne (ne_of_none e' hD)]; exact s3 _ _ (s _ _ e'), ?_, ?_, ?_⟩
    · have ef : (ds.map f)[i]? = some (f d) := by rw [List.getElem?_map, hd]; rfl
      rw [List.take_add_one, ef]
      exact DxAll.snoc (hB.keep fun a ha o e => kD a (bD a ha) o e) (hy.keep fun a ha o e => kD a (aD a ha) o (s3 a o e)) fun a ha hb => nA a ha (nB a hb)
    · intro a ha
      rcases List.mem_append.mp ha with ha | ha
      · exact hA a ha
      · cases hh : H a with
        | none => rfl
        | some o => have := s a o hh; rw [nB a ha] at this; cases this
    · intro ha
      rcases List.mem_append.mp ha with ha | ha
      · exact nD ha
      · exact bD D ha rfl
  · rintro H' ⟨ys, A, e1, s, hy, hA, nD⟩
    rw [hda.len, ← List.length_map (f := f), List.take_length] at hy
    exact done D ys H' A hD e1 hy hA nD s
theorem lcX {b : Addr} {xs : List V} {ds : List PyData} {f : PyData → PyData} (c : SqL K H b xs ∨ SqT K H b xs) (hda : DqAll K S H xs ds) (al : Al S H) (hl : ds.length ≤ 1000) (hw : wipe σ vs = σ0)
    (step : ∀ (i : Nat) x d D H' N, ds[i]? = some d → d ∈ ds → H D = none → Same H H' → Al (SD S D) H' → Dq K (SD S D) H' x d →
      (∀ y H3 B, Dx H3 y (f d) B → (∀ a ∈ B, H' a = none) → Same H' H3 → TurnD D N y H3) → Turn1 g tt te vs σ0 D x H' N)
    (done : ∀ P ys H' A, H P = none → H' P = some (.lst ys) → DxAll H' ys (ds.map f) A → (∀ a ∈ A, H a = none) → P ∉ A → Same H H' → Q (.ref P) H') : BR K (fun J H1 => LcG J g tt te vs σ Q H1) (.ref b) H :=
  g_bR c (fun c => lcL (xs := xs) hw fun D hD => by
      obtain ⟨Pv, h0, hs, ht, hd⟩ := coreX hda al hl step done D hD
      exact ⟨Pv, h0, fun i H' _ p => sqL_sm (hs i H' p) c, ht, hd⟩)
    (fun c => lcT (xs := xs) hw fun D hD => by
      obtain ⟨Pv, h0, hs, ht, hd⟩ := coreX hda al hl step done D hD
      exact ⟨Pv, h0, fun i H' _ p => seqT_same (hs i H' p) c, ht, hd⟩)
end

set_option Elab.async false
set_option linter.all false
set_option maxRecDepth 100000
set_option maxHeartbeats 4000000

/-! things drawn with a bag, all made anew -/
open PySem PySem.Spec L2
def New (H : Hp) (A : List Addr) : Prop := ∀ z ∈ A, H z = none
theorem New.nil {H : Hp} : New H [] := fun _ h => absurd h List.not_mem_nil
theorem New.back {a l : Addr} {H H' : Hp} {A : List Addr} (n : New H' A) (c : Chg a H H') (B : Bag H' a l) : New H A := fun z hz => by
  cases h : H z with
  | none => rfl
  | some o =>
    by_cases e : z = a
    · obtain ⟨_, _, _, _, _, e1, _⟩ := B
      have := n z hz
      rw [e, e1] at this
      cases this
    · have := n z hz
      rw [c z o e h] at this
      cases this
theorem New.sm {H H' : Hp} {A : List Addr} (n : New H' A) (s : Same H H') : New H A := fun z hz => by
  cases h : H z with
  | none => rfl
  | some o => have := n z hz; rw [s z o h] at this; cases this
theorem New.ne {a l : Addr} {H : Hp} {A : List Addr} (n : New H A) (B : Bag H a l) : ∀ z ∈ A, z ≠ a := fun z hz e => by
  obtain ⟨_, _, _, _, _, e1, _⟩ := B
  have := n z hz
  rw [e, e1] at this
  cases this
theorem New.app {H : Hp} {A B : List Addr} (n : New H A) (m : New H B) : New H (A ++ B) := fun z hz => (List.mem_append.mp hz).elim (n z) (m z)
theorem New.cons {H : Hp} {p : Addr} {B : List Addr} (n : H p = none) (m : New H B) : New H (p :: B) := fun z hz => (List.mem_cons.mp hz).elim (fun e => by rw [e]; exact n) (m z)
theorem Dx.chg {a : Addr} {H H' : Hp} {v : V} {d : PyData} {A : List Addr} (h : Dx H v d A) (n : ∀ z ∈ A, z ≠ a) (c : Chg a H H') : Dx H' v d A := h.keep fun z hz o e => c z o (n z hz) e
theorem DxAll.chg {a : Addr} {H H' : Hp} {v : List V} {d : List PyData} {A : List Addr} (h : DxAll H v d A) (n : ∀ z ∈ A, z ≠ a) (c : Chg a H H') : DxAll H' v d A := h.keep fun z hz o e => c z o (n z hz) e
theorem Dx.sm {H H' : Hp} {v : V} {d : PyData} {A : List Addr} (h : Dx H v d A) (s : Same H H') : Dx H' v d A := h.keep fun z _ o e => s z o e
theorem DxAll.sm {H H' : Hp} {v : List V} {d : List PyData} {A : List Addr} (h : DxAll H v d A) (s : Same H H') : DxAll H' v d A := h.keep fun z _ o e => s z o e
theorem apart {H0 : Hp} {v : V} {d : PyData} {A B : List Addr} (h : Dx H0 v d A) (n : New H0 B) : ∀ z ∈ A, z ∉ B := fun z hz hb => h.ne z hz (n z hb)
theorem aparts {H0 : Hp} {v : List V} {d : List PyData} {A B : List Addr} (h : DxAll H0 v d A) (n : New H0 B) : ∀ z ∈ A, z ∉ B := fun z hz hb => h.ne z hz (n z hb)
theorem dx_new {H : Hp} {p : Addr} {xs : List V} {ds : List PyData} {A : List Addr} (hp : H p = none) (h : DxAll H xs ds A) : Dx (upd H p (.lst xs)) (.ref p) (.list ds) (p :: A) :=
  .lst upd_same (h.sm (same_new hp)) fun z => h.ne p z hp
theorem dx_ints {H : Hp} : ∀ ns : List Int, DxAll H (ns.map V.int) (ns.map PyData.int) []
  | [] => .nil
  | n :: ns => .cons (A := []) (B := []) (.int n) (dx_ints ns) fun _ z => absurd z List.not_mem_nil
section
variable {K : PySem.W.Frag} {g : TG} {tt : TT} {te : TE} {vs : List Nat} {σ σ0 : L2.St} {H : Hp} {Q : VK}
def StepX (H : Hp) (a l : Addr) (g : TG) (tt : TT) (te : TE) (vs : List Nat) (σ0 : L2.St) (x : V) (R : PyData → Prop) : Prop :=
  ∀ (D : Addr) (H' : Hp) (N : Hp → Prop), H D = none → Bag H' a l → Chg a H H' →
    (∀ e, R e → ∀ y H3 B, Dx H3 y e B → New H' B → Bag H3 a l → Chg a H' H3 → TurnD D N y H3) → Turn1 g tt te vs σ0 D x H' N
theorem lcBX {a l : Addr} {lo : Int} {n : Nat} {R : Nat → PyData → Prop} (B : Bag H a l) (hl : n ≤ 1000) (hw : wipe σ vs = σ0)
    (step : ∀ i : Nat, i < n → StepX H a l g tt te vs σ0 (.int (lo + i)) (R i))
    (done : ∀ p ys es A H', New H (p :: A) → H' p = some (.lst ys) → DxAll H' ys es A → p ∉ A → es.length = n → (∀ (i : Nat) e, es[i]? = some e → R i e) → Bag H' a l → Chg a H H' → Q (.ref p) H') : LcG (Itr lo n) g tt te vs σ Q H :=
  lcR hw fun D hD => by
    obtain ⟨na, nl⟩ := bag_apart B hD
    refine ⟨fun i H' => ∃ ys es A, H' D = some (.lst ys) ∧ Chg a H H' ∧ Bag H' a l ∧ DxAll H' ys es A ∧ New H A ∧ D ∉ A ∧ es.length = i ∧ (∀ (j : Nat) e, es[j]? = some e → R j e), ⟨[], [], [], upd_same, Chg.new hD, bag_new B hD, .nil, New.nil, List.not_mem_nil, rfl, fun j e h => by simp at h⟩, ?_, ?_⟩
    · rintro i H' il ⟨ys, es, A, e1, c, B1, hy, nA, nD, le, hR⟩
      refine step i il D H' _ hD B1 c fun e he y H3 A2 hy3 n2 B3 c3 => ?_
      have nAa := nA.ne B
      have nBa := n2.ne B1
      have kD : ∀ z, z ≠ D → ∀ o, H3 z = some o → upd H3 D (.lst (ys ++ [y])) z = some o := fun z n o e => by rw [upd_ne n]; exact e
      have bD : D ∉ A2 := fun h => by have := n2 D h; rw [e1] at this; cases this
      refine g_turnD (c3 _ _ na e1) (by rw [hy.len]; omega) ⟨ys ++ [y], es ++ [e], A ++ A2, upd_same, fun b u n e' => by rw [upd_ne (ne_of_none e' hD)]; exact c3 _ _ n (c _ _ n e'), bag_chg B3 na nl, ?_, nA.app (n2.back c B1), ?_, by rw [List.length_append, le]; rfl, ?_⟩
      · exact DxAll.snoc (hy3.keep fun z hz o e => kD z (fun q => bD (q ▸ hz)) o e) ((hy.chg nAa c3).keep fun z hz o e => kD z (fun q => nD (q ▸ hz)) o e) fun z hz hb => hy.ne z hz (n2 z hb)
      · exact fun h => (List.mem_append.mp h).elim nD bD
      · intro j e' h
        rcases Nat.lt_or_ge j es.length with hj | hj
        · rw [List.getElem?_append_left hj] at h
          exact hR j e' h
        · rw [List.getElem?_append_right hj] at h
          have j0 : j - es.length = 0 := by
            have := (List.getElem?_eq_some_iff.mp h).1
            simp at this
            omega
          rw [j0] at h
          have ej : j = i := by omega
          rw [ej, ← Option.some.inj h]
          exact he
    · rintro H' ⟨ys, es, A, e1, c, B1, hy, nA, nD, le, hR⟩
      exact done D ys es A H' (New.cons hD nA) e1 hy nD le hR B1 c
end

set_option Elab.async false
set_option linter.all false
set_option maxRecDepth 100000
set_option maxHeartbeats 4000000
open PySem PySem.Spec L2



section
variable {P : Program} {w : World} {K : PySem.W.Frag} {mg : Str → Option Value} {base : Heap}
/-! drawn strings, rows, tables -/
def sgn : List Nat := [33, 34, 35, 36, 38, 39, 40, 41, 42, 43, 44, 45, 46, 47, 48, 49, 50, 51, 52, 53, 54, 55, 56, 57, 58, 59, 60, 61, 62, 63, 64, 65, 66, 67, 68, 69, 70, 71, 72, 73, 74, 75, 76, 77, 78, 79, 80, 81, 82, 83, 84, 85, 86, 87, 88, 89, 90, 91, 92, 93, 94, 95, 96, 97, 98, 99, 100, 101, 102, 103, 104, 105, 106, 107, 108, 109, 110, 111, 112, 113, 114, 115, 116, 117, 118, 119, 120, 121, 122, 123, 124, 125, 126]
def spSigns : Sp := fun vs H Q _ => vs = [] ∧ Q (.str (sOf sgn)) H
theorem ok_signs (T : Top K mg) {f : Addr} {fd : FuncData} (F : FnP K "_law_signs" s__law_signs f fd) : FnOk P w K mg base CX0 1 f fd P__law_signs spSigns := by
  refine F.ok sc__law_signs (fun vs H Q E h => ?_) (fun cdv A outer s H vs Q E hr h => ?_)
  · obtain ⟨rfl, _⟩ := h
    rfl
  · obtain ⟨rfl, q⟩ := h
    refine ⟨_, PSs.nox (pss_one (ps_ret pe_str)), ?_⟩
    try simp only [cxK]
    rw [show L2.start N__law_signs [] = [] from rfl]
    walk_at "go"
    exact q
theorem c_signs (T : Top K mg) : Cal P w K mg base "_law_signs" 1 P__law_signs spSigns := cal_mk T.f__law_signs (ok_signs T) (fun F => F.bindsN fun _ _ _ _ _ _ us hl => match us, hl with | [], _ => rfl)
theorem toks_of {cs : List Nat} (h2 : 2 ≤ cs.length) (h6 : cs.length ≤ 6) (nd : cs.Nodup) (ok : ∀ c ∈ cs, canTok c = true) : toksB (sOf cs) = true := by
  have sz : (sOf cs).cps.size = cs.length := sOf_len cs
  have tl : (sOf cs).cps.toList = cs := by simp [sOf]
  have n2 : (chrs (sOf cs)).Nodup := by
    unfold chrs
    rw [tl]
    refine List.Pairwise.map _ (fun a b h e => h ?_) nd
    injection e with e
    have := congrArg Array.toList e
    simpa using this
  have ml : (met (chrs (sOf cs))).length = cs.length := by
    rw [(met_len _).2.mpr n2, chrs_len, sz]
  unfold toksB
  rw [sz, ml, tl, decide_eq_true h2, decide_eq_true h6, decide_eq_true rfl, Bool.true_and, Bool.true_and, Bool.true_and, List.all_eq_true]
  intro b hb
  obtain ⟨c, hc, rfl⟩ := List.mem_map.mp hb
  exact ok c hc
theorem none_sm {H H' : Hp} {D : Addr} (s : Same H H') (h : H' D = none) : H D = none := by
  cases e : H D with
  | none => rfl
  | some o => rw [s _ _ e] at h; cases h
theorem flat1 : ∀ out : List Nat, (out.map fun c => [c]).flatten = out
  | [] => rfl
  | c :: r => by rw [List.map_cons, List.flatten_cons, flat1 r]; rfl
def spString : Sp := fun vs H Q _ => ∃ (a l : Addr) (n : Nat), vs = [.ref a, .int (n : Nat)] ∧ Bag H a l ∧ 2 ≤ n ∧ n ≤ 6 ∧ ∀ (z : Str) (H' : Hp), toksB z = true → z.length = n → Bag H' a l → Chg a H H' → Q (.str z) H'
theorem g_string {a l : Addr} {n : Nat} {H : Hp} {Q : VK} {E : XK} (B : Bag H a l) (h2 : 2 ≤ n) (h6 : n ≤ 6) (q : ∀ (z : Str) (H' : Hp), toksB z = true → z.length = n → Bag H' a l → Chg a H H' → Q (.str z) H') : spString [.ref a, .int (n : Nat)] H Q E := ⟨a, l, n, rfl, B, h2, h6, q⟩
theorem ok_string (T : Top K mg) {f : Addr} {fd : FuncData} (F : FnP K "_law_string" s__law_string f fd) : FnOk P w K mg base CX0 3 f fd P__law_string spString := by
  have C__law_draw := c_draw1 (P := P) (w := w) (base := base) T
  have C__law_of := c_of (P := P) (w := w) (base := base) T
  have C__law_signs := c_signs (P := P) (w := w) (base := base) T
  refine F.ok sc__law_string (fun vs H Q E h => ?_) (fun cdv A outer s H vs Q E hr h => ?_)
  · obtain ⟨a, l, n, rfl, _⟩ := h
    rfl
  · obtain ⟨a, l, n, rfl, B, h2, h6, q⟩ := h
    refine ⟨_, PSs.nox (pss_cons (ps_set (i := 2) sc__law_string.nd rfl (by first | exact Or.inl rfl | exact Or.inr rfl) (pe_callTy (c_listS (by rfl)) (by rfl) T.z_list (by decide +kernel) (pa_cons (pe_cal C__law_of (hr.mono (by first | decide | omega)) (by rfl) (pa_cons (pv 0) (pa_cons (pe_lst (pa_cons (pe_cal0 C__law_signs (hr.mono (by first | decide | omega)) (by rfl)) (pa_cons (pe_cal0 C__law_signs (hr.mono (by first | decide | omega)) (by rfl)) (pa_cons pe_str (pa_cons pe_str pa_nil))))) pa_nil))) pa_nil)))
    (pss_one (ps_ret (k_join (K := K) (by rfl) pe_str (pe_lc (own := [("k", 3)]) (g := gName 3) (by rfl) sc__law_string.nd (pi_range1 (by rfl) T.z_range (pa_cons (pv 1) pa_nil)) (blkOk_by (own := [("k", 3)]) (N := N__law_string) (sc := defScope s__law_string) (by decide +kernel)) (fun _ _ _ _ _ => pg_name (i := 3) sc__law_string.nd rfl (by first | exact Or.inl rfl | exact Or.inr rfl)) (fun _ _ _ _ _ => pts_nil) (fun _ _ _ _ _ => (k_bm (K := K) (by rfl) PySem.F.plainAttrs_list PySem.F.slot_list_pop PySem.F.type_list_pop mt_popAt (pv 2) (pa_cons (pe_cal C__law_draw (hr.mono (by first | decide | omega)) (by rfl) (pa_cons (pv 0) (pa_cons (pe_callB (k_len (K := K) (by rfl)) (by rfl) T.z_len (by decide +kernel) (pa_cons (pv 2) pa_nil)) pa_nil))) pa_nil)))))))), ?_⟩
    try simp only [cxK]
    rw [show L2.start N__law_string [.ref a, .int (n : Nat)] = [some (.ref a), some (.int (n : Nat)), none, none] from rfl]
    walk_at "go"
    refine ⟨rfl, ?_⟩
    walk_at "go"
    refine ⟨rfl, ?_⟩
    walk_at "go"
    rename_i tl htl
    have s1 : Same H (upd H tl (.lst [.str (sOf sgn), .str (sOf sgn), .str (Str.ofString ".abcdefgh"), .str (Str.ofString "-*/+10=:")])) := same_new htl
    refine g_of (bag_new B htl) upd_same (bag_apart B htl).1 ⟨by decide, by decide⟩ fun x H2 hx B2 c2 => ?_
    obtain ⟨cs, rfl, c8, c100, nd, ok⟩ : ∃ cs : List Nat, x = .str (sOf cs) ∧ 8 ≤ cs.length ∧ cs.length ≤ 100 ∧ cs.Nodup ∧ ∀ c ∈ cs, canTok c = true := by
      simp only [List.mem_cons, List.not_mem_nil, or_false] at hx
      rcases hx with rfl | rfl | rfl | rfl
      · exact ⟨sgn, rfl, by decide, by decide, by decide, by decide⟩
      · exact ⟨sgn, rfl, by decide, by decide, by decide, by decide⟩
      · exact ⟨[46, 97, 98, 99, 100, 101, 102, 103, 104], rfl, by decide, by decide, by decide, by decide⟩
      · exact ⟨[45, 42, 47, 43, 49, 48, 61, 58], rfl, by decide, by decide, by decide, by decide⟩
    clear hx
    have cA : Chg a H H2 := (sm_chg s1).trans c2
    have nE : (chrs (sOf cs)).map V.str = cs.map fun c => V.str (sOf [c]) := by
      unfold chrs
      rw [List.map_map, show (sOf cs).cps.toList = cs from by simp [sOf]]
      rfl
    walk_at "go"
    refine g_listS (by rw [show (sOf cs).cps.size = cs.length from sOf_len cs]; omega) fun L hL => ?_
    rw [nE]
    have B1 := bag_new (o := .lst (cs.map fun c => V.str (sOf [c]))) B2 hL
    obtain ⟨nLa, nLl⟩ := bag_apart B2 hL
    have s0 : Same H2 (upd H2 L (.lst (cs.map fun c => V.str (sOf [c])))) := same_new hL
    have eL : (upd H2 L (.lst (cs.map fun c => V.str (sOf [c])))) L = some (.lst (cs.map fun c => V.str (sOf [c]))) := upd_same
    generalize upd H2 L (.lst (cs.map fun c => V.str (sOf [c]))) = H1 at B1 s0 eL ⊢
    walk_at "go"
    rw [Int.toNat_natCast]
    refine lcR (n := n) (σ0 := [some (.ref a), some (.int (n : Nat)), some (.ref L), none]) rfl fun D hD => ⟨fun j H' => ∃ out rest : List Nat, H' D = some (.lst (out.map fun c => V.str (sOf [c]))) ∧ H' L = some (.lst (rest.map fun c => V.str (sOf [c]))) ∧ (out ++ rest).Perm cs ∧ out.length = j ∧ Bag H' a l ∧ ∀ b o, b ≠ a → b ≠ D → b ≠ L → H1 b = some o → H' b = some o, ?_, ?_, ?_⟩
    · have nDL : D ≠ L := Ne.symm (ne_of_none eL hD)
      exact ⟨[], cs, upd_same, by rw [upd_ne (Ne.symm nDL)]; exact eL, .refl _, rfl, bag_new B1 hD, fun b o _ nd _ z => by rw [upd_ne nd]; exact z⟩
    · rintro j H2 hj ⟨out, rest, e1, e2, pm, ol, B2, c2⟩
      obtain ⟨nDa, nDl⟩ := bag_apart B1 hD
      have nDL : D ≠ L := Ne.symm (ne_of_none eL hD)
      have pl := pm.length_eq
      rw [List.length_append] at pl
      walk_at "go"
      rw [List.length_map]
      refine g_drawB B2 ⟨by omega, by omega⟩ fun d H3 da db B3 c3 => ?_
      have f1 := c3 _ _ nDa e1
      have f2 := c3 _ _ nLa e2
      obtain ⟨m, rfl⟩ : ∃ m : Nat, d = (m : Int) := ⟨d.toNat, by omega⟩
      have ml : m < rest.length := by omega
      walk_at "go"
      refine ⟨L, rest.map fun c => V.str (sOf [c]), m, m, .str (sOf [rest[m]]), rfl, rfl, f2, by omega, by omega, ?_, ?_, ?_⟩
      · rw [List.length_map]
        exact seqIx_nat ml
      · rw [List.getElem?_map, List.getElem?_eq_getElem ml]
        rfl
      have g1 : (upd H3 L (.lst ((rest.map fun c => V.str (sOf [c])).eraseIdx m))) D = some (.lst (out.map fun c => V.str (sOf [c]))) := by rw [upd_ne nDL]; exact f1
      refine g_turnD g1 (by rw [List.length_map]; omega) ⟨out ++ [rest[m]], rest.eraseIdx m, by rw [upd_same, List.map_append]; rfl, ?_, ?_, by rw [List.length_append, ol]; rfl, bag_chg (bag_chg B3 nLa nLl) nDa nDl, fun b o na nd nl z => by rw [upd_ne nd, upd_ne nl]; exact c3 _ _ na (c2 b o na nd nl z)⟩
      · rw [upd_ne (Ne.symm nDL), upd_same, er_map]
      · refine .trans ?_ pm
        rw [List.append_assoc]
        exact .append_left _ (pick_permG rest m ml)
    rintro H3 ⟨out, rest, e1, e2, pm, ol, B3, c3⟩
    have hDn := none_sm s0 hD
    have om : ∀ c ∈ out, c ∈ cs := fun c hc => pm.mem_iff.mp (List.mem_append_left _ hc)
    have on : out.Nodup := (List.nodup_append.mp (pm.nodup_iff.mpr nd)).1
    have eo : out.map (fun c => V.str (sOf [c])) = (out.map fun c => sOf [c]).map V.str := by rw [List.map_map]; rfl
    rw [eo] at e1
    walk_at "go"
    refine ⟨_, _, _, rfl, rfl, .inl (.of e1), ?_, ?_⟩
    · have h1 : ((out.map fun c => sOf [c]).map fun x => x.length).sum ≤ ((out.map fun c => sOf [c]).map fun x => x.length).length * 1 := sum_le fun x hx => by
        obtain ⟨z, hz, rfl⟩ := List.mem_map.mp hx
        obtain ⟨c, _, rfl⟩ := List.mem_map.mp hz
        rw [sOf_len]
        exact Nat.le_refl _
      rw [List.length_map, List.length_map] at h1
      rw [List.length_map, show (Str.ofString "").length = 0 from rfl]
      omega
    have ej : Txt.join (Str.ofString "") (out.map fun c => sOf [c]) = sOf out := by
      have := join_e (out.map fun c => [c])
      rw [List.map_map, flat1] at this
      exact this
    rw [ej]
    refine q _ _ (toks_of (by omega) (by omega) on fun c hc => ok c (om c hc)) (by rw [sOf_len]; exact ol) B3 fun b o nb z => c3 _ _ nb (ne_of_none (cA b o nb z) hDn) (ne_of_none (cA b o nb z) hL) (s0 _ _ (cA b o nb z))
theorem c_string (T : Top K mg) : Cal P w K mg base "_law_string" 3 P__law_string spString := cal_mk T.f__law_string (ok_string T) (fun F => F.bindsN fun _ _ _ _ _ _ us hl => match us, hl with | [_, _], _ => rfl)
def spRowL : Sp := fun vs H Q _ => ∃ (a l : Addr) (n : Nat) (wd : Int), vs = [.ref a, .int (n : Nat), .int wd] ∧ Bag H a l ∧ n ≤ 900 ∧ 0 ≤ wd ∧ wd ≤ 9 ∧
  ∀ (y : V) (r : Row) (A : List Addr) (H' : Hp), Dx H' y (dI r) A → New H A → Bnd n wd r → Bag H' a l → Chg a H H' → Q y H'
theorem g_rowX {a l : Addr} {n : Nat} {wd : Int} {H : Hp} {Q : VK} {E : XK} (B : Bag H a l) (hn : n ≤ 900) (h0 : 0 ≤ wd) (h9 : wd ≤ 9)
    (q : ∀ (y : V) (r : Row) (A : List Addr) (H' : Hp), Dx H' y (dI r) A → New H A → Bnd n wd r → Bag H' a l → Chg a H H' → Q y H') : spRowL [.ref a, .int (n : Nat), .int wd] H Q E := ⟨a, l, n, wd, rfl, B, hn, h0, h9, q⟩
theorem g_rowL {S : Addr → Prop} {a l : Addr} {n : Nat} {wd : Int} {H : Hp} {Q : VK} {E : XK} (B : Bag H a l) (sa : S a) (al : Al S H) (hn : n ≤ 900) (h0 : 0 ≤ wd) (h9 : wd ≤ 9)
    (q : ∀ (y : V) (r : Row) (H' : Hp), Dq K S H' y (dI r) → Bnd n wd r → Bag H' a l → Chg a H H' → Q y H') : spRowL [.ref a, .int (n : Nat), .int wd] H Q E :=
  g_rowX B hn h0 h9 fun y r A H' h n b B c => q y r H' (h.dq fun z hz => al.no (n z hz)) b B c
theorem ok_rowL (T : Top K mg) {f : Addr} {fd : FuncData} (F : FnP K "_law_row" s__law_row f fd) : FnOk P w K mg base CX0 2 f fd P__law_row spRowL := by
  have C__law_draw := c_draw1 (P := P) (w := w) (base := base) T
  refine F.ok sc__law_row (fun vs H Q E h => ?_) (fun cdv A outer s H vs Q E hr h => ?_)
  · obtain ⟨a, l, n, wd, rfl, _⟩ := h
    rfl
  · obtain ⟨a, l, n, wd, rfl, B, hn, h0, h9, q⟩ := h
    refine ⟨_, PSs.nox (pss_one (ps_ret (pe_lc (own := [("k", 3)]) (g := gName 3) (by rfl) sc__law_row.nd (pi_range1 (by rfl) T.z_range (pa_cons (pv 1) pa_nil)) (blkOk_by (own := [("k", 3)]) (N := N__law_row) (sc := defScope s__law_row) (by decide +kernel)) (fun _ _ _ _ _ => pg_name (i := 3) sc__law_row.nd rfl (by first | exact Or.inl rfl | exact Or.inr rfl)) (fun _ _ _ _ _ => pts_nil) (fun _ _ _ _ _ => (pe_op op_sub (pe_cal C__law_draw (hr.mono (by first | decide | omega)) (by rfl) (pa_cons (pv 0) (pa_cons (pe_op op_add (pe_op op_mul pe_int (pv 2)) pe_int) pa_nil))) (pv 2)))))), ?_⟩
    try simp only [cxK]
    rw [show L2.start N__law_row [.ref a, .int (n : Nat), .int wd] = [some (.ref a), some (.int (n : Nat)), some (.int wd), none] from rfl]
    walk_at "go"
    rw [Int.toNat_natCast]
    refine lcBX (R := fun _ e => ∃ i : Int, e = .int i ∧ (-wd ≤ i ∧ i ≤ wd)) B (by omega) (σ0 := [some (.ref a), some (.int (n : Nat)), some (.int wd), none]) rfl (fun i hi D H' N hD B1 c1 k => ?_) (fun R ys es A H' nA hL hds hR le he B1 c1 => ?_)
    · walk_at "go"
      refine g_drawB B1 ⟨by omega, by omega⟩ fun d H2 da db B2 c2 => ?_
      walk_at "go"
      exact k _ ⟨_, rfl, by omega, by omega⟩ _ _ [] (.int _) New.nil B2 c2
    · obtain ⟨r, rfl, hr⟩ := gather he
      rw [List.length_map] at le
      exact q _ r _ _ (.lst hL hds hR) nA ⟨le, hr⟩ B1 c1
theorem c_rowL (T : Top K mg) : Cal P w K mg base "_law_row" 2 P__law_row spRowL := cal_mk T.f__law_row (ok_rowL T) (fun F => F.bindsN fun _ _ _ _ _ _ us hl => match us, hl with | [_, _, _], _ => rfl)
def spGridL : Sp := fun vs H Q _ => ∃ (a l : Addr) (n : Nat) (wd : Int), vs = [.ref a, .int (n : Nat), .int wd] ∧ Bag H a l ∧ n ≤ 900 ∧ 0 ≤ wd ∧ wd ≤ 9 ∧
  ∀ (y : V) (t : Tb) (A : List Addr) (H' : Hp), Dx H' y (dG t) A → New H A → TbOk n t → Bag H' a l → Chg a H H' → Q y H'
theorem g_gridX {a l : Addr} {n : Nat} {wd : Int} {H : Hp} {Q : VK} {E : XK} (B : Bag H a l) (hn : n ≤ 900) (h0 : 0 ≤ wd) (h9 : wd ≤ 9)
    (q : ∀ (y : V) (t : Tb) (A : List Addr) (H' : Hp), Dx H' y (dG t) A → New H A → TbOk n t → Bag H' a l → Chg a H H' → Q y H') : spGridL [.ref a, .int (n : Nat), .int wd] H Q E := ⟨a, l, n, wd, rfl, B, hn, h0, h9, q⟩
theorem ok_gridL (T : Top K mg) {f : Addr} {fd : FuncData} (F : FnP K "_law_grid" s__law_grid f fd) : FnOk P w K mg base CX0 3 f fd P__law_grid spGridL := by
  have C__law_row := c_rowL (P := P) (w := w) (base := base) T
  refine F.ok sc__law_grid (fun vs H Q E h => ?_) (fun cdv A outer s H vs Q E hr h => ?_)
  · obtain ⟨a, l, n, wd, rfl, _⟩ := h
    rfl
  · obtain ⟨a, l, n, wd, rfl, B, hn, h0, h9, q⟩ := h
    refine ⟨_, PSs.nox (pss_one (ps_ret (pe_lc (own := [("k", 3)]) (g := gName 3) (by rfl) sc__law_grid.nd (pi_range1 (by rfl) T.z_range (pa_cons (pv 1) pa_nil)) (blkOk_by (own := [("k", 3)]) (N := N__law_grid) (sc := defScope s__law_grid) (by decide +kernel)) (fun _ _ _ _ _ => pg_name (i := 3) sc__law_grid.nd rfl (by first | exact Or.inl rfl | exact Or.inr rfl)) (fun _ _ _ _ _ => pts_nil) (fun _ _ _ _ _ => (pe_cal C__law_row (hr.mono (by first | decide | omega)) (by rfl) (pa_cons (pv 0) (pa_cons (pv 1) (pa_cons (pv 2) pa_nil)))))))), ?_⟩
    try simp only [cxK]
    rw [show L2.start N__law_grid [.ref a, .int (n : Nat), .int wd] = [some (.ref a), some (.int (n : Nat)), some (.int wd), none] from rfl]
    walk_at "go"
    rw [Int.toNat_natCast]
    refine lcBX (R := fun _ e => ∃ r : Row, e = dI r ∧ Bnd n 9 r) B (by omega) (σ0 := [some (.ref a), some (.int (n : Nat)), some (.int wd), none]) rfl (fun i hi D H' N hD B1 c1 k => ?_) (fun R ys es A H' nA hL hds hR le he B1 c1 => ?_)
    · walk_at "go"
      refine g_rowX B1 hn h0 h9 fun y r A2 H2 hy n2 br B2 c2 => ?_
      exact k _ ⟨r, rfl, br.mono h9⟩ _ _ _ hy n2 B2 c2
    · obtain ⟨t, rfl, ht⟩ := gather he
      rw [List.length_map] at le
      exact q _ t _ _ (.lst hL hds hR) nA ⟨le, ht⟩ B1 c1
theorem c_gridL (T : Top K mg) : Cal P w K mg base "_law_grid" 3 P__law_grid spGridL := cal_mk T.f__law_grid (ok_gridL T) (fun F => F.bindsN fun _ _ _ _ _ _ us hl => match us, hl with | [_, _, _], _ => rfl)
def dHL (h : Hd) : PyData := .list [dG h.1, dG h.2.1, dG h.2.2]
def dLL (l : Ly) : PyData := .list [.list (l.1.map dHL), dG l.2.1, dG l.2.2]
def spHeadL : Sp := fun vs H Q _ => ∃ (a l : Addr) (n : Nat) (wd : Int), vs = [.ref a, .int (n : Nat), .int wd] ∧ Bag H a l ∧ n ≤ 900 ∧ 0 ≤ wd ∧ wd ≤ 9 ∧
  ∀ (y : V) (h : Hd) (A : List Addr) (H' : Hp), Dx H' y (dHL h) A → New H A → HdOk n h → Bag H' a l → Chg a H H' → Q y H'
theorem g_headX {a l : Addr} {n : Nat} {wd : Int} {H : Hp} {Q : VK} {E : XK} (B : Bag H a l) (hn : n ≤ 900) (h0 : 0 ≤ wd) (h9 : wd ≤ 9)
    (q : ∀ (y : V) (h : Hd) (A : List Addr) (H' : Hp), Dx H' y (dHL h) A → New H A → HdOk n h → Bag H' a l → Chg a H H' → Q y H') : spHeadL [.ref a, .int (n : Nat), .int wd] H Q E := ⟨a, l, n, wd, rfl, B, hn, h0, h9, q⟩
/-- three made one after the other, and a list of them -/
theorem dx_three {a l p : Addr} {H H1 H2 H3 : Hp} {y1 y2 y3 : V} {d1 d2 d3 : PyData} {A1 A2 A3 : List Addr} (B : Bag H a l) (B1 : Bag H1 a l) (B2 : Bag H2 a l) (h1 : Dx H1 y1 d1 A1) (n1 : New H A1) (c1 : Chg a H H1) (h2 : Dx H2 y2 d2 A2) (n2 : New H1 A2) (c2 : Chg a H1 H2) (h3 : Dx H3 y3 d3 A3) (n3 : New H2 A3) (c3 : Chg a H2 H3) (hp : H3 p = none) :
    Dx (upd H3 p (.lst [y1, y2, y3])) (.ref p) (.list [d1, d2, d3]) (p :: (A1 ++ (A2 ++ (A3 ++ [])))) ∧ (Bag H3 a l → New H (p :: (A1 ++ (A2 ++ (A3 ++ []))))) := by
  have n12 := n1.ne B
  have n22 := n2.ne B1
  have g1 := (h1.chg n12 c2).chg n12 c3
  have g2 := h2.chg n22 c3
  refine ⟨dx_new hp (.cons g1 (.cons g2 (.cons h3 .nil fun _ _ z => absurd z List.not_mem_nil) fun z hz hb => ?_) fun z hz hb => ?_), fun B3 => ?_⟩
  · rw [List.append_nil] at hb
    exact apart h2 n3 z hz hb
  · rw [List.append_nil] at hb
    rcases List.mem_append.mp hb with hb | hb
    · exact apart h1 n2 z hz hb
    · exact apart (h1.chg n12 c2) n3 z hz hb
  · have m3 := (n3.back c2 B2).back c1 B1
    have pn : New H [p] := New.back (New.back (New.back (New.cons hp New.nil) c3 B3) c2 B2) c1 B1
    rw [List.append_nil]
    exact New.cons (pn p List.mem_cons_self) (n1.app ((n2.back c1 B1).app m3))
theorem ok_headL (T : Top K mg) {f : Addr} {fd : FuncData} (F : FnP K "_law_head" s__law_head f fd) : FnOk P w K mg base CX0 4 f fd P__law_head spHeadL := by
  have C__law_draw := c_draw1 (P := P) (w := w) (base := base) T
  have C__law_grid := c_gridL (P := P) (w := w) (base := base) T
  refine F.ok sc__law_head (fun vs H Q E h => ?_) (fun cdv A outer s H vs Q E hr h => ?_)
  · obtain ⟨a, l, n, wd, rfl, _⟩ := h
    rfl
  · obtain ⟨a, l, n, wd, rfl, B, hn, h0, h9, q⟩ := h
    refine ⟨_, PSs.nox (pss_cons (ps_set (i := 3) sc__law_head.nd rfl (by first | exact Or.inl rfl | exact Or.inr rfl) (pe_cal C__law_draw (hr.mono (by first | decide | omega)) (by rfl) (pa_cons (pv 0) (pa_cons pe_int pa_nil))))
    (pss_cons (ps_set (i := 4) sc__law_head.nd rfl (by first | exact Or.inl rfl | exact Or.inr rfl) (pe_cal C__law_grid (hr.mono (by first | decide | omega)) (by rfl) (pa_cons (pv 0) (pa_cons (pv 1) (pa_cons (pe_ifExp (pt_cmpR op_eq (pv 3) pe_int (nomark _)) pe_int (pv 2)) pa_nil)))))
    (pss_one (ps_ret (pe_lst (pa_cons (pv 4) (pa_cons (pe_cal C__law_grid (hr.mono (by first | decide | omega)) (by rfl) (pa_cons (pv 0) (pa_cons (pv 1) (pa_cons (pe_ifExp (pt_cmpR (k_in (K := K) (by rfl)) (pv 3) (pe_tup (pa_cons pe_int (pa_cons pe_int pa_nil))) (by first | rfl | exact nomark _)) pe_int (pv 2)) pa_nil)))) (pa_cons (pe_cal C__law_grid (hr.mono (by first | decide | omega)) (by rfl) (pa_cons (pv 0) (pa_cons (pv 1) (pa_cons (pv 2) pa_nil)))) pa_nil)))))))), ?_⟩
    try simp only [cxK]
    rw [show L2.start N__law_head [.ref a, .int (n : Nat), .int wd] = [some (.ref a), some (.int (n : Nat)), some (.int wd), none, none] from rfl]
    walk_at "go"
    refine g_drawB B ⟨by omega, by omega⟩ fun d H1 da db B1 c1 => ?_
    walk_at "go"
    refine g_iteD (fun _ => ?_) (fun _ => ?_) <;>
    · walk_at "go"
      refine g_gridX B1 hn (by omega) (by omega) fun y1 t1 A1 H2 hy1 n1 ht1 B2 c2 => ?_
      walk_at "go"
      rename_i tp htp
      have B3 := bag_new (o := .tup [.int 1, .int 2]) B2 htp
      have s3 : Same H2 (upd H2 tp (.tup [.int 1, .int 2])) := same_new htp
      refine g_inI (ns := [1, 2]) (.inr (.of upd_same)) ?_
      generalize upd H2 tp (.tup [.int 1, .int 2]) = H3 at B3 s3 ⊢
      walk_at "go"
      refine g_iteD (fun _ => ?_) (fun _ => ?_) <;>
      · walk_at "go"
        refine g_gridX B3 hn (by omega) (by omega) fun y2 t2 A2 H4 hy2 n2 ht2 B4 c4 => ?_
        walk_at "go"
        refine g_gridX B4 hn (by omega) (by omega) fun y3 t3 A3 H5 hy3 n3 ht3 B5 c5 => ?_
        walk_at "go"
        rename_i p hp
        obtain ⟨x1, x2⟩ := dx_three B1 B3 B4 (hy1.sm s3) n1 (c2.trans (sm_chg s3)) hy2 n2 c4 hy3 n3 c5 hp
        exact q _ (t1, t2, t3) _ _ x1 ((x2 B5).back c1 B1) ⟨ht1, ht2, ht3⟩ (bag_new B5 hp) ((((c1.trans (c2.trans (sm_chg s3))).trans c4).trans c5).trans (Chg.new hp))
theorem c_headL (T : Top K mg) : Cal P w K mg base "_law_head" 4 P__law_head spHeadL := cal_mk T.f__law_head (ok_headL T) (fun F => F.bindsN fun _ _ _ _ _ _ us hl => match us, hl with | [_, _, _], _ => rfl)
end

set_option Elab.async false
set_option linter.all false
set_option maxRecDepth 100000
set_option maxHeartbeats 4000000
open PySem PySem.Spec L2



local macro_rules | `(tactic| walk_at "s") => `(tactic| first
  | ((with_reducible refine' g_ownBin ?k1 ?k2 ?_); (case k1 => walk_at "h"); (case k2 => walk_at "h"))
  | ((with_reducible refine' g_ownUn ?k1 ?_); (case k1 => walk_at "h"))
  | ((with_reducible refine' g_isiO ?k1 ?k2 ?k3 ?k4 ?_); (case k1 => walk_at "h"); (case k2 => (with_reducible assumption)); (case k3 => (with_reducible assumption)); (case k4 => (with_reducible assumption)))
  | ((with_reducible refine' g_isiB ?k1 ?k2 ?_); (case k1 => walk_at "ty"); (case k2 => (with_reducible assumption)))
  | ((with_reducible refine' g_revR ?k1 ?_); (case k1 => walk_at "l"); intro p hp))


section
variable {P : Program} {w : World} {K : PySem.W.Frag} {mg : Str → Option Value} {base : Heap}
/-! the law's own look at data -/
theorem ok_lnum (T : Top K mg) {f : Addr} {fd : FuncData} (F : FnP K "_law_is_number" s__law_is_number f fd) : FnOk P w K mg base CX0 1 f fd P__law_is_number (spIsN K) := by
  refine F.ok sc__law_is_number (fun vs H Q E h => ?_) (fun cdv A outer s H vs Q E hr h => ?_)
  · obtain ⟨x, d, l, m, rfl, _⟩ := h
    rfl
  · obtain ⟨x, d, l, m, rfl, hx, q⟩ := h
    refine ⟨_, PSs.nox (pss_one (ps_ret (pe_and (pe_callB (k_isi (K := K) (by rfl)) (by rfl) T.z_isinstance (by decide +kernel) (pa_cons (pv 0) (pa_cons (pe_bltn (v := .ty "int") (u := .type "int") (by rfl) T.z_int (by decide +kernel) rfl) pa_nil))) (pe_and (pe_not (pe_callB (k_isi (K := K) (by rfl)) (by rfl) T.z_isinstance (by decide +kernel) (pa_cons (pv 0) (pa_cons (pe_bltn (v := .ty "bool") (u := .type "bool") (by rfl) T.z_bool (by decide +kernel) rfl) pa_nil)))) (pe_one (pe_chain op_le op_le (pv 1) (pv 0) (pv 2))))))), ?_⟩
    rw [show L2.start N__law_is_number [x, .int l, .int m] = [some x, some (.int l), some (.int m)] from rfl]
    cases hx with
    | int i =>
      walk_at "go"
      have e : isNum (.int i) l m = (decide (l ≤ i) && decide (i ≤ m)) := rfl
      rw [e] at q
      refine g_iteD (fun h1 => ?_) (fun h1 => ?_)
      · walk_at "go"
        rw [decide_eq_true h1, Bool.true_and] at q
        exact q
      · rw [decide_eq_false h1, Bool.false_and] at q
        exact q
    | non =>
      walk_at "go"
      exact q
    | bl b =>
      walk_at "go"
      exact q
    | str b =>
      walk_at "go"
      exact q
    | lst hs hd =>
      walk_at "go"
      exact q
    | tup hs hd =>
      walk_at "go"
      exact q
theorem c_lnum (T : Top K mg) : Cal P w K mg base "_law_is_number" 1 P__law_is_number (spIsN K) := cal_mk T.f__law_is_number (ok_lnum T) (fun F => F.bindsN fun _ _ _ _ _ _ us hl => match us, hl with | [_, _, _], _ => rfl)
theorem listD_eq {d : PyData} {n : Int} : listD d n n = (isSeqD d && decide (((itsD d).length : Int) = n)) := by
  unfold listD
  congr 1
  rw [Bool.eq_iff_iff, Bool.and_eq_true, decide_eq_true_iff, decide_eq_true_iff, decide_eq_true_iff]
  omega
theorem ok_lrow (T : Top K mg) {f : Addr} {fd : FuncData} (F : FnP K "_law_is_row" s__law_is_row f fd) : FnOk P w K mg base CX0 2 f fd P__law_is_row (spVal K rowD) := by
  have C__law_is_number := c_lnum (P := P) (w := w) (base := base) T
  refine F.ok sc__law_is_row (fun vs H Q E h => ?_) (fun cdv A outer s H vs Q E hr h => ?_)
  · obtain ⟨S, x, d, n, rfl, _⟩ := h
    rfl
  · obtain ⟨S, x, d, n, rfl, hx, al, hs, q⟩ := h
    refine ⟨_, PSs.nox (pss_cons (ps_if (PW.pt (pw_or (pt_not (pt_val (pe_callB (k_isiT (K := K) (by rfl)) (by rfl) T.z_isinstance (by decide +kernel) (pa_cons (pv 0) (pa_cons (pe_tup (pa_cons (pe_bltn (v := .ty "list") (u := .type "list") (by rfl) T.z_list (by decide +kernel) rfl) (pa_cons (pe_bltn (v := .ty "tuple") (u := .type "tuple") (by rfl) T.z_tuple (by decide +kernel) rfl) pa_nil))) pa_nil))))) (pw_or1 (pt_cmpR op_ne (pe_callB (k_len (K := K) (by rfl)) (by rfl) T.z_len (by decide +kernel) (pa_cons (pv 0) pa_nil)) (pv 1) (nomark _)))))
    (pss_one (ps_ret pe_bl))
    pss_nil)
    (pss_one (ps_ret (pe_callB (k_all (K := K) (by rfl) (by rfl)) (by rfl) T.z_all (by decide +kernel) (pa_cons (pe_lc (own := [("n", 2)]) (g := gName 2) (by rfl) sc__law_is_row.nd (k_piB (K := K) (by rfl) (pv 0)) (blkOk_by (own := [("n", 2)]) (N := N__law_is_row) (sc := defScope s__law_is_row) (by decide +kernel)) (fun _ _ _ _ _ => pg_name (i := 2) sc__law_is_row.nd rfl (by first | exact Or.inl rfl | exact Or.inr rfl)) (fun _ _ _ _ _ => pts_nil) (fun _ _ _ _ _ => (pe_cal C__law_is_number (hr.mono (by first | decide | omega)) (by rfl) (pa_cons (pv 2) (pa_cons (pe_op op_sub pe_int pe_int) (pa_cons pe_int pa_nil)))))) pa_nil))))), ?_⟩
    try simp only [cxK]
    rw [show L2.start N__law_is_row [x, .int n] = [some x, some (.int n), none] from rfl]
    unfold rowD at q
    rw [listD_eq] at q
    walk_at "go"
    rename_i p hp
    have s1 : Same H (upd H p (.tup [V.ty "list", V.ty "tuple"])) := same_new hp
    refine g_isSeq (hx.sm s1).dp upd_same ?_
    cases hq : isSeqD d with
    | false =>
      walk_at "go"
      rw [hq, Bool.false_and, Bool.false_and] at q
      exact q _ s1
    | true =>
      rw [hq, Bool.true_and] at q
      walk_at "go"
      refine g_lenQ (hx.sm s1) hq ?_
      walk_at "go"
      by_cases hn : ((itsD d).length : Int) = n
      · rw [decide_eq_true hn]
        rw [decide_eq_true hn, Bool.true_and] at q
        walk_at "go"
        refine g_bRQ (hx.sm s1) hq fun b xs e c hds => ?_
        subst e
        refine lcAll (f := fun e => numD e (-9) 9) c hds (al.sm s1) (small_its hs).1 (σ0 := [some (.ref b), some (.int n), none]) rfl (fun i y e D H' N he hm hD s2 al2 hy tr k => ?_) (fun R H2 hR hL s2 => ?_)
        · walk_at "go"
          exact g_isNumQ hy.dp (k _ fun _ _ z => z)
        · walk_at "go"
          exact q _ (s1.trans s2)
      · rw [decide_eq_false hn]
        rw [decide_eq_false hn, Bool.false_and] at q
        walk_at "go"
        exact q _ s1
theorem c_lrow (T : Top K mg) : Cal P w K mg base "_law_is_row" 2 P__law_is_row (spVal K rowD) := cal_mk T.f__law_is_row (ok_lrow T) (fun F => F.bindsN fun _ _ _ _ _ _ us hl => match us, hl with | [_, _], _ => rfl)
def spLRows (K : PySem.W.Frag) : Sp := fun vs H Q _ => ∃ (S : Addr → Prop) (x : V) (d : PyData) (l n : Int), vs = [x, .int l, .int n] ∧ Dq K S H x d ∧ Al S H ∧ smallD d = true ∧ ∀ H', Same H H' → Q (.bl (rowsD d l l n)) H'
theorem g_lrows {S : Addr → Prop} {x : V} {d : PyData} {l n : Int} {H : Hp} {Q : VK} {E : XK} (h : Dq K S H x d) (al : Al S H) (hs : smallD d = true) (q : ∀ H', Same H H' → Q (.bl (rowsD d l l n)) H') : spLRows K [x, .int l, .int n] H Q E := ⟨S, x, d, l, n, rfl, h, al, hs, q⟩
theorem ok_lrows (T : Top K mg) {f : Addr} {fd : FuncData} (F : FnP K "_law_is_rows" s__law_is_rows f fd) : FnOk P w K mg base CX0 3 f fd P__law_is_rows (spLRows K) := by
  have C__law_is_row := c_lrow (P := P) (w := w) (base := base) T
  refine F.ok sc__law_is_rows (fun vs H Q E h => ?_) (fun cdv A outer s H vs Q E hr h => ?_)
  · obtain ⟨S, x, d, l, n, rfl, _⟩ := h
    rfl
  · obtain ⟨S, x, d, l, n, rfl, hx, al, hs, q⟩ := h
    refine ⟨_, PSs.nox (pss_cons (ps_if (PW.pt (pw_or (pt_not (pt_val (pe_callB (k_isiT (K := K) (by rfl)) (by rfl) T.z_isinstance (by decide +kernel) (pa_cons (pv 0) (pa_cons (pe_tup (pa_cons (pe_bltn (v := .ty "list") (u := .type "list") (by rfl) T.z_list (by decide +kernel) rfl) (pa_cons (pe_bltn (v := .ty "tuple") (u := .type "tuple") (by rfl) T.z_tuple (by decide +kernel) rfl) pa_nil))) pa_nil))))) (pw_or1 (pt_cmpR op_ne (pe_callB (k_len (K := K) (by rfl)) (by rfl) T.z_len (by decide +kernel) (pa_cons (pv 0) pa_nil)) (pv 1) (nomark _)))))
    (pss_one (ps_ret pe_bl))
    pss_nil)
    (pss_one (ps_ret (pe_callB (k_all (K := K) (by rfl) (by rfl)) (by rfl) T.z_all (by decide +kernel) (pa_cons (pe_lc (own := [("each", 3)]) (g := gName 3) (by rfl) sc__law_is_rows.nd (k_piB (K := K) (by rfl) (pv 0)) (blkOk_by (own := [("each", 3)]) (N := N__law_is_rows) (sc := defScope s__law_is_rows) (by decide +kernel)) (fun _ _ _ _ _ => pg_name (i := 3) sc__law_is_rows.nd rfl (by first | exact Or.inl rfl | exact Or.inr rfl)) (fun _ _ _ _ _ => pts_nil) (fun _ _ _ _ _ => (pe_cal C__law_is_row (hr.mono (by first | decide | omega)) (by rfl) (pa_cons (pv 3) (pa_cons (pv 2) pa_nil))))) pa_nil))))), ?_⟩
    try simp only [cxK]
    rw [show L2.start N__law_is_rows [x, .int l, .int n] = [some x, some (.int l), some (.int n), none] from rfl]
    unfold rowsD at q
    rw [listD_eq] at q
    walk_at "go"
    rename_i p hp
    have s1 : Same H (upd H p (.tup [V.ty "list", V.ty "tuple"])) := same_new hp
    refine g_isSeq (hx.sm s1).dp upd_same ?_
    cases hq : isSeqD d with
    | false =>
      walk_at "go"
      rw [hq, Bool.false_and, Bool.false_and] at q
      exact q _ s1
    | true =>
      rw [hq, Bool.true_and] at q
      walk_at "go"
      refine g_lenQ (hx.sm s1) hq ?_
      walk_at "go"
      by_cases hn : ((itsD d).length : Int) = l
      · rw [decide_eq_true hn]
        rw [decide_eq_true hn, Bool.true_and] at q
        walk_at "go"
        refine g_bRQ (hx.sm s1) hq fun b xs e c hds => ?_
        subst e
        refine lcAll (f := fun e => rowD e n) c hds (al.sm s1) (small_its hs).1 (σ0 := [some (.ref b), some (.int l), some (.int n), none]) rfl (fun i y e D H' N he hm hD s2 al2 hy tr k => ?_) (fun R H2 hR hL s2 => ?_)
        · walk_at "go"
          exact g_val hy al2 ((small_its hs).2 e hm) k
        · walk_at "go"
          exact q _ (s1.trans s2)
      · rw [decide_eq_false hn]
        rw [decide_eq_false hn, Bool.false_and] at q
        walk_at "go"
        exact q _ s1
theorem c_lrows (T : Top K mg) : Cal P w K mg base "_law_is_rows" 3 P__law_is_rows (spLRows K) := cal_mk T.f__law_is_rows (ok_lrows T) (fun F => F.bindsN fun _ _ _ _ _ _ us hl => match us, hl with | [_, _, _], _ => rfl)
/-! a floor -/
def spLFl (K : PySem.W.Frag) : Sp := fun vs H Q _ => ∃ (S : Addr → Prop) (x : V) (d : PyData) (h n : Int), vs = [x, .int h, .int n] ∧ Dq K S H x d ∧ Al S H ∧ smallD d = true ∧ ∀ H', Same H H' → Q (.bl (listD d 3 3 && layD d h n)) H'
theorem g_lfl {S : Addr → Prop} {x : V} {d : PyData} {h n : Int} {H : Hp} {Q : VK} {E : XK} (hx : Dq K S H x d) (al : Al S H) (hs : smallD d = true) (q : ∀ H', Same H H' → Q (.bl (listD d 3 3 && layD d h n)) H') : spLFl K [x, .int h, .int n] H Q E := ⟨S, x, d, h, n, rfl, hx, al, hs, q⟩
theorem head_of {d : PyData} {n : Int} : headD d n = (isSeqD d && (decide (((itsD d).length : Int) = 3) && ((itsD d).map fun e => rowsD e n n n).all id)) := by
  unfold headD
  rw [listD_eq, Bool.and_assoc]
  rfl
theorem ok_lfl (T : Top K mg) {f : Addr} {fd : FuncData} (F : FnP K "_law_is_floor" s__law_is_floor f fd) : FnOk P w K mg base CX0 4 f fd P__law_is_floor (spLFl K) := by
  have C__law_is_rows := c_lrows (P := P) (w := w) (base := base) T
  refine F.ok sc__law_is_floor (fun vs H Q E h => ?_) (fun cdv A outer s H vs Q E hr h => ?_)
  · obtain ⟨S, x, d, h, n, rfl, _⟩ := h
    rfl
  · obtain ⟨S, x, d, h, n, rfl, hx, al, hs, q⟩ := h
    refine ⟨_, PSs.nox (pss_cons (ps_if (PW.pt (pw_or (pt_not (pt_val (pe_callB (k_isiT (K := K) (by rfl)) (by rfl) T.z_isinstance (by decide +kernel) (pa_cons (pv 0) (pa_cons (pe_tup (pa_cons (pe_bltn (v := .ty "list") (u := .type "list") (by rfl) T.z_list (by decide +kernel) rfl) (pa_cons (pe_bltn (v := .ty "tuple") (u := .type "tuple") (by rfl) T.z_tuple (by decide +kernel) rfl) pa_nil))) pa_nil))))) (pw_or1 (pt_cmpR op_ne (pe_callB (k_len (K := K) (by rfl)) (by rfl) T.z_len (by decide +kernel) (pa_cons (pv 0) pa_nil)) pe_int (nomark _)))))
    (pss_one (ps_ret pe_bl))
    pss_nil)
    (pss_cons (ps_if (PW.pt (pw_or (pt_not (pt_val (pe_callB (k_isiT (K := K) (by rfl)) (by rfl) T.z_isinstance (by decide +kernel) (pa_cons (pe_ix (k_ix (K := K) (by rfl)) (pv 0) pe_int (fun _ _ => rfl)) (pa_cons (pe_tup (pa_cons (pe_bltn (v := .ty "list") (u := .type "list") (by rfl) T.z_list (by decide +kernel) rfl) (pa_cons (pe_bltn (v := .ty "tuple") (u := .type "tuple") (by rfl) T.z_tuple (by decide +kernel) rfl) pa_nil))) pa_nil))))) (pw_or1 (pt_cmpR op_ne (pe_callB (k_len (K := K) (by rfl)) (by rfl) T.z_len (by decide +kernel) (pa_cons (pe_ix (k_ix (K := K) (by rfl)) (pv 0) pe_int (fun _ _ => rfl)) pa_nil)) (pv 1) (nomark _)))))
    (pss_one (ps_ret pe_bl))
    pss_nil)
    (pss_cons (ps_for PassesOwn.never rfl (k_piB (K := K) (by rfl) (pe_ix (k_ix (K := K) (by rfl)) (pv 0) pe_int (fun _ _ => rfl))) (pg_name (i := 3) sc__law_is_floor.nd rfl (by first | exact Or.inl rfl | exact Or.inr rfl))
    (pss_cons (ps_if (PW.pt (pw_or (pt_not (pt_val (pe_callB (k_isiT (K := K) (by rfl)) (by rfl) T.z_isinstance (by decide +kernel) (pa_cons (pv 3) (pa_cons (pe_tup (pa_cons (pe_bltn (v := .ty "list") (u := .type "list") (by rfl) T.z_list (by decide +kernel) rfl) (pa_cons (pe_bltn (v := .ty "tuple") (u := .type "tuple") (by rfl) T.z_tuple (by decide +kernel) rfl) pa_nil))) pa_nil))))) (pw_or1 (pt_cmpR op_ne (pe_callB (k_len (K := K) (by rfl)) (by rfl) T.z_len (by decide +kernel) (pa_cons (pv 3) pa_nil)) pe_int (nomark _)))))
    (pss_one (ps_ret pe_bl))
    pss_nil)
    (pss_one (ps_if (pt_not (pt_val (pe_callB (k_all (K := K) (by rfl) (by rfl)) (by rfl) T.z_all (by decide +kernel) (pa_cons (pe_lc (own := [("each", 4)]) (g := gName 4) (by rfl) sc__law_is_floor.nd (k_piB (K := K) (by rfl) (pv 3)) (blkOk_by (own := [("each", 4)]) (N := N__law_is_floor) (sc := defScope s__law_is_floor) (by decide +kernel)) (fun _ _ _ _ _ => pg_name (i := 4) sc__law_is_floor.nd rfl (by first | exact Or.inl rfl | exact Or.inr rfl)) (fun _ _ _ _ _ => pts_nil) (fun _ _ _ _ _ => (pe_cal C__law_is_rows (hr.mono (by first | decide | omega)) (by rfl) (pa_cons (pv 4) (pa_cons (pv 2) (pa_cons (pv 2) pa_nil)))))) pa_nil))))
    (pss_one (ps_ret pe_bl))
    pss_nil))))
    (pss_one (ps_ret (pe_and (pe_cal C__law_is_rows (hr.mono (by first | decide | omega)) (by rfl) (pa_cons (pe_ix (k_ix (K := K) (by rfl)) (pv 0) pe_int (fun _ _ => rfl)) (pa_cons (pv 2) (pa_cons (pv 2) pa_nil)))) (pe_one (pe_cal C__law_is_rows (hr.mono (by first | decide | omega)) (by rfl) (pa_cons (pe_ix (k_ix (K := K) (by rfl)) (pv 0) pe_int (fun _ _ => rfl)) (pa_cons (pv 2) (pa_cons (pv 2) pa_nil))))))))))), ?_⟩
    try simp only [cxK]
    rw [show L2.start N__law_is_floor [x, .int h, .int n] = [some x, some (.int h), some (.int n), none, none] from rfl]
    have l3 : listD d 3 3 = (isSeqD d && decide (((itsD d).length : Int) = 3)) := listD_eq
    walk_at "go"
    rename_i p hp
    have s1 : Same H (upd H p (.tup [V.ty "list", V.ty "tuple"])) := same_new hp
    refine g_isSeq (hx.sm s1).dp upd_same ?_
    cases hq : isSeqD d with
    | false =>
      walk_at "go"
      rw [l3, hq, Bool.false_and, Bool.false_and] at q
      exact q _ s1
    | true =>
      walk_at "go"
      refine g_lenQ (hx.sm s1) hq ?_
      walk_at "go"
      by_cases hn : ((itsD d).length : Int) = 3
      · rw [decide_eq_true hn]
        rw [l3, hq, decide_eq_true hn, Bool.true_and, Bool.true_and] at q
        have l3t : listD d 3 3 = true := by rw [l3, hq, decide_eq_true hn]; rfl
        obtain ⟨hd, up, dn, ei⟩ := three_of l3t
        have q2 : ∀ H', Same H H' → Q (.bl ((listD hd h h && ((itsD hd).map fun e => headD e n).all id) && (tblD up n && tblD dn n))) H' := by
          unfold layD at q
          rw [ei] at q
          exact q
        clear q
        rw [listD_eq] at q2
        have sm := (small_its hs).2
        rw [ei] at sm
        have sp := sm hd (by simp)
        have su := sm up (by simp)
        have sv := sm dn (by simp)
        have i0 : (itsD d)[0]? = some hd := by rw [ei]; rfl
        have i1 : (itsD d)[1]? = some up := by rw [ei]; rfl
        have i2 : (itsD d)[2]? = some dn := by rw [ei]; rfl
        walk_at "go"
        refine g_ixQ (i := 0) (hx.sm s1) hq i0 fun v0 hv0 => ?_
        walk_at "go"
        rename_i p2 hp2
        have s2 := s1.trans (same_new hp2 (o := .tup [V.ty "list", V.ty "tuple"]))
        refine g_isSeq (hv0.sm (same_new hp2)).dp upd_same ?_
        cases hq0 : isSeqD hd with
        | false =>
          walk_at "go"
          rw [hq0, Bool.false_and, Bool.false_and, Bool.false_and] at q2
          exact q2 _ s2
        | true =>
          rw [hq0, Bool.true_and] at q2
          walk_at "go"
          refine g_ixQ (i := 0) (hx.sm s2) hq i0 fun v1 hv1 => ?_
          walk_at "go"
          refine g_lenQ hv1 hq0 ?_
          walk_at "go"
          by_cases hn0 : ((itsD hd).length : Int) = h
          · rw [decide_eq_true hn0]
            rw [decide_eq_true hn0, Bool.true_and] at q2
            walk_at "go"
            refine g_ixQ (i := 0) (hx.sm s2) hq i0 fun v2 hv2 => ?_
            walk_at "go"
            obtain ⟨b, xs, rfl, sq, hds⟩ := hv2.sq3 hq0
            generalize (upd (upd H p (.tup [V.ty "list", V.ty "tuple"])) p2 (.tup [V.ty "list", V.ty "tuple"])) = H2 at s2 hv2 sq hds ⊢
            have lx := hds.len
            refine forBQ sq ⟨fun i σ' H' => ∃ y3, σ' = [some x, some (.int h), some (.int n), y3, none] ∧ Same H2 H' ∧ ∀ e ∈ (itsD hd).take i, headD e n = true, ⟨_, rfl, fun _ _ e => e, fun e he => by simp at he⟩, fun i σ' H' ⟨_, _, s, _⟩ => fun b o _ e => s b o e, ?_, ?_⟩
            · rintro i y σ' H3 hy ⟨y3, rfl, s3, all⟩
              obtain ⟨e, he, hye⟩ := hds.at hy
              have hye3 := hye.sm s3
              have em := List.mem_of_getElem? he
              have se := (small_its sp).2 e em
              have s23 := s2.trans s3
              have al3 := al.sm s23
              have bad : headD e n = false → ∀ H', Same H H' → Q (.bl false) H' := fun hb H' s => by
                have : ((itsD hd).map fun e => headD e n).all id = false := by
                  cases ha : ((itsD hd).map fun e => headD e n).all id with
                  | false => rfl
                  | true =>
                    have := List.all_eq_true.mp ha _ (List.mem_map.mpr ⟨e, em, rfl⟩)
                    rw [hb] at this
                    cases this
                have z := q2 H' s
                rw [this, Bool.false_and] at z
                exact z
              have good : headD e n = true → ∀ e' ∈ (itsD hd).take (i + 1), headD e' n = true := fun hg e' he' => by
                rw [List.take_add_one, he] at he'
                rcases List.mem_append.mp he' with z | z
                · exact all e' z
                · have z2 : e' = e := by simpa using z
                  rw [z2]
                  exact hg
              rw [head_of] at bad good
              walk_at "go"
              rename_i p3 hp3
              have s4 := s23.trans (same_new hp3 (o := .tup [V.ty "list", V.ty "tuple"]))
              have s34 := s3.trans (same_new hp3 (o := .tup [V.ty "list", V.ty "tuple"]))
              refine g_isSeq (hye3.sm (same_new hp3)).dp upd_same ?_
              cases hqe : isSeqD e with
              | false =>
                rw [hqe] at bad
                walk_at "go"
                exact bad rfl _ s4
              | true =>
                rw [hqe, Bool.true_and] at bad good
                walk_at "go"
                refine g_lenQ (hye3.sm (same_new hp3)) hqe ?_
                walk_at "go"
                by_cases hne : ((itsD e).length : Int) = 3
                · rw [decide_eq_true hne]
                  rw [decide_eq_true hne, Bool.true_and] at bad good
                  walk_at "go"
                  refine g_bRQ (hye3.sm (same_new hp3)) hqe fun b' xs' eb c hde => ?_
                  subst eb
                  refine lcAll (f := fun e => rowsD e n n n) c hde (al3.sm (same_new hp3)) (small_its se).1 (σ0 := [some x, some (.int h), some (.int n), some (.ref b'), none]) rfl (fun i y e D H' N he hm hD s2 al2 hy tr k => ?_) (fun R H5 hR hL s5 => ?_)
                  · walk_at "go"
                    exact g_lrows hy al2 ((small_its se).2 e hm) k
                  · walk_at "go"
                    cases hall : ((itsD e).map fun e => rowsD e n n n).all id with
                    | false =>
                      rw [hall] at bad
                      walk_at "go"
                      exact bad rfl _ (s4.trans s5)
                    | true =>
                      rw [hall] at good
                      walk_at "go"
                      exact ⟨_, rfl, s34.trans s5, good rfl⟩
                · rw [decide_eq_false hne]
                  rw [decide_eq_false hne] at bad
                  walk_at "go"
                  exact bad rfl _ s4
            · rintro σ' H3 ⟨y3, rfl, s3, all⟩
              have hall : ((itsD hd).map fun e => headD e n).all id = true := by
                rw [List.all_eq_true]
                intro z hz
                obtain ⟨e, he, rfl⟩ := List.mem_map.mp hz
                refine all e ?_
                rw [List.take_of_length_le (by omega)]
                exact he
              rw [hall, Bool.true_and] at q2
              have s23 := s2.trans s3
              walk_at "go"
              refine g_ixQ (i := 1) (hx.sm s23) hq i1 fun v3 hv3 => ?_
              walk_at "go"
              refine g_lrows hv3 (al.sm s23) su fun H4 s4 => ?_
              cases ht : rowsD up n n n with
              | false =>
                rw [show tblD up n = false from ht, Bool.false_and] at q2
                walk_at "go"
                exact q2 _ (s23.trans s4)
              | true =>
                rw [show tblD up n = true from ht, Bool.true_and] at q2
                walk_at "go"
                refine g_ixQ (i := 2) (hx.sm (s23.trans s4)) hq i2 fun v4 hv4 => ?_
                walk_at "go"
                exact g_lrows hv4 (al.sm (s23.trans s4)) sv fun H5 s5 => q2 _ ((s23.trans s4).trans s5)
          · rw [decide_eq_false hn0]
            rw [decide_eq_false hn0, Bool.false_and, Bool.false_and] at q2
            walk_at "go"
            exact q2 _ s2
      · rw [decide_eq_false hn]
        rw [l3, decide_eq_false hn, Bool.and_false, Bool.false_and] at q
        walk_at "go"
        exact q _ s1
theorem c_lfl (T : Top K mg) : Cal P w K mg base "_law_is_floor" 4 P__law_is_floor (spLFl K) := cal_mk T.f__law_is_floor (ok_lfl T) (fun F => F.bindsN fun _ _ _ _ _ _ us hl => match us, hl with | [_, _, _], _ => rfl)
end

set_option Elab.async false
set_option linter.all false
set_option maxRecDepth 100000
set_option maxHeartbeats 4000000
/-! str.split by one sign -/
open PySem PySem.Builtin.Str PySem.StrLaws
/-- the pieces between the signs c -/
def splC (c : Nat) : List Nat → List (List Nat)
  | [] => [[]]
  | x :: t => if x = c then [] :: splC c t else match splC c t with
    | p :: ps => (x :: p) :: ps
    | [] => [[x]]
theorem splC_ne (c : Nat) : ∀ t, splC c t ≠ []
  | [] => by simp [splC]
  | x :: t => by
    unfold splC
    split
    · simp
    · split <;> simp
theorem splC_at (c : Nat) (t : List Nat) : splC c (c :: t) = [] :: splC c t := by rw [splC, if_pos rfl]
theorem splC_cons (c : Nat) {x : Nat} {t p : List Nat} {ps : List (List Nat)} (h : x ≠ c) (e : splC c t = p :: ps) : splC c (x :: t) = (x :: p) :: ps := by rw [splC, if_neg h, e]
theorem splC_some (c : Nat) (t : List Nat) : ∃ p ps, splC c t = p :: ps := by
  cases e : splC c t with
  | nil => exact absurd e (splC_ne c t)
  | cons p ps => exact ⟨p, ps, rfl⟩
/-- the places of the signs c -/
def posC (c : Nat) : List Nat → Nat → List Nat
  | [], _ => []
  | x :: t, i => if x = c then i :: posC c t (i + 1) else posC c t (i + 1)
theorem occ_posC (c : Nat) (a : List Nat) : ∀ (t pre : List Nat) (acc : Array Nat) (free : Nat), a = pre ++ t → free ≤ pre.length → acc.size ≤ pre.length →
    (forIn (List.range' pre.length (t.length + 1)) (acc, free) (occBody (sOf a) ⟨#[c]⟩ a.length (a.length + 1))).run.fst.toList = acc.toList ++ posC c t pre.length
  | [], pre, acc, free, e, hf, hs => by
    have no : ¬ (((acc.size < a.length + 1 ∧ free ≤ pre.length) ∧ pre.length + (⟨#[c]⟩ : Str).length ≤ a.length) ∧ subAt (sOf a) ⟨#[c]⟩ pre.length = true) := fun z => by
      have z2 : pre.length + 1 ≤ a.length := z.1.2
      rw [e, List.append_nil] at z2
      omega
    show (Id.run (forIn [pre.length] (acc, free) _)).fst.toList = _
    rw [List.forIn_cons]
    unfold occBody
    rw [if_neg no]
    simp [posC]
  | x :: t, pre, acc, free, e, hf, hs => by
    have hl : a.length = pre.length + (t.length + 1) := by rw [e]; simp
    have ex : a[pre.length]? = some x := by rw [e]; simp
    show (Id.run (forIn (pre.length :: List.range' (pre.length + 1) (t.length + 1)) (acc, free) _)).fst.toList = _
    rw [List.forIn_cons]
    have hl2 : (sOf a).length = a.length := sOf_len a
    by_cases hx : x = c
    · replace hx := hx.symm
      subst hx
      have sub := (subAt_one (sOf a) c pre.length).mpr (by simpa using ex)
      rw [hl2] at sub
      have yes : ((acc.size < a.length + 1 ∧ free ≤ pre.length) ∧ pre.length + (⟨#[c]⟩ : Str).length ≤ a.length) ∧ subAt (sOf a) ⟨#[c]⟩ pre.length = true := ⟨⟨⟨by omega, hf⟩, sub.1⟩, sub.2⟩
      have step : occBody (sOf a) ⟨#[c]⟩ a.length (a.length + 1) pre.length (acc, free) = pure (ForInStep.yield (acc.push pre.length, pre.length + 1)) := by
        unfold occBody
        rw [if_pos yes]
        rfl
      rw [step]
      have ih := occ_posC c a t (pre ++ [c]) (acc.push pre.length) (pre.length + 1) (by rw [e]; simp) (by simp) (by simp; omega)
      have el : List.length (pre ++ [c]) = pre.length + 1 := by simp
      rw [el] at ih
      rw [show posC c (c :: t) pre.length = pre.length :: posC c t (pre.length + 1) by rw [posC, if_pos rfl]]
      show (Id.run (forIn (List.range' (pre.length + 1) (t.length + 1)) (acc.push pre.length, pre.length + 1) _)).fst.toList = _
      rw [ih]
      simp
    · have no : ¬ (((acc.size < a.length + 1 ∧ free ≤ pre.length) ∧ pre.length + (⟨#[c]⟩ : Str).length ≤ a.length) ∧ subAt (sOf a) ⟨#[c]⟩ pre.length = true) := fun z => by
        have z2 := (subAt_one (sOf a) c pre.length).mp ⟨by rw [hl2]; exact z.1.2, z.2⟩
        have z3 : a[pre.length]? = some c := by simpa using z2
        rw [ex] at z3
        exact hx (Option.some.inj z3)
      have step : occBody (sOf a) ⟨#[c]⟩ a.length (a.length + 1) pre.length (acc, free) = pure (ForInStep.yield (acc, free)) := by
        unfold occBody
        rw [if_neg no]
      rw [step]
      have ih := occ_posC c a t (pre ++ [x]) acc free (by rw [e]; simp) (by simp; omega) (by simp; omega)
      have el : List.length (pre ++ [x]) = pre.length + 1 := by simp
      rw [el] at ih
      rw [show posC c (x :: t) pre.length = posC c t (pre.length + 1) by rw [posC, if_neg hx]]
      exact ih
theorem occ_C (c : Nat) (a : List Nat) : occurrences (sOf a) ⟨#[c]⟩ 0 (sOf a).length ((sOf a).length + 1) = posC c a 0 := by
  rw [occ_eq, sOf_len]
  have z := occ_posC c a a [] #[] 0 rfl (Nat.le_refl _) (Nat.le_refl _)
  rw [Nat.sub_zero]
  exact z.trans (by simp)
theorem parts_splC (c : Nat) (a : List Nat) : ∀ (t pre : List Nat) (st : Nat), a = pre ++ t → st ≤ pre.length →
    ((st :: (posC c t pre.length).map (· + 1)).zip (posC c t pre.length ++ [a.length])).map (fun (i, j) => strSub (sOf a) i j) =
      (match splC c t with
      | p :: ps => sOf (seg a st pre.length ++ p) :: ps.map sOf
      | [] => [])
  | [], pre, st, e, hst => by
    have e0 : a = pre := by rw [e, List.append_nil]
    subst e0
    simp [posC, splC, strSub_seg]
  | x :: t, pre, st, e, hst => by
    by_cases hx : x = c
    · replace hx := hx.symm
      subst hx
      have ih := parts_splC c a t (pre ++ [c]) (pre.length + 1) (by rw [e]; simp) (by simp)
      have el : List.length (pre ++ [c]) = pre.length + 1 := by simp
      rw [el] at ih
      rw [show posC c (c :: t) pre.length = pre.length :: posC c t (pre.length + 1) by rw [posC, if_pos rfl], splC_at]
      obtain ⟨p, ps, ep⟩ := splC_some c t
      rw [ep] at ih ⊢
      have z : seg a (pre.length + 1) (pre.length + 1) = [] := by unfold seg; simp
      simp only [z, List.nil_append] at ih
      simp only [List.map_cons, List.cons_append, List.zip_cons_cons, List.append_nil]
      rw [ih, strSub_seg]
    · have ih := parts_splC c a t (pre ++ [x]) st (by rw [e]; simp) (by simp; omega)
      have el : List.length (pre ++ [x]) = pre.length + 1 := by simp
      rw [el] at ih
      rw [show posC c (x :: t) pre.length = posC c t (pre.length + 1) by rw [posC, if_neg hx]]
      obtain ⟨p, ps, ep⟩ := splC_some c t
      rw [splC_cons c hx ep]
      rw [ep] at ih
      rw [ih]
      have z : seg a st (pre.length + 1) = seg a st pre.length ++ [x] := by
        unfold seg
        rw [show pre.length + 1 - st = (pre.length - st) + 1 by omega, List.take_add_one, List.getElem?_drop, show st + (pre.length - st) = pre.length by omega]
        have ex : a[pre.length]? = some x := by rw [e]; simp
        rw [ex]
        rfl
      simp only [z, List.append_assoc, List.singleton_append]
theorem split_C (c : Nat) (hc : c < 128) (a : List Nat) : Txt.split (sOf a) ⟨#[c]⟩ = (splC c a).map sOf := by
  unfold Txt.split
  rw [occ_C]
  have k1 : decide (Builtin.Str.strKind (sOf a) < Builtin.Str.strKind ⟨#[c]⟩) = false := decide_eq_false (by
    have := kind_pos (sOf a)
    have e : Builtin.Str.strKind (⟨#[c]⟩ : Str) = 1 := by (simp [Builtin.Str.strKind]; omega)
    omega)
  rw [k1, Bool.or_false]
  have full : partsBetween (sOf a) (posC c a 0) (⟨#[c]⟩ : Str).length = (splC c a).map sOf := by
    unfold partsBetween
    have z := parts_splC c a a [] 0 rfl (Nat.le_refl _)
    rw [sOf_len]
    obtain ⟨p, ps, ep⟩ := splC_some c a
    rw [ep] at z ⊢
    have s0 : seg a 0 0 = [] := by simp [seg]
    simp only [List.length_nil, s0, List.nil_append] at z
    exact z
  split
  · rename_i h
    have hl : (sOf a).length < 1 := of_decide_eq_true h
    rw [sOf_len] at hl
    have : a = [] := List.length_eq_zero_iff.mp (by omega)
    subst this
    rfl
  · split
    · rename_i h
      rw [List.isEmpty_iff] at h
      rw [← full, h]
      unfold partsBetween
      simp [strSub_seg, seg, sOf_len]
    · exact full
open PySem PySem.Builtin.Str PySem.StrLaws
theorem last_iff (p : List Nat) (c : Nat) : (0 + (sOf [c]).length ≤ (sOf p).length && subAt (sOf p) (sOf [c]) ((sOf p).length - (sOf [c]).length)) = decide (p.getLast? = some c) := by
  rw [sOf_len, sOf_len]
  have one := subAt_one (sOf p) c (p.length - 1)
  have hl : (sOf p).length = p.length := sOf_len p
  have hg : (sOf p).cps.toList[p.length - 1]? = p.getLast? := by
    rw [List.getLast?_eq_getElem?]
  rw [hl, hg] at one
  by_cases h : p.getLast? = some c
  · have z := one.mpr h
    rw [decide_eq_true h]
    have hp : 1 ≤ p.length := by
      cases p with
      | nil => simp at h
      | cons a b => simp
    have e1 : (decide (0 + [c].length ≤ p.length)) = true := decide_eq_true (by simpa using hp)
    rw [e1, Bool.true_and]
    exact z.2
  · rw [decide_eq_false h]
    cases e : (decide (0 + [c].length ≤ p.length) && subAt (sOf p) (sOf [c]) (p.length - [c].length)) with
    | false => rfl
    | true =>
      rw [Bool.and_eq_true] at e
      have h1 : 0 + [c].length ≤ p.length := of_decide_eq_true e.1
      simp only [List.length_cons, List.length_nil] at h1
      exact absurd (one.mp ⟨(show p.length - 1 + 1 ≤ p.length by omega), e.2⟩) h
theorem ends_C (p : List Nat) (c : Nat) : Txt.endswith (sOf p) (sOf [c]) = decide (p.getLast? = some c) := last_iff p c
/-- a piece without its last sign if that is c -/
def cutC (c : Nat) (p : List Nat) : List Nat := if p.getLast? = some c then p.dropLast else p
theorem suffix_C (p : List Nat) (c : Nat) : Txt.removesuffix (sOf p) (sOf [c]) = sOf (cutC c p) := by
  unfold Txt.removesuffix
  have z := last_iff p c
  rw [Nat.zero_add] at z
  rw [z]
  unfold cutC
  by_cases h : p.getLast? = some c
  · rw [if_pos (decide_eq_true h), if_pos h]
    have hp : 1 ≤ p.length := by
      cases p with
      | nil => simp at h
      | cons a b => simp
    unfold Txt.affix
    rw [sOf_len, sOf_len]
    show (if (p.length - [c].length - 0 == p.length) = true then sOf p else strSub (sOf p) 0 (p.length - [c].length)) = _
    have n1 : ¬ (p.length - [c].length - 0 == p.length) = true := fun z => by
      have z2 := beq_iff_eq.mp z
      simp only [List.length_cons, List.length_nil] at z2
      omega
    rw [if_neg n1, strSub_seg]
    unfold seg
    rw [List.drop_zero, List.dropLast_eq_take]
    rfl
  · rw [if_neg (by simp [h]), if_neg h]
    rfl
theorem splC_mem {c : Nat} : ∀ {cs p : List Nat}, p ∈ splC c cs → ∀ x ∈ p, x ∈ cs
  | [], p, hp, x, hx => by
    simp [splC] at hp
    subst hp
    exact absurd hx List.not_mem_nil
  | y :: t, p, hp, x, hx => by
    by_cases h : y = c
    · replace h := h.symm
      subst h
      rw [splC_at] at hp
      rcases List.mem_cons.mp hp with rfl | hp
      · exact absurd hx List.not_mem_nil
      · exact List.mem_cons_of_mem _ (splC_mem hp x hx)
    · obtain ⟨q, qs, e⟩ := splC_some c t
      rw [splC_cons c h e] at hp
      have m : ∀ z ∈ splC c t, ∀ x ∈ z, x ∈ t := fun z hz => splC_mem hz
      rw [e] at m
      rcases List.mem_cons.mp hp with rfl | hp
      · rcases List.mem_cons.mp hx with rfl | hx
        · exact List.mem_cons_self
        · exact List.mem_cons_of_mem _ (m q List.mem_cons_self x hx)
      · exact List.mem_cons_of_mem _ (m p (List.mem_cons_of_mem _ hp) x hx)
theorem splC_count {c : Nat} : ∀ cs : List Nat, (splC c cs).length ≤ cs.length + 1 ∧ ∀ p ∈ splC c cs, p.length ≤ cs.length
  | [] => by simp [splC]
  | y :: t => by
    obtain ⟨h1, h2⟩ := splC_count (c := c) t
    by_cases h : y = c
    · replace h := h.symm
      subst h
      rw [splC_at]
      refine ⟨by rw [List.length_cons, List.length_cons]; omega, fun p hp => ?_⟩
      rcases List.mem_cons.mp hp with rfl | hp
      · exact Nat.zero_le _
      · have := h2 p hp
        rw [List.length_cons]
        omega
    · obtain ⟨q, qs, e⟩ := splC_some c t
      rw [splC_cons c h e]
      rw [e] at h1 h2
      refine ⟨by rw [List.length_cons] at h1 ⊢; rw [List.length_cons]; omega, fun p hp => ?_⟩
      rcases List.mem_cons.mp hp with rfl | hp
      · have := h2 q List.mem_cons_self
        rw [List.length_cons, List.length_cons]
        omega
      · have := h2 p (List.mem_cons_of_mem _ hp)
        rw [List.length_cons]
        omega

set_option Elab.async false
set_option linter.all false
set_option maxRecDepth 100000
set_option maxHeartbeats 4000000
/-! the first place of one sign in a string -/
open PySem PySem.Builtin.Str PySem.StrLaws
/-- the first place of the sign c, if there is one -/
def fstC (c : Nat) : List Nat → Nat → List Nat
  | [], _ => []
  | x :: t, i => if x = c then [i] else fstC c t (i + 1)
theorem occ_full (s sub : Str) (hi : Nat) : ∀ (l : List Nat) (acc : Array Nat) (free : Nat), 1 ≤ acc.size → (forIn l (acc, free) (occBody s sub hi 1)).run.fst = acc
  | [], acc, free, h => rfl
  | i :: l, acc, free, h => by
    have no : ¬ (((acc.size < 1 ∧ free ≤ i) ∧ i + sub.length ≤ hi) ∧ subAt s sub i = true) := fun z => by have := z.1.1.1; omega
    have step : occBody s sub hi 1 i (acc, free) = pure (ForInStep.yield (acc, free)) := by
      unfold occBody
      rw [if_neg no]
    show (Id.run (forIn (i :: l) (acc, free) _)).fst = _
    rw [List.forIn_cons, step]
    exact occ_full s sub hi l acc free h
theorem occ1_fst (c : Nat) (a : List Nat) : ∀ (t pre : List Nat), a = pre ++ t →
    (forIn (List.range' pre.length (t.length + 1)) (#[], 0) (occBody (sOf a) ⟨#[c]⟩ a.length 1)).run.fst.toList = fstC c t pre.length
  | [], pre, e => by
    have no : ¬ ((((#[] : Array Nat).size < 1 ∧ 0 ≤ pre.length) ∧ pre.length + (⟨#[c]⟩ : Str).length ≤ a.length) ∧ subAt (sOf a) ⟨#[c]⟩ pre.length = true) := fun z => by
      have z2 : pre.length + 1 ≤ a.length := z.1.2
      rw [e, List.append_nil] at z2
      omega
    show (Id.run (forIn [pre.length] (#[], 0) _)).fst.toList = _
    rw [List.forIn_cons]
    unfold occBody
    rw [if_neg no]
    simp [fstC]
  | x :: t, pre, e => by
    have hl : a.length = pre.length + (t.length + 1) := by rw [e]; simp
    have ex : a[pre.length]? = some x := by rw [e]; simp
    show (Id.run (forIn (pre.length :: List.range' (pre.length + 1) (t.length + 1)) (#[], 0) _)).fst.toList = _
    rw [List.forIn_cons]
    have hl2 : (sOf a).length = a.length := sOf_len a
    by_cases hx : x = c
    · replace hx := hx.symm
      subst hx
      have sub := (subAt_one (sOf a) c pre.length).mpr (by simpa using ex)
      rw [hl2] at sub
      have yes : ((((#[] : Array Nat).size < 1 ∧ 0 ≤ pre.length) ∧ pre.length + (⟨#[c]⟩ : Str).length ≤ a.length) ∧ subAt (sOf a) ⟨#[c]⟩ pre.length = true) := ⟨⟨⟨by simp, Nat.zero_le _⟩, sub.1⟩, sub.2⟩
      have step : occBody (sOf a) ⟨#[c]⟩ a.length 1 pre.length (#[], 0) = pure (ForInStep.yield ((#[] : Array Nat).push pre.length, pre.length + 1)) := by
        unfold occBody
        rw [if_pos yes]
        rfl
      rw [step]
      rw [show fstC c (c :: t) pre.length = [pre.length] by rw [fstC, if_pos rfl]]
      have ih := occ_full (sOf a) ⟨#[c]⟩ a.length (List.range' (pre.length + 1) (t.length + 1)) ((#[] : Array Nat).push pre.length) (pre.length + 1) (by simp)
      show (Id.run (forIn (List.range' (pre.length + 1) (t.length + 1)) ((#[] : Array Nat).push pre.length, pre.length + 1) _)).fst.toList = _
      have ih2 := congrArg Array.toList ih
      exact ih2.trans (by simp)
    · have no : ¬ ((((#[] : Array Nat).size < 1 ∧ 0 ≤ pre.length) ∧ pre.length + (⟨#[c]⟩ : Str).length ≤ a.length) ∧ subAt (sOf a) ⟨#[c]⟩ pre.length = true) := fun z => by
        have z2 := (subAt_one (sOf a) c pre.length).mp ⟨by rw [hl2]; exact z.1.2, z.2⟩
        have z3 : a[pre.length]? = some c := by simpa using z2
        rw [ex] at z3
        exact hx (Option.some.inj z3)
      have step : occBody (sOf a) ⟨#[c]⟩ a.length 1 pre.length (#[], 0) = pure (ForInStep.yield (#[], 0)) := by
        unfold occBody
        rw [if_neg no]
      rw [step]
      have ih := occ1_fst c a t (pre ++ [x]) (by rw [e]; simp)
      have el : List.length (pre ++ [x]) = pre.length + 1 := by simp
      rw [el] at ih
      rw [show fstC c (x :: t) pre.length = fstC c t (pre.length + 1) by rw [fstC, if_neg hx]]
      exact ih
theorem occ1 (c : Nat) (a : List Nat) : occurrences (sOf a) (sOf [c]) 0 (sOf a).length 1 = fstC c a 0 := by
  rw [occ_eq, sOf_len]
  have z := occ1_fst c a a [] rfl
  rw [Nat.sub_zero]
  exact z
theorem fstC_no {c : Nat} : ∀ {t : List Nat} {i : Nat}, c ∉ t → fstC c t i = []
  | [], _, _ => rfl
  | x :: t, i, h => by
    rw [fstC, if_neg (fun z => h (by rw [z]; exact List.mem_cons_self)), fstC_no fun z => h (List.mem_cons_of_mem _ z)]
theorem fstC_yes {c : Nat} : ∀ {t : List Nat} {i : Nat}, c ∈ t → fstC c t i = [i + t.idxOf c]
  | [], _, h => absurd h List.not_mem_nil
  | x :: t, i, h => by
    by_cases e : x = c
    · rw [fstC, if_pos e, List.idxOf_cons, e]
      simp
    · rw [fstC, if_neg e, fstC_yes ((List.mem_cons.mp h).resolve_left fun z => e z.symm), List.idxOf_cons]
      have : (x == c) = false := by simpa using e
      rw [this]
      simp
      omega
theorem occ_no {c : Nat} {a : List Nat} (h : c ∉ a) : occurrences (sOf a) (sOf [c]) 0 (sOf a).length 1 = [] := by rw [occ1, fstC_no h]
theorem occ_yes {c : Nat} {a : List Nat} (h : c ∈ a) : occurrences (sOf a) (sOf [c]) 0 (sOf a).length 1 = [a.idxOf c] := by rw [occ1, fstC_yes h, Nat.zero_add]

set_option Elab.async false
set_option linter.all false
set_option maxRecDepth 100000
set_option maxHeartbeats 4000000
open PySem PySem.Spec L2





section
variable {P : Program} {w : World} {K : PySem.W.Frag} {mg : Str → Option Value} {base : Heap}
/-! floors -/
theorem lays_law {d : PyData} {n : Int} : laysD d n = (listD d 1 3 && (listD (fstD d) 3 3 && (isSeqD (fstD (fstD d)) && (decide (1 ≤ ((itsD (fstD (fstD d))).length : Int)) && (decide (((itsD (fstD (fstD d))).length : Int) ≤ 2) && ((itsD d).map fun e => listD e 3 3 && layD e (itsD (fstD (fstD d))).length n).all id))))) := by
  unfold laysD
  cases h1 : listD d 1 3 with
  | false => rfl
  | true =>
    have e0 := List.mem_of_getElem? (fst_at h1 (Int.le_refl _))
    rw [Bool.eq_iff_iff]
    simp only [Bool.and_eq_true, List.all_eq_true, List.mem_map, id]
    constructor
    · rintro ⟨_, a1, a2, a3⟩
      have l2 : listD (fstD (fstD d)) 1 2 = true := a2
      unfold listD at l2
      rw [Bool.and_eq_true, Bool.and_eq_true] at l2
      refine ⟨trivial, a1 _ ⟨_, e0, rfl⟩, l2.1, l2.2.1, l2.2.2, ?_⟩
      rintro _ ⟨e, he, rfl⟩
      rw [Bool.and_eq_true]
      exact ⟨a1 _ ⟨e, he, rfl⟩, a3 _ ⟨e, he, rfl⟩⟩
    · rintro ⟨_, b1, b2, b3, b4, b5⟩
      refine ⟨trivial, ?_, ?_, ?_⟩
      · rintro _ ⟨e, he, rfl⟩
        have := b5 _ ⟨e, he, rfl⟩
        rw [Bool.and_eq_true] at this
        exact this.1
      · unfold listD
        rw [b2, b3, b4]
        rfl
      · rintro _ ⟨e, he, rfl⟩
        have := b5 _ ⟨e, he, rfl⟩
        rw [Bool.and_eq_true] at this
        exact this.2
theorem ok_lfls (T : Top K mg) {f : Addr} {fd : FuncData} (F : FnP K "_law_is_floors" s__law_is_floors f fd) : FnOk P w K mg base CX0 5 f fd P__law_is_floors (spVal K laysD) := by
  have C__law_is_floor := c_lfl (P := P) (w := w) (base := base) T
  refine F.ok sc__law_is_floors (fun vs H Q E h => ?_) (fun cdv A outer s H vs Q E hr h => ?_)
  · obtain ⟨S, x, d, n, rfl, _⟩ := h
    rfl
  · obtain ⟨S, x, d, n, rfl, hx, al, hs, q⟩ := h
    refine ⟨_, PSs.nox (pss_cons (ps_if (PW.pt (pw_or (pt_not (pt_val (pe_callB (k_isiT (K := K) (by rfl)) (by rfl) T.z_isinstance (by decide +kernel) (pa_cons (pv 0) (pa_cons (pe_tup (pa_cons (pe_bltn (v := .ty "list") (u := .type "list") (by rfl) T.z_list (by decide +kernel) rfl) (pa_cons (pe_bltn (v := .ty "tuple") (u := .type "tuple") (by rfl) T.z_tuple (by decide +kernel) rfl) pa_nil))) pa_nil))))) (pw_or1 (pt_not (pt_chain op_le op_le pe_int (pe_callB (k_len (K := K) (by rfl)) (by rfl) T.z_len (by decide +kernel) (pa_cons (pv 0) pa_nil)) pe_int)))))
    (pss_one (ps_ret pe_bl))
    pss_nil)
    (pss_cons (ps_if (PW.pt (pw_or (pt_not (pt_val (pe_callB (k_isiT (K := K) (by rfl)) (by rfl) T.z_isinstance (by decide +kernel) (pa_cons (pe_ix (k_ix (K := K) (by rfl)) (pv 0) pe_int (fun _ _ => rfl)) (pa_cons (pe_tup (pa_cons (pe_bltn (v := .ty "list") (u := .type "list") (by rfl) T.z_list (by decide +kernel) rfl) (pa_cons (pe_bltn (v := .ty "tuple") (u := .type "tuple") (by rfl) T.z_tuple (by decide +kernel) rfl) pa_nil))) pa_nil))))) (pw_or (pt_cmpR op_ne (pe_callB (k_len (K := K) (by rfl)) (by rfl) T.z_len (by decide +kernel) (pa_cons (pe_ix (k_ix (K := K) (by rfl)) (pv 0) pe_int (fun _ _ => rfl)) pa_nil)) pe_int (nomark _)) (pw_or1 (pt_not (pt_val (pe_callB (k_isiT (K := K) (by rfl)) (by rfl) T.z_isinstance (by decide +kernel) (pa_cons (pe_ix (k_ix (K := K) (by rfl)) (pe_ix (k_ix (K := K) (by rfl)) (pv 0) pe_int (fun _ _ => rfl)) pe_int (fun _ _ => rfl)) (pa_cons (pe_tup (pa_cons (pe_bltn (v := .ty "list") (u := .type "list") (by rfl) T.z_list (by decide +kernel) rfl) (pa_cons (pe_bltn (v := .ty "tuple") (u := .type "tuple") (by rfl) T.z_tuple (by decide +kernel) rfl) pa_nil))) pa_nil)))))))))
    (pss_one (ps_ret pe_bl))
    pss_nil)
    (pss_cons (ps_set (i := 2) sc__law_is_floors.nd rfl (by first | exact Or.inl rfl | exact Or.inr rfl) (pe_callB (k_len (K := K) (by rfl)) (by rfl) T.z_len (by decide +kernel) (pa_cons (pe_ix (k_ix (K := K) (by rfl)) (pe_ix (k_ix (K := K) (by rfl)) (pv 0) pe_int (fun _ _ => rfl)) pe_int (fun _ _ => rfl)) pa_nil)))
    (pss_one (ps_ret (pe_and (pe_chain op_le op_le pe_int (pv 2) pe_int) (pe_one (pe_callB (k_all (K := K) (by rfl) (by rfl)) (by rfl) T.z_all (by decide +kernel) (pa_cons (pe_lc (own := [("each", 3)]) (g := gName 3) (by rfl) sc__law_is_floors.nd (k_piB (K := K) (by rfl) (pv 0)) (blkOk_by (own := [("each", 3)]) (N := N__law_is_floors) (sc := defScope s__law_is_floors) (by decide +kernel)) (fun _ _ _ _ _ => pg_name (i := 3) sc__law_is_floors.nd rfl (by first | exact Or.inl rfl | exact Or.inr rfl)) (fun _ _ _ _ _ => pts_nil) (fun _ _ _ _ _ => (pe_cal C__law_is_floor (hr.mono (by first | decide | omega)) (by rfl) (pa_cons (pv 3) (pa_cons (pv 2) (pa_cons (pv 1) pa_nil)))))) pa_nil))))))))), ?_⟩
    try simp only [cxK]
    rw [show L2.start N__law_is_floors [x, .int n] = [some x, some (.int n), none, none] from rfl]
    rw [lays_law] at q
    rw [show listD d 1 3 = (isSeqD d && (decide ((1 : Int) ≤ (itsD d).length) && decide (((itsD d).length : Int) ≤ 3))) from rfl, show listD (fstD d) 3 3 = _ from listD_eq] at q
    walk_at "go"
    rename_i p hp
    have s1 : Same H (upd H p (.tup [V.ty "list", V.ty "tuple"])) := same_new hp
    refine g_isSeq (hx.sm s1).dp upd_same ?_
    cases hq : isSeqD d with
    | false =>
      walk_at "go"
      rw [hq, Bool.false_and, Bool.false_and] at q
      exact q _ s1
    | true =>
      rw [hq, Bool.true_and] at q
      walk_at "go"
      refine g_lenQ (hx.sm s1) hq ?_
      walk_at "go"
      by_cases h1 : (1 : Int) ≤ ((itsD d).length : Int)
      · rw [decide_eq_true h1]
        rw [decide_eq_true h1, Bool.true_and] at q
        walk_at "go"
        by_cases h3 : ((itsD d).length : Int) ≤ 3
        · rw [decide_eq_true h3]
          rw [decide_eq_true h3, Bool.true_and] at q
          have l13 : listD d 1 3 = true := by unfold listD; rw [hq, decide_eq_true h1, decide_eq_true h3]; rfl
          have e0 := fst_at l13 (Int.le_refl _)
          walk_at "go"
          refine g_ixQ (i := 0) (hx.sm s1) hq e0 fun v0 hv0 => ?_
          walk_at "go"
          rename_i p2 hp2
          have s2 := s1.trans (same_new hp2 (o := .tup [V.ty "list", V.ty "tuple"]))
          refine g_isSeq (hv0.sm (same_new hp2)).dp upd_same ?_
          cases hq0 : isSeqD (fstD d) with
          | false =>
            walk_at "go"
            rw [hq0, Bool.false_and, Bool.false_and] at q
            exact q _ s2
          | true =>
            rw [hq0, Bool.true_and] at q
            walk_at "go"
            refine g_ixQ (i := 0) (hx.sm s2) hq e0 fun v1 hv1 => ?_
            walk_at "go"
            refine g_lenQ hv1 hq0 ?_
            walk_at "go"
            by_cases hn0 : ((itsD (fstD d)).length : Int) = 3
            · rw [decide_eq_true hn0]
              rw [decide_eq_true hn0, Bool.true_and] at q
              have l33 : listD (fstD d) 3 3 = true := by rw [listD_eq, hq0, decide_eq_true hn0]; rfl
              have e1 := fst_at l33 (by decide)
              walk_at "go"
              refine g_ixQ (i := 0) (hx.sm s2) hq e0 fun v2 hv2 => ?_
              walk_at "go"
              refine g_ixQ (i := 0) hv2 hq0 e1 fun v3 hv3 => ?_
              walk_at "go"
              rename_i p3 hp3
              have s3 := s2.trans (same_new hp3 (o := .tup [V.ty "list", V.ty "tuple"]))
              refine g_isSeq (hv3.sm (same_new hp3)).dp upd_same ?_
              cases hq1 : isSeqD (fstD (fstD d)) with
              | false =>
                walk_at "go"
                rw [hq1, Bool.false_and] at q
                exact q _ s3
              | true =>
                rw [hq1, Bool.true_and] at q
                walk_at "go"
                refine g_ixQ (i := 0) (hx.sm s3) hq e0 fun v4 hv4 => ?_
                walk_at "go"
                refine g_ixQ (i := 0) hv4 hq0 e1 fun v5 hv5 => ?_
                walk_at "go"
                refine g_lenQ hv5 hq1 ?_
                walk_at "go"
                by_cases b1 : (1 : Int) ≤ ((itsD (fstD (fstD d))).length : Int)
                · rw [decide_eq_true b1]
                  rw [decide_eq_true b1, Bool.true_and] at q
                  walk_at "go"
                  by_cases b2 : ((itsD (fstD (fstD d))).length : Int) ≤ 2
                  · rw [decide_eq_true b2]
                    rw [decide_eq_true b2, Bool.true_and] at q
                    walk_at "go"
                    refine g_bRQ (hx.sm s3) hq fun b xs e c hds => ?_
                    subst e
                    refine lcAll (f := fun e => listD e 3 3 && layD e (itsD (fstD (fstD d))).length n) c hds (al.sm s3) (small_its hs).1 (σ0 := [some (.ref b), some (.int n), some (.int (itsD (fstD (fstD d))).length), none]) rfl (fun i y e D H' N he hm hD s2 al2 hy tr k => ?_) (fun R H5 hR hL s5 => ?_)
                    · walk_at "go"
                      exact g_lfl hy al2 ((small_its hs).2 e hm) k
                    · walk_at "go"
                      exact q _ (s3.trans s5)
                  · rw [decide_eq_false b2]
                    rw [decide_eq_false b2, Bool.false_and] at q
                    walk_at "go"
                    exact q _ s3
                · rw [decide_eq_false b1]
                  rw [decide_eq_false b1, Bool.false_and] at q
                  walk_at "go"
                  exact q _ s3
            · rw [decide_eq_false hn0]
              rw [decide_eq_false hn0, Bool.false_and] at q
              walk_at "go"
              exact q _ s2
        · rw [decide_eq_false h3]
          rw [decide_eq_false h3, Bool.false_and] at q
          walk_at "go"
          exact q _ s1
      · rw [decide_eq_false h1]
        rw [decide_eq_false h1, Bool.false_and, Bool.false_and] at q
        walk_at "go"
        exact q _ s1
theorem c_lfls (T : Top K mg) : Cal P w K mg base "_law_is_floors" 5 P__law_is_floors (spVal K laysD) := cal_mk T.f__law_is_floors (ok_lfls T) (fun F => F.bindsN fun _ _ _ _ _ _ us hl => match us, hl with | [_, _], _ => rfl)
/-! the first wrong part -/
theorem posC_len (c : Nat) : ∀ (a : List Nat) (i : Nat), (posC c a i).length = a.count c
  | [], _ => rfl
  | x :: t, i => by
    unfold posC
    rw [List.count_cons]
    by_cases h : x = c
    · rw [if_pos h, List.length_cons, posC_len c t, if_pos (by rw [h]; exact beq_self_eq_true c)]
    · rw [if_neg h, posC_len c t, if_neg (by rw [beq_iff_eq]; exact h)]
      omega
theorem can_sgn (c : Nat) : canTok c = decide (c ∈ sgn) := by
  have fin : ∀ c : Nat, c < 127 → canTok c = decide (c ∈ sgn) := by decide +kernel
  by_cases h : c < 127
  · exact fin c h
  · have h1 : canTok c = false := by
      unfold canTok
      rw [decide_eq_false (show ¬ c ≤ 126 by omega), Bool.and_false, Bool.false_and]
    have h2 : ∀ x ∈ sgn, x < 127 := by decide +kernel
    rw [h1, decide_eq_false (fun z => h (h2 c z))]
theorem chrs_nd {cs : List Nat} : (cs.map fun c => (⟨#[c]⟩ : Str)).Nodup ↔ cs.Nodup := by
  constructor
  · intro h
    exact List.Pairwise.of_map (fun c => (⟨#[c]⟩ : Str)) (fun a b n e => n (by rw [e])) h
  · intro h
    refine List.Pairwise.map _ (fun a b n e => n ?_) h
    injection e with e
    have := congrArg Array.toList e
    simpa using this
theorem toks_law (z : Str) : toksB z = (decide (2 ≤ z.length) && (decide (z.length ≤ 6) && (z.cps.toList.map fun c => decide (c ∈ sgn) && decide (z.cps.toList.count c = 1)).all id)) := by
  unfold toksB
  rw [show z.length = z.cps.size from rfl]
  cases h2 : decide (2 ≤ z.cps.size) with
  | false => rfl
  | true =>
    cases h6 : decide (z.cps.size ≤ 6) with
    | false => rfl
    | true =>
      rw [Bool.true_and, Bool.true_and, Bool.true_and, Bool.true_and]
      have e1 : decide (((met (chrs z)).length : Int) = z.cps.size) = decide (z.cps.toList.Nodup) := by
        rw [decide_eq_decide]
        have m := (met_len (chrs z)).2
        rw [chrs_len] at m
        rw [show (chrs z).Nodup ↔ z.cps.toList.Nodup from chrs_nd] at m
        rw [← m]
        omega
      rw [e1, Bool.eq_iff_iff, Bool.and_eq_true, decide_eq_true_iff, List.all_eq_true, List.all_eq_true, List.nodup_iff_count]
      constructor
      · rintro ⟨nd, ok⟩ x hx
        obtain ⟨c, hc, rfl⟩ := List.mem_map.mp hx
        have o1 : canTok c = true := ok _ (List.mem_map.mpr ⟨c, hc, rfl⟩)
        rw [can_sgn] at o1
        have p := List.count_pos_iff.mpr hc
        have n := nd c
        show (decide (c ∈ sgn) && decide (z.cps.toList.count c = 1)) = true
        rw [o1, decide_eq_true (show z.cps.toList.count c = 1 by omega)]
        rfl
      · intro ok
        refine ⟨fun c => ?_, fun x hx => ?_⟩
        · by_cases hc : c ∈ z.cps.toList
          · have o1 : (decide (c ∈ sgn) && decide (z.cps.toList.count c = 1)) = true := ok _ (List.mem_map.mpr ⟨c, hc, rfl⟩)
            rw [Bool.and_eq_true] at o1
            have := of_decide_eq_true o1.2
            omega
          · rw [List.count_eq_zero.mpr hc]
            omega
        · obtain ⟨c, hc, rfl⟩ := List.mem_map.mp hx
          have o1 : (decide (c ∈ sgn) && decide (z.cps.toList.count c = 1)) = true := ok _ (List.mem_map.mpr ⟨c, hc, rfl⟩)
          rw [Bool.and_eq_true] at o1
          show canTok c = true
          rw [can_sgn]
          exact o1.1
theorem cnt_str (z : Str) (c : Nat) : Txt.count z (sOf [c]) = ((z.cps.toList.count c : Nat) : Int) := by
  have ez : sOf z.cps.toList = z := by cases z; rfl
  unfold Txt.count
  have := occ_C c z.cps.toList
  rw [ez] at this
  rw [show sOf [c] = ⟨#[c]⟩ from rfl, this, posC_len]
theorem in_signs (c : Nat) : (!(Builtin.Str.occurrences (sOf sgn) (sOf [c]) 0 (sOf sgn).length 1).isEmpty) = decide (c ∈ sgn) := by
  by_cases h : c ∈ sgn
  · rw [occ_yes h, decide_eq_true h]
    rfl
  · rw [occ_no h, decide_eq_false h]
    rfl
def spFW (K : PySem.W.Frag) : Sp := fun vs H Q _ => ∃ (S : Addr → Prop) (x : V) (t c tr pr ly ou b : PyData), vs = [x] ∧ Dq K S H x (.list [t, c, tr, pr, ly, ou, b]) ∧ Al S H ∧ (∀ d ∈ [t, c, tr, pr, ly, ou, b], smallD d = true) ∧ (∀ z, t = .str z → z.length ≤ 1000) ∧ ∀ H', Same H H' → Q (wrongV t c tr pr ly ou b) H'
theorem ok_fw (T : Top K mg) {f : Addr} {fd : FuncData} (F : FnP K "_law_first_wrong" s__law_first_wrong f fd) : FnOk P w K mg base CX0 6 f fd P__law_first_wrong (spFW K) := by
  have C__law_is_number := c_lnum (P := P) (w := w) (base := base) T
  have C__law_is_row := c_lrow (P := P) (w := w) (base := base) T
  have C__law_is_rows := c_lrows (P := P) (w := w) (base := base) T
  have C__law_is_floors := c_lfls (P := P) (w := w) (base := base) T
  have C__law_signs := c_signs (P := P) (w := w) (base := base) T
  refine F.ok sc__law_first_wrong (fun vs H Q E h => ?_) (fun cdv A outer s H vs Q E hr h => ?_)
  · obtain ⟨S, x, t, c, tr, pr, ly, ou, b, rfl, _⟩ := h
    rfl
  · obtain ⟨S, x, t, c, tr, pr, ly, ou, b, rfl, hx, al, hs, hz, q⟩ := h
    refine ⟨_, PSs.nox (pss_cons (ps_if (PW.pt (pw_or (pt_not (pt_val (pe_callB (k_isi (K := K) (by rfl)) (by rfl) T.z_isinstance (by decide +kernel) (pa_cons (pe_ix (k_ix (K := K) (by rfl)) (pv 0) pe_int (fun _ _ => rfl)) (pa_cons (pe_bltn (v := .ty "str") (u := .type "str") (by rfl) T.z_str (by decide +kernel) rfl) pa_nil))))) (pw_or1 (pt_not (pt_chain op_le op_le pe_int (pe_callB call_len_str (by rfl) T.z_len (by decide +kernel) (pa_cons (pe_ix (k_ix (K := K) (by rfl)) (pv 0) pe_int (fun _ _ => rfl)) pa_nil)) pe_int)))))
    (pss_one (ps_ret pe_str))
    pss_nil)
    (pss_cons (ps_if (pt_not (pt_val (pe_callB (k_all (K := K) (by rfl) (by rfl)) (by rfl) T.z_all (by decide +kernel) (pa_cons (pe_lc (own := [("sign", 1)]) (g := gName 1) (by rfl) sc__law_first_wrong.nd (pi_str (pe_ix (k_ix (K := K) (by rfl)) (pv 0) pe_int (fun _ _ => rfl))) (blkOk_by (own := [("sign", 1)]) (N := N__law_first_wrong) (sc := defScope s__law_first_wrong) (by decide +kernel)) (fun _ _ _ _ _ => pg_name (i := 1) sc__law_first_wrong.nd rfl (by first | exact Or.inl rfl | exact Or.inr rfl)) (fun _ _ _ _ _ => pts_nil) (fun _ _ _ _ _ => (pe_and (pe_cmpR op_in_str (pv 1) (pe_cal0 C__law_signs (hr.mono (by first | decide | omega)) (by rfl)) rfl) (pe_one (pe_cmpR op_eq (pe_m1 PySem.F.slot_str_count PySem.F.type_str_count mt_count (pe_ix (k_ix (K := K) (by rfl)) (pv 0) pe_int (fun _ _ => rfl)) (pv 1)) pe_int (nomark _)))))) pa_nil))))
    (pss_one (ps_ret pe_str))
    pss_nil)
    (pss_cons (ps_if (pt_not (pt_val (pe_cal C__law_is_number (hr.mono (by first | decide | omega)) (by rfl) (pa_cons (pe_ix (k_ix (K := K) (by rfl)) (pv 0) pe_int (fun _ _ => rfl)) (pa_cons pe_int (pa_cons pe_int pa_nil))))))
    (pss_one (ps_ret pe_str))
    pss_nil)
    (pss_cons (ps_if (PW.pt (pw_or (pt_not (pt_val (pe_callB (k_isiT (K := K) (by rfl)) (by rfl) T.z_isinstance (by decide +kernel) (pa_cons (pe_ix (k_ix (K := K) (by rfl)) (pv 0) pe_int (fun _ _ => rfl)) (pa_cons (pe_tup (pa_cons (pe_bltn (v := .ty "list") (u := .type "list") (by rfl) T.z_list (by decide +kernel) rfl) (pa_cons (pe_bltn (v := .ty "tuple") (u := .type "tuple") (by rfl) T.z_tuple (by decide +kernel) rfl) pa_nil))) pa_nil))))) (pw_or (pt_cmpR op_ne (pe_callB (k_len (K := K) (by rfl)) (by rfl) T.z_len (by decide +kernel) (pa_cons (pe_ix (k_ix (K := K) (by rfl)) (pv 0) pe_int (fun _ _ => rfl)) pa_nil)) (pe_callB call_len_str (by rfl) T.z_len (by decide +kernel) (pa_cons (pe_ix (k_ix (K := K) (by rfl)) (pv 0) pe_int (fun _ _ => rfl)) pa_nil)) (nomark _)) (pw_or1 (pt_not (pt_val (pe_callB (k_isiT (K := K) (by rfl)) (by rfl) T.z_isinstance (by decide +kernel) (pa_cons (pe_ix (k_ix (K := K) (by rfl)) (pe_ix (k_ix (K := K) (by rfl)) (pv 0) pe_int (fun _ _ => rfl)) pe_int (fun _ _ => rfl)) (pa_cons (pe_tup (pa_cons (pe_bltn (v := .ty "list") (u := .type "list") (by rfl) T.z_list (by decide +kernel) rfl) (pa_cons (pe_bltn (v := .ty "tuple") (u := .type "tuple") (by rfl) T.z_tuple (by decide +kernel) rfl) pa_nil))) pa_nil)))))))))
    (pss_one (ps_ret pe_str))
    pss_nil)
    (pss_cons (ps_par (i := 2) (j := 3) (by rfl) sc__law_first_wrong.nd rfl rfl (by decide) rfl rfl (pa_cons (pe_callB call_len_str (by rfl) T.z_len (by decide +kernel) (pa_cons (pe_ix (k_ix (K := K) (by rfl)) (pv 0) pe_int (fun _ _ => rfl)) pa_nil)) (pa_cons (pe_callB (k_len (K := K) (by rfl)) (by rfl) T.z_len (by decide +kernel) (pa_cons (pe_ix (k_ix (K := K) (by rfl)) (pe_ix (k_ix (K := K) (by rfl)) (pv 0) pe_int (fun _ _ => rfl)) pe_int (fun _ _ => rfl)) pa_nil)) pa_nil)) (by rfl))
    (pss_cons (ps_if (PW.pt (pw_or (pt_not (pt_chain op_le op_le pe_int (pv 3) pe_int)) (pw_or1 (pt_not (pt_val (pe_cal C__law_is_rows (hr.mono (by first | decide | omega)) (by rfl) (pa_cons (pe_ix (k_ix (K := K) (by rfl)) (pv 0) pe_int (fun _ _ => rfl)) (pa_cons (pv 2) (pa_cons (pv 3) pa_nil)))))))))
    (pss_one (ps_ret pe_str))
    pss_nil)
    (pss_cons (ps_if (PW.pt (pw_or (pt_not (pt_val (pe_callB (k_isiT (K := K) (by rfl)) (by rfl) T.z_isinstance (by decide +kernel) (pa_cons (pe_ix (k_ix (K := K) (by rfl)) (pv 0) pe_int (fun _ _ => rfl)) (pa_cons (pe_tup (pa_cons (pe_bltn (v := .ty "list") (u := .type "list") (by rfl) T.z_list (by decide +kernel) rfl) (pa_cons (pe_bltn (v := .ty "tuple") (u := .type "tuple") (by rfl) T.z_tuple (by decide +kernel) rfl) pa_nil))) pa_nil))))) (pw_or (pt_not (pt_chain op_le op_le pe_int (pe_callB (k_len (K := K) (by rfl)) (by rfl) T.z_len (by decide +kernel) (pa_cons (pe_ix (k_ix (K := K) (by rfl)) (pv 0) pe_int (fun _ _ => rfl)) pa_nil)) pe_int)) (pw_or1 (pt_not (pt_val (pe_cal C__law_is_rows (hr.mono (by first | decide | omega)) (by rfl) (pa_cons (pe_ix (k_ix (K := K) (by rfl)) (pv 0) pe_int (fun _ _ => rfl)) (pa_cons (pe_callB (k_len (K := K) (by rfl)) (by rfl) T.z_len (by decide +kernel) (pa_cons (pe_ix (k_ix (K := K) (by rfl)) (pv 0) pe_int (fun _ _ => rfl)) pa_nil)) (pa_cons (pv 3) pa_nil))))))))))
    (pss_one (ps_ret pe_str))
    pss_nil)
    (pss_cons (ps_if (pt_not (pt_val (pe_cal C__law_is_floors (hr.mono (by first | decide | omega)) (by rfl) (pa_cons (pe_ix (k_ix (K := K) (by rfl)) (pv 0) pe_int (fun _ _ => rfl)) (pa_cons (pv 3) pa_nil)))))
    (pss_one (ps_ret pe_str))
    pss_nil)
    (pss_cons (ps_if (pt_not (pt_val (pe_cal C__law_is_rows (hr.mono (by first | decide | omega)) (by rfl) (pa_cons (pe_ix (k_ix (K := K) (by rfl)) (pv 0) pe_int (fun _ _ => rfl)) (pa_cons (pv 2) (pa_cons (pv 3) pa_nil))))))
    (pss_one (ps_ret pe_str))
    pss_nil)
    (pss_one (ps_ret (pe_ifExp (pt_val (pe_cal C__law_is_row (hr.mono (by first | decide | omega)) (by rfl) (pa_cons (pe_ix (k_ix (K := K) (by rfl)) (pv 0) pe_int (fun _ _ => rfl)) (pa_cons (pv 2) pa_nil)))) pe_non pe_str)))))))))))), ?_⟩
    try simp only [cxK]
    rw [show L2.start N__law_first_wrong [x] = [some x, none, none, none] from rfl]
    obtain ⟨bp, xs, rfl, hl, hds, _⟩ := hx.list_inv
    obtain ⟨t1, c1, tr1, pr1, ly1, ou1, b1, rfl, ht, hc, htr, hpr, hly, hou, hb⟩ := dqAll7 hds
    have nostr : toksD t = false → ∀ H', Same H H' → Q (.str (Str.ofString "tokens")) H' := fun h H' s => by
      have z := q H' s
      unfold wrongV at z
      rw [if_neg (by rw [h]; exact Bool.false_ne_true)] at z
      exact z
    cases ht with
    | str z =>
      have q2 : ∀ H', Same H H' → Q (wrongV (.str z) c tr pr ly ou b) H' := q
      unfold wrongV at q2
      rw [show toksD (.str z) = _ from toks_law z] at q2 nostr
      have zl : z.length ≤ 1000 := hz z rfl
      have zs : z.length ≤ sizeLine := Nat.le_of_lt (small1000 zl)
      walk_at "go"
      refine ⟨z, rfl, zs, ?_⟩
      walk_at "go"
      by_cases h2 : (2 : Int) ≤ (z.length : Int)
      · rw [decide_eq_true h2]
        rw [decide_eq_true (show 2 ≤ z.length by omega), Bool.true_and] at q2 nostr
        walk_at "go"
        by_cases h6 : (z.length : Int) ≤ 6
        · rw [decide_eq_true h6]
          rw [decide_eq_true (show z.length ≤ 6 by omega), Bool.true_and] at q2 nostr
          walk_at "go"
          refine lcS (cs := z.cps.toList) (f := fun c => .bl (decide (c ∈ sgn) && decide (z.cps.toList.count c = 1))) (σ0 := [some (.ref bp), none, none, none]) rfl (by rw [Array.length_toList]; exact zl) (fun D acc c N hD hc k => ?_) (fun D hD => ?_)
          · walk_at "go"
            refine ⟨rfl, _, _, rfl, rfl, ?_⟩
            rw [in_signs]
            walk_at "go"
            by_cases hm : c ∈ sgn
            · rw [decide_eq_true hm]
              rw [decide_eq_true hm] at k
              walk_at "go"
              refine ⟨_, _, rfl, rfl, ?_⟩
              rw [cnt_str]
              walk_at "go"
              rw [show decide (((z.cps.toList.count c : Nat) : Int) = 1) = decide (z.cps.toList.count c = 1) by rw [decide_eq_decide]; omega]
              exact k
            · rw [decide_eq_false hm]
              rw [decide_eq_false hm] at k
              walk_at "go"
              exact k
          · have eL : SqL K (upd H D (.lst (z.cps.toList.map fun c => V.bl (decide (c ∈ sgn) && decide (z.cps.toList.count c = 1))))) D ((z.cps.toList.map fun c => decide (c ∈ sgn) && decide (z.cps.toList.count c = 1)).map V.bl) := .of (by rw [upd_same, List.map_map]; rfl)
            have s1 := same_new hD (o := .lst (z.cps.toList.map fun c => V.bl (decide (c ∈ sgn) && decide (z.cps.toList.count c = 1))))
            generalize upd H D (.lst (z.cps.toList.map fun c => V.bl (decide (c ∈ sgn) && decide (z.cps.toList.count c = 1)))) = H1 at eL s1 ⊢
            walk_at "go"
            cases hall : (z.cps.toList.map fun c => decide (c ∈ sgn) && decide (z.cps.toList.count c = 1)).all id with
            | false =>
              rw [hall] at nostr
              walk_at "go"
              exact nostr rfl _ s1
            | true =>
              rw [hall, if_pos rfl] at q2
              have hl1 := s1 _ _ hl
              walk_at "go"
              refine g_isNumQ (hc.sm s1).dp ?_
              cases hcap : numD c 1 99 with
              | false =>
                rw [hcap, if_neg Bool.false_ne_true] at q2
                walk_at "go"
                exact q2 _ s1
              | true =>
                rw [hcap, if_pos rfl] at q2
                walk_at "go"
                rename_i p2 hp2
                have s2 := s1.trans (same_new hp2 (o := .tup [V.ty "list", V.ty "tuple"]))
                have hl2 := s2 _ _ hl
                rw [show lenD (.str z) = (z.length : Int) from rfl] at q2
                have notr : tokD tr z.length = false → ∀ H', Same H H' → Q (.str (Str.ofString "token_rows")) H' := fun h H' s => by
                  have z2 := q2 H' s
                  rw [if_neg (by rw [h]; exact Bool.false_ne_true)] at z2
                  exact z2
                have tk : tokD tr z.length = (isSeqD tr && (decide (((itsD tr).length : Int) = z.length) && (isSeqD (fstD tr) && (decide ((1 : Int) ≤ (itsD (fstD tr)).length) && (decide (((itsD (fstD tr)).length : Int) ≤ 4) && rowsD tr z.length z.length (itsD (fstD tr)).length))))) := by
                  unfold tokD
                  rw [listD_eq, show listD (fstD tr) 1 4 = (isSeqD (fstD tr) && (decide ((1 : Int) ≤ (itsD (fstD tr)).length) && decide (((itsD (fstD tr)).length : Int) ≤ 4))) from rfl]
                  simp only [Bool.and_assoc]
                rw [tk] at notr
                refine g_isSeq ((htr.sm s1).sm (same_new hp2)).dp upd_same ?_
                cases hqt : isSeqD tr with
                | false =>
                  rw [hqt, Bool.false_and] at notr
                  walk_at "go"
                  exact notr rfl _ s2
                | true =>
                  rw [hqt, Bool.true_and] at notr
                  walk_at "go"
                  have htr2 := (htr.sm s1).sm (same_new hp2 (o := .tup [V.ty "list", V.ty "tuple"]))
                  generalize upd H1 p2 (.tup [V.ty "list", V.ty "tuple"]) = H2 at s2 hl2 htr2 ⊢
                  refine g_lenQ htr2 hqt ?_
                  walk_at "go"
                  refine ⟨z, rfl, zs, ?_⟩
                  walk_at "go"
                  by_cases hn : ((itsD tr).length : Int) = z.length
                  · rw [decide_eq_true hn]
                    rw [decide_eq_true hn, Bool.true_and] at notr
                    have ltr : listD tr z.length z.length = true := by rw [listD_eq, hqt, decide_eq_true hn]; rfl
                    have e0 := fst_at ltr (by omega)
                    walk_at "go"
                    refine g_ixQ (i := 0) htr2 hqt e0 fun v0 hv0 => ?_
                    walk_at "go"
                    rename_i p3 hp3
                    have s3 := s2.trans (same_new hp3 (o := .tup [V.ty "list", V.ty "tuple"]))
                    have hl3 := s3 _ _ hl
                    have hv03 := hv0.sm (same_new hp3 (o := .tup [V.ty "list", V.ty "tuple"]))
                    refine g_isSeq hv03.dp upd_same ?_
                    generalize upd H2 p3 (.tup [V.ty "list", V.ty "tuple"]) = H3 at s3 hl3 hv03 ⊢
                    have htr3 := htr.sm s3
                    have al3 := al.sm s3
                    cases hqf : isSeqD (fstD tr) with
                    | false =>
                      rw [hqf, Bool.false_and] at notr
                      walk_at "go"
                      exact notr rfl _ s3
                    | true =>
                      rw [hqf, Bool.true_and] at notr
                      walk_at "go"
                      refine ⟨z, rfl, zs, ?_⟩
                      walk_at "go"
                      refine g_ixQ (i := 0) htr3 hqt e0 fun v1 hv1 => ?_
                      walk_at "go"
                      refine g_lenQ hv1 hqf ?_
                      walk_at "go"
                      by_cases m1 : (1 : Int) ≤ ((itsD (fstD tr)).length : Int)
                      · rw [decide_eq_true m1]
                        rw [decide_eq_true m1, Bool.true_and] at notr
                        walk_at "go"
                        by_cases m4 : ((itsD (fstD tr)).length : Int) ≤ 4
                        · rw [decide_eq_true m4]
                          rw [decide_eq_true m4, Bool.true_and] at notr
                          walk_at "go"
                          refine g_lrows htr3 al3 (hs tr (by simp)) fun H4 s4 => ?_
                          have s34 := s3.trans s4
                          have hl4 := s34 _ _ hl
                          cases hrt : rowsD tr z.length z.length (itsD (fstD tr)).length with
                          | false =>
                            rw [hrt] at notr
                            walk_at "go"
                            exact notr rfl _ s34
                          | true =>
                            have tkt : tokD tr z.length = true := by rw [tk, hqt, decide_eq_true hn, hqf, decide_eq_true m1, decide_eq_true m4, hrt]; rfl
                            rw [tkt, if_pos rfl] at q2
                            have nopr : rowsD pr 1 6 (itsD (fstD tr)).length = false → ∀ H', Same H H' → Q (.str (Str.ofString "place_rows")) H' := fun h H' s => by
                              have z2 := q2 H' s
                              rw [if_neg (by rw [h]; exact Bool.false_ne_true)] at z2
                              exact z2
                            have pk : rowsD pr 1 6 (itsD (fstD tr)).length = (isSeqD pr && (decide ((1 : Int) ≤ (itsD pr).length) && (decide (((itsD pr).length : Int) ≤ 6) && rowsD pr (itsD pr).length (itsD pr).length (itsD (fstD tr)).length))) := by
                              unfold rowsD
                              rw [listD_eq (d := pr), decide_eq_true rfl, Bool.and_true, show listD pr 1 6 = (isSeqD pr && (decide ((1 : Int) ≤ (itsD pr).length) && decide (((itsD pr).length : Int) ≤ 6))) from rfl]
                              cases isSeqD pr <;> simp [Bool.and_assoc]
                            rw [pk] at nopr
                            walk_at "go"
                            rename_i p5 hp5
                            have s5 := s34.trans (same_new hp5 (o := .tup [V.ty "list", V.ty "tuple"]))
                            have hl5 := s5 _ _ hl
                            refine g_isSeq ((hpr.sm s34).sm (same_new hp5)).dp upd_same ?_
                            generalize upd H4 p5 (.tup [V.ty "list", V.ty "tuple"]) = H5 at s5 hl5 ⊢
                            have hpr5 := hpr.sm s5
                            cases hqp : isSeqD pr with
                            | false =>
                              rw [hqp, Bool.false_and] at nopr
                              walk_at "go"
                              exact nopr rfl _ s5
                            | true =>
                              rw [hqp, Bool.true_and] at nopr
                              walk_at "go"
                              refine g_lenQ hpr5 hqp ?_
                              walk_at "go"
                              by_cases k1 : (1 : Int) ≤ ((itsD pr).length : Int)
                              · rw [decide_eq_true k1]
                                rw [decide_eq_true k1, Bool.true_and] at nopr
                                walk_at "go"
                                by_cases k6 : ((itsD pr).length : Int) ≤ 6
                                · rw [decide_eq_true k6]
                                  rw [decide_eq_true k6, Bool.true_and] at nopr
                                  walk_at "go"
                                  refine g_lenQ hpr5 hqp ?_
                                  walk_at "go"
                                  refine g_lrows hpr5 (al.sm s5) (hs pr (by simp)) fun H6 s6 => ?_
                                  have s56 := s5.trans s6
                                  have hl6 := s56 _ _ hl
                                  cases hrp : rowsD pr (itsD pr).length (itsD pr).length (itsD (fstD tr)).length with
                                  | false =>
                                    rw [hrp] at nopr
                                    walk_at "go"
                                    exact nopr rfl _ s56
                                  | true =>
                                    have pkt : rowsD pr 1 6 (itsD (fstD tr)).length = true := by rw [pk, hqp, decide_eq_true k1, decide_eq_true k6, hrp]; rfl
                                    rw [pkt, if_pos rfl] at q2
                                    walk_at "go"
                                    refine g_val (hly.sm s56) (al.sm s56) (hs ly (by simp)) fun H7 s7 => ?_
                                    have s67 := s56.trans s7
                                    have hl7 := s67 _ _ hl
                                    cases hll : laysD ly (itsD (fstD tr)).length with
                                    | false =>
                                      rw [hll, if_neg Bool.false_ne_true] at q2
                                      walk_at "go"
                                      exact q2 _ s67
                                    | true =>
                                      rw [hll, if_pos rfl] at q2
                                      walk_at "go"
                                      refine g_lrows (hou.sm s67) (al.sm s67) (hs ou (by simp)) fun H8 s8 => ?_
                                      have s78 := s67.trans s8
                                      have hl8 := s78 _ _ hl
                                      cases hro : rowsD ou z.length z.length (itsD (fstD tr)).length with
                                      | false =>
                                        rw [hro, if_neg Bool.false_ne_true] at q2
                                        walk_at "go"
                                        exact q2 _ s78
                                      | true =>
                                        rw [hro, if_pos rfl] at q2
                                        walk_at "go"
                                        refine g_val (hb.sm s78) (al.sm s78) (hs b (by simp)) fun H9 s9 => ?_
                                        cases hrb : rowD b z.length with
                                        | false =>
                                          rw [hrb, if_neg Bool.false_ne_true] at q2
                                          walk_at "go"
                                          exact q2 _ (s78.trans s9)
                                        | true =>
                                          rw [hrb, if_pos rfl] at q2
                                          walk_at "go"
                                          exact q2 _ (s78.trans s9)
                                · rw [decide_eq_false k6]
                                  rw [decide_eq_false k6, Bool.false_and] at nopr
                                  walk_at "go"
                                  exact nopr rfl _ s5
                              · rw [decide_eq_false k1]
                                rw [decide_eq_false k1, Bool.false_and] at nopr
                                walk_at "go"
                                exact nopr rfl _ s5
                        · rw [decide_eq_false m4]
                          rw [decide_eq_false m4, Bool.false_and] at notr
                          walk_at "go"
                          exact notr rfl _ s3
                      · rw [decide_eq_false m1]
                        rw [decide_eq_false m1, Bool.false_and] at notr
                        walk_at "go"
                        exact notr rfl _ s3
                  · rw [decide_eq_false hn]
                    rw [decide_eq_false hn, Bool.false_and] at notr
                    walk_at "go"
                    exact notr rfl _ s2
        · rw [decide_eq_false h6]
          rw [decide_eq_false (show ¬ z.length ≤ 6 by omega), Bool.false_and] at nostr
          walk_at "go"
          exact nostr rfl _ fun _ _ z => z
      · rw [decide_eq_false h2]
        rw [decide_eq_false (show ¬ 2 ≤ z.length by omega), Bool.false_and] at nostr
        walk_at "go"
        exact nostr rfl _ fun _ _ z => z
    | non => walk_at "go"; exact nostr rfl _ fun _ _ z => z
    | bl b => walk_at "go"; exact nostr rfl _ fun _ _ z => z
    | int b => walk_at "go"; exact nostr rfl _ fun _ _ z => z
    | lst ha hda =>
      have ha := ha H ChgS.refl
      walk_at "go"
      exact nostr rfl _ fun _ _ z => z
    | tup ha hda =>
      have ha := ha H ChgS.refl
      walk_at "go"
      exact nostr rfl _ fun _ _ z => z
theorem c_fw (T : Top K mg) : Cal P w K mg base "_law_first_wrong" 6 P__law_first_wrong (spFW K) := cal_mk T.f__law_first_wrong (ok_fw T) (fun F => F.bindsN fun _ _ _ _ _ _ us hl => match us, hl with | [_], _ => rfl)
end

set_option Elab.async false
set_option linter.all false
set_option maxRecDepth 100000
set_option maxHeartbeats 4000000
open PySem PySem.Spec L2





section
variable {P : Program} {w : World} {K : PySem.W.Frag} {mg : Str → Option Value} {base : Heap}
/-! data with bounded texts -/
mutual
def strB (L : Nat) : PyData → Bool
  | .list xs => strBs L xs
  | .tuple xs => strBs L xs
  | .str z => decide (z.length ≤ L)
  | _ => true
def strBs (L : Nat) : List PyData → Bool
  | [] => true
  | x :: xs => strB L x && strBs L xs
end
theorem strBs_iff {L : Nat} : ∀ {xs : List PyData}, strBs L xs = true ↔ ∀ x ∈ xs, strB L x = true
  | [] => ⟨fun _ x hx => absurd hx List.not_mem_nil, fun _ => rfl⟩
  | x :: xs => by
    show (strB L x && strBs L xs) = true ↔ _
    rw [Bool.and_eq_true, strBs_iff, List.forall_mem_cons]
mutual
theorem strB_mono {L M : Nat} (h : L ≤ M) : ∀ {d : PyData}, strB L d = true → strB M d = true
  | .list xs, z => strBs_mono h (ds := xs) z
  | .tuple xs, z => strBs_mono h (ds := xs) z
  | .str s, z => decide_eq_true (Nat.le_trans (of_decide_eq_true z) h)
  | .none, _ => rfl
  | .bool _, _ => rfl
  | .int _, _ => rfl
  | .dict _, _ => rfl
theorem strBs_mono {L M : Nat} (h : L ≤ M) : ∀ {ds : List PyData}, strBs L ds = true → strBs M ds = true
  | [], _ => rfl
  | d :: ds, z => by
    have z : (strB L d && strBs L ds) = true := z
    rw [Bool.and_eq_true] at z
    show (strB M d && strBs M ds) = true
    rw [strB_mono h z.1, strBs_mono h z.2]
    rfl
end
/-- data of bounded depth, lengths and texts -/
structure Sz (N m L : Nat) (d : PyData) : Prop where
  b : bndD N m d = true
  s : strB L d = true
theorem Sz.mono {N m L N2 m2 L2 : Nat} {d : PyData} (h : Sz N m L d) (h1 : N ≤ N2) (h2 : m ≤ m2) (h3 : L ≤ L2) : Sz N2 m2 L2 d := ⟨bnd_mono h.b h1 h2, strB_mono h3 h.s⟩
theorem sz_list {N m L : Nat} {xs : List PyData} : Sz N m L (.list xs) ↔ 0 < N ∧ xs.length ≤ m ∧ ∀ x ∈ xs, Sz (N - 1) m L x := by
  constructor
  · rintro ⟨b, s⟩
    obtain ⟨h1, h2, h3⟩ := bnd_list.mp b
    exact ⟨h1, h2, fun x hx => ⟨h3 x hx, strBs_iff.mp s x hx⟩⟩
  · rintro ⟨h1, h2, h3⟩
    exact ⟨bnd_list.mpr ⟨h1, h2, fun x hx => (h3 x hx).b⟩, strBs_iff.mpr fun x hx => (h3 x hx).s⟩
theorem sz_tup {N m L : Nat} {xs : List PyData} : Sz N m L (.tuple xs) ↔ 0 < N ∧ xs.length ≤ m ∧ ∀ x ∈ xs, Sz (N - 1) m L x := by
  constructor
  · rintro ⟨b, s⟩
    obtain ⟨h1, h2, h3⟩ := bnd_tup.mp b
    exact ⟨h1, h2, fun x hx => ⟨h3 x hx, strBs_iff.mp s x hx⟩⟩
  · rintro ⟨h1, h2, h3⟩
    exact ⟨bnd_tup.mpr ⟨h1, h2, fun x hx => (h3 x hx).b⟩, strBs_iff.mpr fun x hx => (h3 x hx).s⟩
theorem sz_str {N m L : Nat} {z : Str} (h1 : PyData.strOk z = true) (h2 : z.length ≤ L) : Sz N m L (.str z) := ⟨by unfold bndD; exact h1, decide_eq_true h2⟩
theorem sz_int {N m L : Nat} {i : Int} : Sz N m L (.int i) := ⟨by unfold bndD; rfl, rfl⟩
/-! odd values -/
def spOdd (K : PySem.W.Frag) : Sp := fun vs H Q _ => ∃ (S : Addr → Prop) (a l : Addr), vs = [.ref a] ∧ Bag H a l ∧ S a ∧ Al S H ∧ ∀ (y : V) (d : PyData) (H' : Hp), Dq K S H' y d → Sz 1 2 3 d → Bag H' a l → Chg a H H' → Q y H'
theorem g_odd {S : Addr → Prop} {a l : Addr} {H : Hp} {Q : VK} {E : XK} (B : Bag H a l) (sa : S a) (al : Al S H) (q : ∀ (y : V) (d : PyData) (H' : Hp), Dq K S H' y d → Sz 1 2 3 d → Bag H' a l → Chg a H H' → Q y H') : spOdd K [.ref a] H Q E := ⟨S, a, l, rfl, B, sa, al, q⟩
theorem ok_odd (T : Top K mg) {f : Addr} {fd : FuncData} (F : FnP K "_law_odd" s__law_odd f fd) : FnOk P w K mg base CX0 3 f fd P__law_odd (spOdd K) := by
  have C__law_draw := c_draw1 (P := P) (w := w) (base := base) T
  have C__law_of := c_of (P := P) (w := w) (base := base) T
  refine F.ok sc__law_odd (fun vs H Q E h => ?_) (fun cdv A outer s H vs Q E hr h => ?_)
  · obtain ⟨S, a, l, rfl, _⟩ := h
    rfl
  · obtain ⟨S, a, l, rfl, B, sa, al, q⟩ := h
    refine ⟨_, PSs.nox (pss_cons (ps_set (i := 1) sc__law_odd.nd rfl (by first | exact Or.inl rfl | exact Or.inr rfl) (pe_cal C__law_draw (hr.mono (by first | decide | omega)) (by rfl) (pa_cons (pv 0) (pa_cons pe_int pa_nil))))
    (pss_cons (ps_if (pt_cmpR op_eq (pv 1) pe_int (nomark _))
    (pss_one (ps_ret (pe_cal C__law_of (hr.mono (by first | decide | omega)) (by rfl) (pa_cons (pv 0) (pa_cons (pe_lst (pa_cons pe_non (pa_cons pe_bl (pa_cons pe_bl (pa_cons pe_str (pa_cons pe_str (pa_cons pe_str (pa_cons pe_str (pa_cons pe_str (pa_cons pe_str (pa_cons (pe_tup pa_nil) (pa_cons (pe_lst pa_nil) (pa_cons (pe_lst (pa_cons pe_int pa_nil)) (pa_cons (pe_tup (pa_cons pe_int pa_nil)) (pa_cons (pe_lst (pa_cons pe_int (pa_cons pe_int pa_nil))) pa_nil))))))))))))))) pa_nil)))))
    pss_nil)
    (pss_cons (ps_if (pt_cmpR op_eq (pv 1) pe_int (nomark _))
    (pss_one (ps_ret (pe_cal C__law_of (hr.mono (by first | decide | omega)) (by rfl) (pa_cons (pv 0) (pa_cons (pe_lst (pa_cons pe_int (pa_cons (pe_op op_sub pe_int pe_int) (pa_cons pe_int (pa_cons (pe_op op_sub pe_int pe_int) (pa_cons pe_int (pa_cons pe_int (pa_cons pe_int (pa_cons pe_int (pa_cons pe_int pa_nil)))))))))) pa_nil)))))
    pss_nil)
    (pss_one (ps_ret (pe_op op_sub (pe_cal C__law_draw (hr.mono (by first | decide | omega)) (by rfl) (pa_cons (pv 0) (pa_cons pe_int pa_nil))) pe_int)))))), ?_⟩
    try simp only [cxK]
    rw [show L2.start N__law_odd [.ref a] = [some (.ref a), none] from rfl]
    walk_at "go"
    refine g_drawB B ⟨by omega, by omega⟩ fun r1 H1 r1a r1b B1 c1 => ?_
    have al1 := al.bag c1 B1 sa
    walk_at "go"
    by_cases h0 : r1 = 0
    · rw [decide_eq_true h0]
      walk_at "go"
      rename_i t0 ht0 e0 he0 o0 ho0 t1 ht1 o1 ho1 pp hpp
      have s1 := same_new ht0 (o := .tup [])
      have s2 := s1.trans (same_new he0 (o := .lst []))
      have s3 := s2.trans (same_new ho0 (o := .lst [.int 0]))
      have s4 := s3.trans (same_new ht1 (o := .tup [.int 1]))
      have s5 := s4.trans (same_new ho1 (o := .lst [.int 1, .int 2]))
      have n0 := al1.no ht0
      have n1 := (al1.sm s1).no he0
      have n2 := (al1.sm s2).no ho0
      have n3 := (al1.sm s3).no ht1
      have n4 := (al1.sm s4).no ho1
      have no : ∀ {b : Addr}, ¬ S b → b ≠ a := fun h e => h (e ▸ sa)
      have B5 := bag_sm B1 s5
      refine g_of (bag_new B5 hpp) upd_same (ne_bag B5 hpp) ⟨by simp, by simp⟩ fun v H2 hv B2 c2 => ?_
      have cc := (c1.trans (sm_chg s5)).trans ((Chg.new hpp).trans c2)
      have st : ∀ (z : Str), PyData.strOk z = true → z.length ≤ 3 → ∃ d, Dq K S H2 (.str z) d ∧ Sz 1 2 3 d := fun z h1 h2 => ⟨_, .str z, sz_str h1 h2⟩
      obtain ⟨d, hd, hz⟩ : ∃ d, Dq K S H2 v d ∧ Sz 1 2 3 d := by
        simp only [List.mem_cons, List.not_mem_nil, or_false] at hv
        rcases hv with rfl | rfl | rfl | rfl | rfl | rfl | rfl | rfl | rfl | rfl | rfl | rfl | rfl | rfl
        · exact ⟨_, .non, rfl, rfl⟩
        · exact ⟨_, .bl _, rfl, rfl⟩
        · exact ⟨_, .bl _, rfl, rfl⟩
        · exact st _ (by decide +kernel) (by decide +kernel)
        · exact st _ (by decide +kernel) (by decide +kernel)
        · exact st _ (by decide +kernel) (by decide +kernel)
        · exact st _ (by decide +kernel) (by decide +kernel)
        · exact st _ (by decide +kernel) (by decide +kernel)
        · exact st _ (by decide +kernel) (by decide +kernel)
        · exact ⟨_, dq_newT n0 (c2 _ _ (no n0) (by walk_at "h")) .nil, rfl, rfl⟩
        · exact ⟨_, dq_new n1 (c2 _ _ (no n1) (by walk_at "h")) .nil, rfl, rfl⟩
        · exact ⟨_, dq_new n2 (c2 _ _ (no n2) (by walk_at "h")) (.cons (.int 0) .nil), rfl, rfl⟩
        · exact ⟨_, dq_newT n3 (c2 _ _ (no n3) (by walk_at "h")) (.cons (.int 1) .nil), rfl, rfl⟩
        · exact ⟨_, dq_new n4 (c2 _ _ (no n4) (by walk_at "h")) (.cons (.int 1) (.cons (.int 2) .nil)), rfl, rfl⟩
      exact q _ _ _ hd hz B2 cc
    · rw [decide_eq_false h0]
      walk_at "go"
      by_cases h1 : r1 = 1
      · rw [decide_eq_true h1]
        walk_at "go"
        rename_i p hp
        refine g_of (bag_new B1 hp) upd_same (ne_bag B1 hp) ⟨by simp, by simp⟩ fun v H2 hv B2 c2 => ?_
        have cc := (c1.trans (Chg.new hp)).trans c2
        obtain ⟨i, rfl⟩ : ∃ i, v = .int i := by
          simp only [List.mem_cons, List.not_mem_nil, or_false] at hv
          rcases hv with rfl | rfl | rfl | rfl | rfl | rfl | rfl | rfl | rfl <;> exact ⟨_, rfl⟩
        exact q _ _ _ (.int i) sz_int B2 cc
      · rw [decide_eq_false h1]
        walk_at "go"
        refine g_drawB B1 ⟨by omega, by omega⟩ fun r2 H2 r2a r2b B2 c2 => ?_
        walk_at "go"
        exact q _ _ _ (.int _) sz_int B2 (c1.trans c2)
theorem c_odd (T : Top K mg) : Cal P w K mg base "_law_odd" 3 P__law_odd (spOdd K) := cal_mk T.f__law_odd (ok_odd T) (fun F => F.bindsN fun _ _ _ _ _ _ us hl => match us, hl with | [_], _ => rfl)
/-! _law_free -/
def spFree (K : PySem.W.Frag) : Sp := fun vs H Q _ => ∃ (a l : Addr) (n : Int), vs = [.ref a, .int n] ∧ Bag H a l ∧ (1 ≤ n ∧ n ≤ 1000) ∧ ∀ b, Q (.bl b) H
theorem ok_free (T : Top K mg) {f : Addr} {fd : FuncData} (F : FnP K "_law_free" s__law_free f fd) : FnOk P w K mg base CX0 1 f fd P__law_free (spFree K) := by
  refine F.ok sc__law_free (fun vs H Q E h => ?_) (fun cdv A outer s H vs Q E hr h => ?_)
  · obtain ⟨a, l, n, rfl, _⟩ := h
    rfl
  · obtain ⟨a, l, n, rfl, ⟨ns, i, g, m, c, e1, e2, n1, i0, g0, m0, m1, c0⟩, hn, q⟩ := h
    refine ⟨_, PSs.nox (pss_one (ps_ret (pe_and (pe_cmpR op_eq (pe_ix (k_ix (K := K) (by rfl)) (pv 0) pe_int (fun _ _ => rfl)) pe_int (nomark _)) (pe_and (pe_cmpR op_ge (pe_ix (k_ix (K := K) (by rfl)) (pv 0) pe_int (fun _ _ => rfl)) (pe_callB (k_len (K := K) (by rfl)) (by rfl) T.z_len (by decide +kernel) (pa_cons (pe_ix (k_ix (K := K) (by rfl)) (pv 0) pe_int (fun _ _ => rfl)) pa_nil)) (nomark _)) (pe_one (pe_cmpR op_eq (pe_op op_mod (pe_callTy c_int (by rfl) T.z_int (by decide +kernel) (pa_cons (pe_op op_fdiv (pe_ix (k_ix (K := K) (by rfl)) (pv 0) pe_int (fun _ _ => rfl)) pe_int) pa_nil)) (pv 1)) pe_int (nomark _))))))), ?_⟩
    try simp only [cxK]
    rw [show L2.start N__law_free [.ref a, .int n] = [some (.ref a), some (.int n)] from rfl]
    have eL : SqL K H l (ns.map V.int) := .of e2
    walk_at "go"
    by_cases hg : g = 0
    case neg =>
      rw [decide_eq_false hg]
      exact q _
    rw [decide_eq_true hg]
    walk_at "go"
    rw [List.length_map]
    by_cases hi : (ns.length : Int) ≤ i
    case neg =>
      rw [decide_eq_false hi]
      walk_at "go"
      exact q _
    rw [decide_eq_true hi]
    walk_at "go"
    exact q _
theorem c_free (T : Top K mg) : Cal P w K mg base "_law_free" 1 P__law_free (spFree K) := cal_mk T.f__law_free (ok_free T) (fun F => F.bindsN fun _ _ _ _ _ _ us hl => match us, hl with | [_, _], _ => rfl)
end

set_option Elab.async false
set_option linter.all false
set_option maxRecDepth 100000
set_option maxHeartbeats 4000000
open PySem PySem.Spec L2





section
variable {P : Program} {w : World} {K : PySem.W.Frag} {mg : Str → Option Value} {base : Heap}
theorem strOk_s {cs : List Nat} : PyData.strOk (sOf cs) = true ↔ ∀ c ∈ cs, c < 0x110000 := by
  unfold PyData.strOk
  rw [Array.all_eq_true_iff_forall_mem]
  simp [sOf]
theorem strOk_app {a b : Str} (h1 : PyData.strOk a = true) (h2 : PyData.strOk b = true) : PyData.strOk (a ++ b) = true := by
  unfold PyData.strOk at *
  show (a.cps ++ b.cps).all _ = true
  rw [Array.all_append, h1, h2]
  rfl
theorem cutV_from (xs : List V) (n : Nat) : cutV xs (some (n : Int)) none = xs.drop n := by
  unfold cutV
  rw [HT.sIx_nat, HT.sIx_none]
  rcases Nat.le_total n xs.length with h | h
  · rw [Nat.min_eq_left h, List.take_of_length_le (by rw [List.length_drop]; omega)]
  · rw [Nat.min_eq_right h, List.drop_eq_nil_of_le (Nat.le_refl _), List.drop_eq_nil_of_le h, List.take_nil]
def spBend (K : PySem.W.Frag) (n : Nat) : Sp := fun vs H Q _ => ∃ (S : Addr → Prop) (a l : Addr) (x : V) (d : PyData) (k N m L : Nat), vs = [.ref a, x, .int (k : Nat)] ∧ k < n ∧ Bag H a l ∧ S a ∧ Al S H ∧ Dq K S H x d ∧ Sz N m L d ∧ N ≤ 12 ∧ 2 ≤ m ∧ m ≤ 60 ∧ 3 ≤ L ∧ L ≤ 300 ∧
  ∀ (y : V) (d' : PyData) (H' : Hp), Dq K S H' y d' → Sz (N + 1) (m + 1) (2 * L + 2) d' → Bag H' a l → Chg a H H' → Q y H'
theorem g_bend {S : Addr → Prop} {n k N m L : Nat} {a l : Addr} {x : V} {d : PyData} {H : Hp} {Q : VK} {E : XK} (hk : k < n) (B : Bag H a l) (sa : S a) (al : Al S H) (h : Dq K S H x d) (hb : Sz N m L d) (h9 : N ≤ 12) (h2 : 2 ≤ m) (h6 : m ≤ 60) (l3 : 3 ≤ L) (l300 : L ≤ 300)
    (q : ∀ (y : V) (d' : PyData) (H' : Hp), Dq K S H' y d' → Sz (N + 1) (m + 1) (2 * L + 2) d' → Bag H' a l → Chg a H H' → Q y H') : spBend K n [.ref a, x, .int (k : Nat)] H Q E := ⟨S, a, l, x, d, k, N, m, L, rfl, hk, B, sa, al, h, hb, h9, h2, h6, l3, l300, q⟩
theorem ok_bend {n : Nat} (T : Top K mg) (C__law_bend : Cal P w K mg base "_law_bend" (n + 4) P__law_bend (spBend K n)) {f : Addr} {fd : FuncData} (F : FnP K "_law_bend" s__law_bend f fd) : FnOk P w K mg base CX0 (n + 5) f fd P__law_bend (spBend K (n + 1)) := by
  have C__law_draw := c_draw1 (P := P) (w := w) (base := base) T
  have C__law_of := c_of (P := P) (w := w) (base := base) T
  have C__law_odd := c_odd (P := P) (w := w) (base := base) T
  refine F.ok sc__law_bend (fun vs H Q E h => ?_) (fun cdv A outer s H vs Q E hr h => ?_)
  · obtain ⟨S, a, l, x, d, k, N, m, L, rfl, _⟩ := h
    rfl
  · obtain ⟨S, a, l, x, d, k, N, m, L, rfl, hk, B, sa, al, hx, hb, N9, m2, m60, L3, L300, q⟩ := h
    have no : ∀ {b : Addr}, ¬ S b → b ≠ a := fun h e => h (e ▸ sa)
    have qodd : ∀ (y : V) (d' : PyData) (H' : Hp), Dq K S H' y d' → Sz 1 2 3 d' → Bag H' a l → Chg a H H' → Q y H' := fun y d' H' h1 h2 h3 h4 => q y d' H' h1 (h2.mono (by omega) (by omega) (by omega)) h3 h4
    by_cases isl : ∃ ds, d = .list ds
    · obtain ⟨ds, rfl⟩ := isl
      refine ⟨_, PSs.nox (C8.pss_cut (ps_if (PW.pt (pw_and (pt_val (pe_callB (k_isi (K := K) (by rfl)) (by rfl) T.z_isinstance (by decide +kernel) (pa_cons (pv 1) (pa_cons (pe_bltn (v := .ty "list") (u := .type "list") (by rfl) T.z_list (by decide +kernel) rfl) pa_nil)))) (pw_and (pt_cmpR (k_neD (K := K) (by rfl) hr.units) (pv 1) (pe_lst pa_nil) (nomark _)) (pw_and (pt_cmpR op_gt (pv 2) pe_int (nomark _)) (pw_and1 (pt_cmpR op_gt (pe_cal C__law_draw (hr.mono (by first | decide | omega)) (by rfl) (pa_cons (pv 0) (pa_cons pe_int pa_nil))) pe_int (nomark _)))))))
    (pss_cons (ps_par (i := 3) (j := 4) (by rfl) sc__law_bend.nd rfl rfl (by decide) rfl rfl (pa_cons (pe_callTy (k_list (K := K) (by rfl)) (by rfl) T.z_list (by decide +kernel) (pa_cons (pv 1) pa_nil)) (pa_cons (pe_cal C__law_draw (hr.mono (by first | decide | omega)) (by rfl) (pa_cons (pv 0) (pa_cons (pe_callB (k_len (K := K) (by rfl)) (by rfl) T.z_len (by decide +kernel) (pa_cons (pv 1) pa_nil)) pa_nil))) pa_nil)) (by rfl))
    (pss_cons (ps_asg (pe_cal C__law_bend (hr.mono (by first | decide | omega)) (by rfl) (pa_cons (pv 0) (pa_cons (pe_ix (k_ix (K := K) (by rfl)) (pv 1) (pv 4) (fun _ _ => rfl)) (pa_cons (pe_op op_sub (pv 2) pe_int) pa_nil)))) (pg_sub (pv 3) (pv 4) set_list))
    (pss_one (ps_ret (pv 3)))))
    pss_nil)
    (pss_cons (ps_set (i := 5) sc__law_bend.nd rfl (by first | exact Or.inl rfl | exact Or.inr rfl) (pe_cal C__law_draw (hr.mono (by first | decide | omega)) (by rfl) (pa_cons (pv 0) (pa_cons pe_int pa_nil))))
    (C8.pss_cut (ps_if (PW.pt (pw_and (pt_val (pe_callB (k_isi (K := K) (by rfl)) (by rfl) T.z_isinstance (by decide +kernel) (pa_cons (pv 1) (pa_cons (pe_bltn (v := .ty "list") (u := .type "list") (by rfl) T.z_list (by decide +kernel) rfl) pa_nil)))) (pw_and (pt_cmpR (k_neD (K := K) (by rfl) hr.units) (pv 1) (pe_lst pa_nil) (nomark _)) (pw_and1 (pt_cmpR op_lt (pv 5) pe_int (nomark _))))))
    (pss_cons (ps_set (i := 4) sc__law_bend.nd rfl (by first | exact Or.inl rfl | exact Or.inr rfl) (pe_cal C__law_draw (hr.mono (by first | decide | omega)) (by rfl) (pa_cons (pv 0) (pa_cons (pe_callB (k_len (K := K) (by rfl)) (by rfl) T.z_len (by decide +kernel) (pa_cons (pv 1) pa_nil)) pa_nil))))
    (pss_cons (ps_if (pt_cmpR op_eq (pv 5) pe_int (nomark _))
    (pss_one (ps_ret (pe_op op_cat (pe_slice (k_sl (K := K) (by rfl)) (pv 1) po_none (po_some (pv 4))) (pe_slice (k_sl (K := K) (by rfl)) (pv 1) (po_some (pe_op op_add (pv 4) pe_int)) po_none))))
    pss_nil)
    (pss_one (ps_ret (pe_op op_cat (pe_op op_cat (pe_slice (k_sl (K := K) (by rfl)) (pv 1) po_none (po_some (pv 4))) (pe_lst (pa_cons (pe_ifExp (pt_cmpR op_eq (pv 5) pe_int (nomark _)) (pe_ix (k_ix (K := K) (by rfl)) (pv 1) (pv 4) (fun _ _ => rfl)) (pe_cal C__law_odd (hr.mono (by first | decide | omega)) (by rfl) (pa_cons (pv 0) pa_nil))) pa_nil))) (pe_slice (k_sl (K := K) (by rfl)) (pv 1) (po_some (pv 4)) po_none))))))
    pss_nil)
    (pss_cons (ps_if (PW.pt (pw_and (pt_val (pe_callB (k_isi (K := K) (by rfl)) (by rfl) T.z_isinstance (by decide +kernel) (pa_cons (pv 1) (pa_cons (pe_bltn (v := .ty "str") (u := .type "str") (by rfl) T.z_str (by decide +kernel) rfl) pa_nil)))) (pw_and1 (pt_cmpR op_lt (pv 5) pe_int (nomark _)))))
    pss_never
    pss_nil)
    (pss_cons (ps_if (PW.pt (pw_and (pt_val (pe_callB (k_isi (K := K) (by rfl)) (by rfl) T.z_isinstance (by decide +kernel) (pa_cons (pv 1) (pa_cons (pe_bltn (v := .ty "list") (u := .type "list") (by rfl) T.z_list (by decide +kernel) rfl) pa_nil)))) (pw_and1 (pt_cmpR op_eq (pv 5) pe_int (nomark _)))))
    (pss_one (ps_ret (pe_callTy (k_tuple (K := K) (by rfl)) (by rfl) T.z_tuple (by decide +kernel) (pa_cons (pv 1) pa_nil))))
    pss_nil)
    (pss_one (ps_ret (pe_cal C__law_odd (hr.mono (by first | decide | omega)) (by rfl) (pa_cons (pv 0) pa_nil))))))))), ?_⟩
      try simp only [cxK]
      rw [show L2.start N__law_bend [.ref a, x, .int (k : Nat)] = [some (.ref a), some x, some (.int (k : Nat)), none, none, none] from rfl]
      obtain ⟨hb1, hb2, hb3⟩ := sz_list.mp hb
      obtain ⟨b, xs, rfl, hsq, hda⟩ : ∃ b xs, x = .ref b ∧ (∀ H', ChgS S H H' → SqL K H' b xs) ∧ DqAll K S H xs ds := by
        cases hx with
        | lst h hs => exact ⟨_, _, rfl, fun H' c => .of (h H' c), hs⟩
      have lxs := hda.len
      have sq0 := hsq H ChgS.refl
      walk_at "go"
      refine g_cut (fun σ' H' => σ' = [some (.ref a), some (.ref b), some (.int (k : Nat)), none, none, none] ∧ Bag H' a l ∧ Chg a H H') ?_ ?_
      · walk_at "go"
        rename_i e1 he1
        have B7 := bag_new (o := .lst []) B he1
        have c7 : Chg a H (upd H e1 (.lst [])) := Chg.new he1
        have z7 : upd H e1 (.lst []) e1 = some (.lst []) := upd_same
        have sq7 := hsq _ (toS c7 sa)
        have hd7 := (hda.chg (toS c7 sa)).dp
        generalize upd H e1 (.lst []) = H7 at B7 c7 z7 sq7 hd7 ⊢
        refine ⟨.list ds, .list [], .lst sq7 hd7, .lst (.of z7) .nil, bnd_shaped hb.b (by omega), rfl, ?_⟩
        cases ds with
        | nil =>
          walk_at "go"
          exact ⟨rfl, B7, c7⟩
        | cons d0 dr =>
        rw [show PyData.eqv (.list (d0 :: dr)) (.list []) = false from rfl]
        have lx1 : 1 ≤ xs.length := by rw [lxs]; exact Nat.succ_pos _
        walk_at "go"
        by_cases hk0 : (0 : Int) < (k : Nat)
        case neg =>
          rw [decide_eq_false hk0]
          walk_at "go"
          exact ⟨rfl, B7, c7⟩
        rw [decide_eq_true hk0]
        walk_at "go"
        refine g_drawB B7 ⟨by decide, by decide⟩ fun r4 H8 _ _ B8 c78 => ?_
        have c8 := c7.trans c78
        walk_at "go"
        by_cases hr4 : (0 : Int) < r4
        case neg =>
          rw [decide_eq_false hr4]
          walk_at "go"
          exact ⟨rfl, B8, c8⟩
        rw [decide_eq_true hr4]
        have sq8 := hsq _ (toS c8 sa)
        walk_at "go"
        rename_i M hM
        have B9 := bag_new (o := .lst xs) B8 hM
        have nMa : M ≠ a := ne_bag B8 hM
        have c9 := c8.trans (Chg.new (o := .lst xs) hM)
        have eM : upd H8 M (.lst xs) M = some (.lst xs) := upd_same
        generalize upd H8 M (.lst xs) = H9 at B9 c9 eM ⊢
        refine g_drawB B9 ⟨by omega, by omega⟩ fun rt H10 hrt0 hrt1 B10 c910 => ?_
        have c10 := c9.trans c910
        have sq10 := hsq H10 (toS c10 sa)
        have eM10 := c910 _ _ nMa eM
        obtain ⟨j, rfl⟩ : ∃ j : Nat, rt = (j : Int) := ⟨rt.toNat, by omega⟩
        have jl : j < xs.length := by omega
        have hj : xs[j]? = some xs[j] := List.getElem?_eq_getElem jl
        have at1 : atI xs (j : Int) = some xs[j] := at_pos (by omega) (by rw [Int.toNat_natCast]; exact hj)
        obtain ⟨dj, hdj, pj⟩ := hda.at hj
        walk_at "go"
        obtain ⟨k', rfl⟩ : ∃ k', k = k' + 1 := ⟨k - 1, by omega⟩
        rw [show (((k' + 1 : Nat) : Int) - 1) = (k' : Nat) by omega]
        have aln8 := al.bag c8 B8 sa
        have nSM : ¬ S M := aln8.no hM
        have apM := bag_apart B8 hM
        have S2a : SD S M a := .inl sa
        have al10 : Al (SD S M) H10 := al_sd (al.bag c10 B10 sa) (by rw [eM10]; exact fun z => by cases z)
        have tr1 : ∀ H', ChgS (SD S M) H10 H' → ChgS S H H' := fun H' c b o nb hb => by
          refine c b o (fun z => z.elim nb fun e => ?_) (c10 b o (no nb) hb)
          have z8 := c8 b o (no nb) hb
          rw [e, hM] at z8
          cases z8
        refine g_bend (S := SD S M) (N := N - 1) (m := m) (by omega) B10 S2a al10 (pj.tr tr1) (hb3 dj (List.mem_of_getElem? hdj)) (by omega) m2 m60 L3 L300 fun y d' H11 hy hy2 B11 c1011 => ?_
        have eM11 := c1011 _ _ nMa eM10
        have c11 := c10.trans c1011
        walk_at "go"
        refine g_setL eM11 (show ixN xs.length (j : Int) = some j by unfold ixN; simp; omega) ?_
        walk_at "go"
        have cS : ChgS (SD S M) H11 (upd H11 M (.lst (xs.set j y))) := fun b o nb hb => by rw [upd_ne fun e => nb (.inr e)]; exact hb
        have hy12 := hy.chg cS
        have cMf : Chg a H (upd H11 M (.lst (xs.set j y))) := fun b o nb hb => by
          rw [upd_ne]
          · exact c11 b o nb hb
          · rintro rfl
            have z8 := c8 _ o nb hb
            rw [hM] at z8
            cases z8
        have hda12 := hda.chg (toS cMf sa)
        refine q _ (.list ((d0 :: dr).set j d')) _ (dq_new nSM upd_same (hda12.set hy12.out j)) (sz_list.mpr ⟨by omega, ?_, fun e he => ?_⟩) (bag_chg B11 apM.1 apM.2) cMf
        · rw [List.length_set]
          omega
        · rcases List.mem_or_eq_of_mem_set he with he | he
          · exact (hb3 e he).mono (by omega) (by omega) (by omega)
          · rw [he]
            exact hy2.mono (by omega) (by omega) (by omega)
      rintro σ' H7 ⟨rfl, B7, c7⟩
      walk_at "go"
      refine g_drawB B7 ⟨by decide, by decide⟩ fun r5 H8 hr50 _ B8 c78 => ?_
      have c8 := c7.trans c78
      have sq8 := hsq _ (toS c8 sa)
      walk_at "go"
      refine g_cut (fun σ' H' => σ' = [some (.ref a), some (.ref b), some (.int (k : Nat)), none, none, some (.int r5)] ∧ Bag H' a l ∧ Chg a H H') ?_ ?_
      · walk_at "go"
        rename_i e1 he1
        have B9 := bag_new (o := .lst []) B8 he1
        have c9 : Chg a H (upd H8 e1 (.lst [])) := c8.trans (Chg.new he1)
        have z9 : upd H8 e1 (.lst []) e1 = some (.lst []) := upd_same
        have sq9 := hsq _ (toS c9 sa)
        have hd9 := (hda.chg (toS c9 sa)).dp
        generalize upd H8 e1 (.lst []) = H9 at B9 c9 z9 sq9 hd9 ⊢
        refine ⟨.list ds, .list [], .lst sq9 hd9, .lst (.of z9) .nil, bnd_shaped hb.b (by omega), rfl, ?_⟩
        cases ds with
        | nil =>
          walk_at "go"
          exact ⟨rfl, B9, c9⟩
        | cons d0 dr =>
        rw [show PyData.eqv (.list (d0 :: dr)) (.list []) = false from rfl]
        have lx1 : 1 ≤ xs.length := by rw [lxs]; exact Nat.succ_pos _
        have lx2 : xs.length ≤ 60 := by omega
        walk_at "go"
        by_cases hr3 : r5 < (3 : Int)
        case neg =>
          rw [decide_eq_false hr3]
          walk_at "go"
          exact ⟨rfl, B9, c9⟩
        rw [decide_eq_true hr3]
        walk_at "go"
        refine g_drawB B9 ⟨by omega, by omega⟩ fun rt H10 hrt0 hrt1 B10 c910 => ?_
        have c10 := c9.trans c910
        have sq10 := hsq H10 (toS c10 sa)
        obtain ⟨j, rfl⟩ : ∃ j : Nat, rt = (j : Int) := ⟨rt.toNat, by omega⟩
        have jl : j < xs.length := by omega
        walk_at "go"
        by_cases hr0 : r5 = 0
        · rw [decide_eq_true hr0]
          walk_at "go"
          rename_i T1 hT1 T2 hT2
          rw [cutV_to] at hT2 ⊢
          rw [show ((j : Int) + 1) = ((j + 1 : Nat) : Int) by omega, cutV_from]
          have s12 := (same_new hT1 (o := .lst (xs.take j))).trans (same_new hT2 (o := .lst (xs.drop (j + 1))))
          have B12 := bag_sm B10 s12
          have e1 : upd (upd H10 T1 (.lst (xs.take j))) T2 (.lst (xs.drop (j + 1))) T1 = some (.lst (xs.take j)) := same_new hT2 _ _ upd_same
          have e2 : upd (upd H10 T1 (.lst (xs.take j))) T2 (.lst (xs.drop (j + 1))) T2 = some (.lst (xs.drop (j + 1))) := upd_same
          have c12 := c10.trans (sm_chg s12)
          generalize upd (upd H10 T1 (.lst (xs.take j))) T2 (.lst (xs.drop (j + 1))) = H12 at B12 e1 e2 c12 ⊢
          refine g_cat e1 e2 (by rw [List.length_take, List.length_drop]; omega) fun T3 hT3 => ?_
          have c13 := c12.trans (Chg.new (a := a) (o := .lst (xs.take j ++ xs.drop (j + 1))) hT3)
          have hda3 := hda.chg (toS c13 sa)
          refine q _ (.list ((d0 :: dr).take j ++ (d0 :: dr).drop (j + 1))) _ (dq_new ((al.bag c12 B12 sa).no hT3) upd_same ((hda3.take j).app (hda3.drop (j + 1)))) (sz_list.mpr ⟨by omega, ?_, fun e he => ?_⟩) (bag_new B12 hT3) c13
          · rw [List.length_append, List.length_take, List.length_drop]
            omega
          · rcases List.mem_append.mp he with he | he
            · exact (hb3 e (List.mem_of_mem_take he)).mono (by omega) (by omega) (by omega)
            · exact (hb3 e (List.mem_of_mem_drop he)).mono (by omega) (by omega) (by omega)
        · rw [decide_eq_false hr0]
          walk_at "go"
          rename_i T1 hT1
          rw [cutV_to]
          have nT1 : T1 ≠ a := ne_bag B10 hT1
          have B11 := bag_new (o := .lst (xs.take j)) B10 hT1
          have c11 := c10.trans (Chg.new (o := .lst (xs.take j)) hT1)
          have e1 : upd H10 T1 (.lst (xs.take j)) T1 = some (.lst (xs.take j)) := upd_same
          generalize upd H10 T1 (.lst (xs.take j)) = H11 at B11 c11 e1 ⊢
          have fin : ∀ (v : V) (dv : PyData) (H12 : Hp) (T2 : Addr), Dq K S H12 v dv → Sz N (m + 1) (2 * L + 2) dv → Bag H12 a l → Chg a H11 H12 → H12 T2 = none → rCat (V.ref T1) (V.ref T2) (upd H12 T2 (.lst [v])) (fun x H1 =>
              tSl (rSlL K) (tVar 1) (tPart (tVar 4)) tNoPart [some (V.ref a), some (V.ref b), some (V.int (k : Nat)), none, some (V.int (j : Nat)), some (V.int r5)] H1 fun y H2 => rCat x y H2 Q) := by
            intro v dv H12 T2 hv hz B12 c12 hT2
            have e112 := same_new hT2 (o := .lst [v]) _ _ (c12 _ _ nT1 e1)
            have e2 : upd H12 T2 (.lst [v]) T2 = some (.lst [v]) := upd_same
            have c12' := c12.trans (Chg.new (o := .lst [v]) hT2)
            have B12' := bag_new (o := .lst [v]) B12 hT2
            have hv' := hv.chg (toS (Chg.new (a := a) (o := .lst [v]) hT2) sa)
            generalize upd H12 T2 (.lst [v]) = H13 at e112 e2 c12' B12' hv' ⊢
            refine g_cat e112 e2 (by rw [List.length_take, List.length_singleton]; omega) fun T3 hT3 => ?_
            have B13 := bag_new (o := .lst (xs.take j ++ [v])) B12' hT3
            have c13 := c12'.trans (Chg.new (o := .lst (xs.take j ++ [v])) hT3)
            have e3 : upd H13 T3 (.lst (xs.take j ++ [v])) T3 = some (.lst (xs.take j ++ [v])) := upd_same
            have hv13 := hv'.chg (toS (Chg.new (a := a) (o := .lst (xs.take j ++ [v])) hT3) sa)
            generalize upd H13 T3 (.lst (xs.take j ++ [v])) = H14 at B13 c13 e3 hv13 ⊢
            have sq14 := hsq _ (toS (c11.trans c13) sa)
            walk_at "go"
            rename_i T4 hT4
            rw [cutV_from]
            have B14 := bag_new (o := .lst (xs.drop j)) B13 hT4
            have c14 := c13.trans (Chg.new (o := .lst (xs.drop j)) hT4)
            have e34 := same_new hT4 (o := .lst (xs.drop j)) _ _ e3
            have e4 : upd H14 T4 (.lst (xs.drop j)) T4 = some (.lst (xs.drop j)) := upd_same
            have hv14 := hv13.chg (toS (Chg.new (a := a) (o := .lst (xs.drop j)) hT4) sa)
            generalize upd H14 T4 (.lst (xs.drop j)) = H15 at B14 c14 e34 e4 hv14 ⊢
            refine g_cat e34 e4 (by rw [List.length_append, List.length_take, List.length_singleton, List.length_drop]; omega) fun T5 hT5 => ?_
            have c15 := c14.trans (Chg.new (o := .lst (xs.take j ++ [v] ++ xs.drop j)) hT5)
            have hda5 := hda.chg (toS (c11.trans c15) sa)
            have hv5 := hv14.chg (toS (Chg.new (a := a) (o := .lst (xs.take j ++ [v] ++ xs.drop j)) hT5) sa)
            refine q _ (.list ((d0 :: dr).take j ++ [dv] ++ (d0 :: dr).drop j)) _ (dq_new ((al.bag (c11.trans c14) B14 sa).no hT5) upd_same (((hda5.take j).app (.cons hv5 .nil)).app (hda5.drop j))) (sz_list.mpr ⟨by omega, ?_, fun e he => ?_⟩) (bag_new B14 hT5) (c11.trans c15)
            · rw [List.length_append, List.length_append, List.length_take, List.length_singleton, List.length_drop]
              omega
            · rcases List.mem_append.mp he with he | he
              · rcases List.mem_append.mp he with he | he
                · exact (hb3 e (List.mem_of_mem_take he)).mono (by omega) (by omega) (by omega)
                · rw [List.mem_singleton.mp he]
                  exact hz.mono (by omega) (by omega) (by omega)
              · exact (hb3 e (List.mem_of_mem_drop he)).mono (by omega) (by omega) (by omega)
          by_cases hr1 : r5 = 1
          · rw [decide_eq_true hr1]
            have sq11 := hsq _ (toS c11 sa)
            have hj : xs[j]? = some xs[j] := List.getElem?_eq_getElem jl
            have at1 : atI xs (j : Int) = some xs[j] := at_pos (by omega) (by rw [Int.toNat_natCast]; exact hj)
            obtain ⟨dj, hdj, pj⟩ := hda.at hj
            walk_at "go"
            exact fin _ dj _ _ (pj.chg (toS c11 sa)) ((hb3 dj (List.mem_of_getElem? hdj)).mono (by omega) (by omega) (by omega)) B11 Chg.refl (by assumption)
          · rw [decide_eq_false hr1]
            walk_at "go"
            refine g_odd B11 sa (al.bag c11 B11 sa) fun y d' H12 h1 h2 h4 h5 => ?_
            walk_at "go"
            exact fin _ d' _ _ h1 (h2.mono (by omega) (by omega) (by omega)) h4 h5 (by assumption)
      rintro σ' H9 ⟨rfl, B9, c9⟩
      have sq9 := hsq _ (toS c9 sa)
      walk_at "go"
      by_cases h3 : r5 = 3
      · rw [decide_eq_true h3]
        walk_at "go"
        rename_i T1 hT1
        have c10 := c9.trans (Chg.new (o := .tup xs) hT1)
        exact q _ (.tuple ds) _ (dq_newT ((al.bag c9 B9 sa).no hT1) upd_same (hda.chg (toS c10 sa))) (sz_tup.mpr ⟨by omega, by omega, fun e he => (hb3 e he).mono (by omega) (by omega) (by omega)⟩) (bag_new B9 hT1) c10
      · rw [decide_eq_false h3]
        walk_at "go"
        exact g_odd B9 sa (al.bag c9 B9 sa) fun y d' H10 h1 h2 h4 h5 => qodd y d' H10 h1 h2 h4 (c9.trans h5)
    · have nl : ∀ ds, d ≠ .list ds := fun ds e => isl ⟨ds, e⟩
      refine ⟨_, PSs.nox (C8.pss_cut (ps_if (PW.pt (pw_and (pt_val (pe_callB (k_isi (K := K) (by rfl)) (by rfl) T.z_isinstance (by decide +kernel) (pa_cons (pv 1) (pa_cons (pe_bltn (v := .ty "list") (u := .type "list") (by rfl) T.z_list (by decide +kernel) rfl) pa_nil)))) (pw_and (pt_cmpR (k_neD (K := K) (by rfl) hr.units) (pv 1) (pe_lst pa_nil) (nomark _)) (pw_and (pt_cmpR op_gt (pv 2) pe_int (nomark _)) (pw_and1 (pt_cmpR op_gt (pe_cal C__law_draw (hr.mono (by first | decide | omega)) (by rfl) (pa_cons (pv 0) (pa_cons pe_int pa_nil))) pe_int (nomark _)))))))
    pss_never
    pss_nil)
    (pss_cons (ps_set (i := 5) sc__law_bend.nd rfl (by first | exact Or.inl rfl | exact Or.inr rfl) (pe_cal C__law_draw (hr.mono (by first | decide | omega)) (by rfl) (pa_cons (pv 0) (pa_cons pe_int pa_nil))))
    (C8.pss_cut (ps_if (PW.pt (pw_and (pt_val (pe_callB (k_isi (K := K) (by rfl)) (by rfl) T.z_isinstance (by decide +kernel) (pa_cons (pv 1) (pa_cons (pe_bltn (v := .ty "list") (u := .type "list") (by rfl) T.z_list (by decide +kernel) rfl) pa_nil)))) (pw_and (pt_cmpR (k_neD (K := K) (by rfl) hr.units) (pv 1) (pe_lst pa_nil) (nomark _)) (pw_and1 (pt_cmpR op_lt (pv 5) pe_int (nomark _))))))
    pss_never
    pss_nil)
    (pss_cons (ps_if (PW.pt (pw_and (pt_val (pe_callB (k_isi (K := K) (by rfl)) (by rfl) T.z_isinstance (by decide +kernel) (pa_cons (pv 1) (pa_cons (pe_bltn (v := .ty "str") (u := .type "str") (by rfl) T.z_str (by decide +kernel) rfl) pa_nil)))) (pw_and1 (pt_cmpR op_lt (pv 5) pe_int (nomark _)))))
    (pss_cons (ps_set (i := 4) sc__law_bend.nd rfl (by first | exact Or.inl rfl | exact Or.inr rfl) (pe_cal C__law_draw (hr.mono (by first | decide | omega)) (by rfl) (pa_cons (pv 0) (pa_cons (pe_op op_add (pe_callB call_len_str (by rfl) T.z_len (by decide +kernel) (pa_cons (pv 1) pa_nil)) pe_int) pa_nil))))
    (pss_one (ps_ret (pe_op op_add_str (pe_op op_add_str (pe_slice sl_str (pv 1) po_none (po_some (pv 4))) (pe_cal C__law_of (hr.mono (by first | decide | omega)) (by rfl) (pa_cons (pv 0) (pa_cons (pe_lst (pa_cons pe_str (pa_cons pe_str (pa_cons pe_str (pa_cons pe_str (pa_cons pe_str (pa_cons (pe_slice sl_str (pv 1) po_none (po_some pe_int)) (pa_cons (pv 1) pa_nil)))))))) pa_nil)))) (pe_slice sl_str (pv 1) (po_some (pe_op op_add (pv 4) (pv 5))) po_none)))))
    pss_nil)
    (pss_cons (ps_if (PW.pt (pw_and (pt_val (pe_callB (k_isi (K := K) (by rfl)) (by rfl) T.z_isinstance (by decide +kernel) (pa_cons (pv 1) (pa_cons (pe_bltn (v := .ty "list") (u := .type "list") (by rfl) T.z_list (by decide +kernel) rfl) pa_nil)))) (pw_and1 (pt_cmpR op_eq (pv 5) pe_int (nomark _)))))
    pss_never
    pss_nil)
    (pss_one (ps_ret (pe_cal C__law_odd (hr.mono (by first | decide | omega)) (by rfl) (pa_cons (pv 0) pa_nil))))))))), ?_⟩
      try simp only [cxK]
      rw [show L2.start N__law_bend [.ref a, x, .int (k : Nat)] = [some (.ref a), some x, some (.int (k : Nat)), none, none, none] from rfl]
      by_cases iss : ∃ z, d = .str z
      · obtain ⟨z, rfl⟩ := iss
        obtain rfl := hx.str_inv
        have zl : z.length ≤ L := of_decide_eq_true hb.s
        have zok : PyData.strOk z = true := by have := hb.b; unfold bndD at this; exact this
        have zs : z.length ≤ sizeLine := Nat.le_of_lt (small1000 (by omega))
        walk_at "go"
        refine g_cut (fun σ' H' => σ' = [some (.ref a), some (.str z), some (.int (k : Nat)), none, none, none] ∧ H' = H) ?_ ?_
        · walk_at "go"
          exact ⟨rfl, rfl⟩
        rintro σ' H' ⟨rfl, rfl⟩
        walk_at "go"
        refine g_drawB B ⟨by decide, by decide⟩ fun r5 H1 hr50 hr56 B1 c1 => ?_
        walk_at "go"
        refine g_cut (fun σ' H'' => σ' = [some (.ref a), some (.str z), some (.int (k : Nat)), none, none, some (.int r5)] ∧ H'' = H1) ?_ ?_
        · walk_at "go"
          exact ⟨rfl, rfl⟩
        rintro σ' H'' ⟨rfl, rfl⟩
        walk_at "go"
        by_cases h4 : r5 < (4 : Int)
        · rw [decide_eq_true h4]
          walk_at "go"
          refine ⟨z, rfl, zs, ?_⟩
          walk_at "go"
          refine g_drawB B1 ⟨by omega, by omega⟩ fun rt H2 hrt0 hrt1 B2 c2 => ?_
          obtain ⟨j, rfl⟩ : ∃ j : Nat, rt = (j : Int) := ⟨rt.toNat, by omega⟩
          obtain ⟨r, rfl⟩ : ∃ r : Nat, r5 = (r : Int) := ⟨r5.toNat, by omega⟩
          have ez : sOf z.cps.toList = z := by cases z; rfl
          generalize z.cps.toList = cs at ez
          subst ez
          rw [sOf_len] at zl hrt1
          have okt : ∀ n, PyData.strOk (sOf (cs.take n)) = true := fun n => strOk_s.mpr fun c hc => strOk_s.mp zok c (List.mem_of_mem_take hc)
          have okd : ∀ n, PyData.strOk (sOf (cs.drop n)) = true := fun n => strOk_s.mpr fun c hc => strOk_s.mp zok c (List.mem_of_mem_drop hc)
          walk_at "go"
          refine g_slS zs ?_
          rw [cut_to]
          walk_at "go"
          refine g_slS zs ?_
          rw [show (1 : Int) = ((1 : Nat) : Int) from rfl, cut_to]
          walk_at "go"
          rename_i p hp
          refine g_of (bag_new B2 hp) upd_same (ne_bag B2 hp) ⟨by simp, by simp⟩ fun v H3 hv B3 c3 => ?_
          have cc := (c1.trans c2).trans ((Chg.new hp).trans c3)
          obtain ⟨u, rfl, uok, ul⟩ : ∃ u, v = .str u ∧ PyData.strOk u = true ∧ u.length ≤ L + 1 := by
            simp only [List.mem_cons, List.not_mem_nil, or_false] at hv
            rcases hv with rfl | rfl | rfl | rfl | rfl | rfl | rfl
            · exact ⟨_, rfl, by decide +kernel, by rw [show (Str.ofString "").length = 0 by decide +kernel]; omega⟩
            · exact ⟨_, rfl, by decide +kernel, by rw [show (Str.ofString " ").length = 1 by decide +kernel]; omega⟩
            · exact ⟨_, rfl, by decide +kernel, by rw [show (Str.ofString "\n").length = 1 by decide +kernel]; omega⟩
            · exact ⟨_, rfl, by decide +kernel, by rw [show (Str.ofString "a").length = 1 by decide +kernel]; omega⟩
            · exact ⟨_, rfl, by decide +kernel, by rw [show (Str.ofString "~").length = 1 by decide +kernel]; omega⟩
            · exact ⟨_, rfl, okt 1, by rw [sOf_len, List.length_take]; omega⟩
            · exact ⟨_, rfl, zok, by rw [sOf_len]; omega⟩
          refine ⟨_, _, rfl, rfl, Nat.le_of_lt (small1000 (by have l1 := sOf_len (cs.take j); rw [List.length_take] at l1; omega)), ?_⟩
          walk_at "go"
          refine g_slS zs ?_
          rw [show ((j : Int) + (r : Int)) = ((j + r : Nat) : Int) by omega, cut_from]
          refine ⟨_, _, rfl, rfl, Nat.le_of_lt (small1000 (by have l1 := sOf_len (cs.take j); have l2 := sOf_len (cs.drop (j + r)); rw [List.length_take] at l1; rw [List.length_drop] at l2; rw [str_app_len]; omega)), ?_⟩
          exact q _ _ _ (.str _) (sz_str (strOk_app (strOk_app (okt j) uok) (okd (j + r))) (by have l1 := sOf_len (cs.take j); have l2 := sOf_len (cs.drop (j + r)); rw [List.length_take] at l1; rw [List.length_drop] at l2; rw [str_app_len, str_app_len]; omega)) B3 cc
        · rw [decide_eq_false h4]
          walk_at "go"
          exact g_odd B1 sa (al.bag c1 B1 sa) fun y d' H10 h1 h2 h4 h5 => qodd y d' H10 h1 h2 h4 (c1.trans h5)
      · obtain ⟨T0, hT, k1, k2⟩ : ∃ T0, (∀ H', ChgS S H H' → TyX K H' x (.type T0)) ∧ kitB T0 "list" = some false ∧ kitB T0 "str" = some false := by
          cases hx with
          | non => exact ⟨"NoneType", fun _ _ => .base .non, by decide +kernel, by decide +kernel⟩
          | bl b => exact ⟨"bool", fun _ _ => .base (.bl _), by decide +kernel, by decide +kernel⟩
          | int b => exact ⟨"int", fun _ _ => .base (.int _), by decide +kernel, by decide +kernel⟩
          | str b => exact (iss ⟨_, rfl⟩).elim
          | lst _ _ => exact (nl _ rfl).elim
          | tup h hs => exact ⟨"tuple", fun H' c => tyT (h H' c), by decide +kernel, by decide +kernel⟩
        walk_at "go"
        refine g_cut (fun σ' H' => σ' = [some (.ref a), some x, some (.int (k : Nat)), none, none, none] ∧ H' = H) ?_ ?_
        · walk_at "go"
          refine g_isi (hT H ChgS.refl) k1 ?_
          walk_at "go"
          exact ⟨rfl, rfl⟩
        rintro σ' H' ⟨rfl, rfl⟩
        walk_at "go"
        refine g_drawB B ⟨by decide, by decide⟩ fun r5 H1 hr50 hr56 B1 c1 => ?_
        walk_at "go"
        refine g_cut (fun σ' H'' => σ' = [some (.ref a), some x, some (.int (k : Nat)), none, none, some (.int r5)] ∧ H'' = H1) ?_ ?_
        · walk_at "go"
          refine g_isi (hT H1 (toS c1 sa)) k1 ?_
          walk_at "go"
          exact ⟨rfl, rfl⟩
        rintro σ' H'' ⟨rfl, rfl⟩
        walk_at "go"
        refine g_isi (hT H'' (toS c1 sa)) k2 ?_
        walk_at "go"
        refine g_isi (hT H'' (toS c1 sa)) k1 ?_
        walk_at "go"
        exact g_odd B1 sa (al.bag c1 B1 sa) fun y d' H10 h1 h2 h4 h5 => qodd y d' H10 h1 h2 h4 (c1.trans h5)
theorem ok_bend0 (T : Top K mg) {f : Addr} {fd : FuncData} (F : FnP K "_law_bend" s__law_bend f fd) : FnOk P w K mg base CX0 4 f fd P__law_bend (spBend K 0) := by
  refine F.ok sc__law_bend (fun vs H Q E h => ?_) (fun cdv A outer s H vs Q E hr h => ?_)
  · obtain ⟨S, a, l, x, d, k, N, m, L, rfl, hk, _⟩ := h
    omega
  · obtain ⟨S, a, l, x, d, k, N, m, L, rfl, hk, _⟩ := h
    omega
theorem c_bend (T : Top K mg) : ∀ n : Nat, Cal P w K mg base "_law_bend" (n + 4) P__law_bend (spBend K n)
  | 0 => cal_mk T.f__law_bend (ok_bend0 T) (fun F => F.bindsN fun _ _ _ _ _ _ us hl => match us, hl with | [_, _, _], _ => rfl)
  | n + 1 => cal_mk T.f__law_bend (ok_bend T (c_bend T n)) (fun F => F.bindsN fun _ _ _ _ _ _ us hl => match us, hl with | [_, _, _], _ => rfl)
end

set_option Elab.async false
set_option linter.all false
set_option maxRecDepth 100000
set_option maxHeartbeats 4000000
open PySem PySem.Spec L2





section
variable {P : Program} {w : World} {K : PySem.W.Frag} {mg : Str → Option Value} {base : Heap}
def spDeep (K : PySem.W.Frag) (n : Nat) : Sp := fun vs H Q _ => ∃ (S : Addr → Prop) (a l : Addr) (x : V) (d : PyData) (N m L : Nat), vs = [.ref a, x] ∧ N < n ∧ Bag H a l ∧ S a ∧ Al S H ∧ Dq K S H x d ∧ Sz N m L d ∧ N ≤ 20 ∧ m ≤ 100 ∧ 3 ≤ L ∧
  ∀ (y : V) (d' : PyData) (H' : Hp), Dq K S H' y d' → Sz N m L d' → Bag H' a l → Chg a H H' → Q y H'
theorem g_deep {S : Addr → Prop} {n N m L : Nat} {a l : Addr} {x : V} {d : PyData} {H : Hp} {Q : VK} {E : XK} (hk : N < n) (B : Bag H a l) (sa : S a) (al : Al S H) (h : Dq K S H x d) (hb : Sz N m L d) (h9 : N ≤ 20) (h6 : m ≤ 100) (l3 : 3 ≤ L)
    (q : ∀ (y : V) (d' : PyData) (H' : Hp), Dq K S H' y d' → Sz N m L d' → Bag H' a l → Chg a H H' → Q y H') : spDeep K n [.ref a, x] H Q E := ⟨S, a, l, x, d, N, m, L, rfl, hk, B, sa, al, h, hb, h9, h6, l3, q⟩
theorem ok_deep {n : Nat} (T : Top K mg) (C__law_deep : Cal P w K mg base "_law_deep" (n + 3) P__law_deep (spDeep K n)) {f : Addr} {fd : FuncData} (F : FnP K "_law_deep" s__law_deep f fd) : FnOk P w K mg base CX0 (n + 4) f fd P__law_deep (spDeep K (n + 1)) := by
  have C__law_draw := c_draw1 (P := P) (w := w) (base := base) T
  have C__law_of := c_of (P := P) (w := w) (base := base) T
  refine F.ok sc__law_deep (fun vs H Q E h => ?_) (fun cdv A outer s H vs Q E hr h => ?_)
  · obtain ⟨S, a, l, x, d, N, m, L, rfl, _⟩ := h
    rfl
  · obtain ⟨S, a, l, x, d, N, m, L, rfl, hk, B, sa, al, hx, hb, N9, m60, L3, q⟩ := h
    have no : ∀ {b : Addr}, ¬ S b → b ≠ a := fun h e => h (e ▸ sa)
    have leaf : ∀ (H1 : Hp) (p : Addr), Bag H1 a l → Chg a H H1 → H1 p = none → spOf [.ref a, .ref p] (upd H1 p (.lst [.bl true, .int 10, .int (-10), .non, .str (Str.ofString "1")])) Q E0 := by
      intro H1 p B1 c1 hp
      refine g_of (bag_new B1 hp) upd_same (ne_bag B1 hp) ⟨by simp, by simp⟩ fun v H2 hv B2 c2 => ?_
      have cc := c1.trans ((Chg.new hp).trans c2)
      simp only [List.mem_cons, List.not_mem_nil, or_false] at hv
      rcases hv with rfl | rfl | rfl | rfl | rfl
      · exact q _ _ _ (.bl _) ⟨by unfold bndD; rfl, rfl⟩ B2 cc
      · exact q _ _ _ (.int _) sz_int B2 cc
      · exact q _ _ _ (.int _) sz_int B2 cc
      · exact q _ _ _ .non ⟨by unfold bndD; rfl, rfl⟩ B2 cc
      · exact q _ _ _ (.str _) (sz_str (by decide +kernel) (by rw [show (Str.ofString "1").length = 1 by decide +kernel]; omega)) B2 cc
    refine ⟨_, PSs.nox (pss_cons (ps_if (PW.pt (pw_and (pt_val (pe_callB (k_isi (K := K) (by rfl)) (by rfl) T.z_isinstance (by decide +kernel) (pa_cons (pv 1) (pa_cons (pe_bltn (v := .ty "list") (u := .type "list") (by rfl) T.z_list (by decide +kernel) rfl) pa_nil)))) (pw_and1 (pt_cmpR (k_neD (K := K) (by rfl) hr.units) (pv 1) (pe_lst pa_nil) (nomark _)))))
    (pss_cons (ps_par (i := 2) (j := 3) (by rfl) sc__law_deep.nd rfl rfl (by decide) rfl rfl (pa_cons (pe_callTy (k_list (K := K) (by rfl)) (by rfl) T.z_list (by decide +kernel) (pa_cons (pv 1) pa_nil)) (pa_cons (pe_cal C__law_draw (hr.mono (by first | decide | omega)) (by rfl) (pa_cons (pv 0) (pa_cons (pe_callB (k_len (K := K) (by rfl)) (by rfl) T.z_len (by decide +kernel) (pa_cons (pv 1) pa_nil)) pa_nil))) pa_nil)) (by rfl))
    (pss_cons (ps_asg (pe_cal C__law_deep (hr.mono (by first | decide | omega)) (by rfl) (pa_cons (pv 0) (pa_cons (pe_ix (k_ix (K := K) (by rfl)) (pv 1) (pv 3) (fun _ _ => rfl)) pa_nil))) (pg_sub (pv 2) (pv 3) set_list))
    (pss_one (ps_ret (pv 2)))))
    pss_nil)
    (pss_one (ps_ret (pe_cal C__law_of (hr.mono (by first | decide | omega)) (by rfl) (pa_cons (pv 0) (pa_cons (pe_lst (pa_cons pe_bl (pa_cons pe_int (pa_cons (pe_op op_sub pe_int pe_int) (pa_cons pe_non (pa_cons pe_str pa_nil)))))) pa_nil)))))), ?_⟩
    try simp only [cxK]
    rw [show L2.start N__law_deep [.ref a, x] = [some (.ref a), some x, none, none] from rfl]
    by_cases isl : ∃ ds, d = .list ds
    · obtain ⟨ds, rfl⟩ := isl
      obtain ⟨hb1, hb2, hb3⟩ := sz_list.mp hb
      obtain ⟨b, xs, rfl, hsq, hda⟩ : ∃ b xs, x = .ref b ∧ (∀ H', ChgS S H H' → SqL K H' b xs) ∧ DqAll K S H xs ds := by
        cases hx with
        | lst h hs => exact ⟨_, _, rfl, fun H' c => .of (h H' c), hs⟩
      have lxs := hda.len
      have sq0 := hsq H ChgS.refl
      walk_at "go"
      rename_i e1 he1
      have B7 := bag_new (o := .lst []) B he1
      have c7 : Chg a H (upd H e1 (.lst [])) := Chg.new he1
      have z7 : upd H e1 (.lst []) e1 = some (.lst []) := upd_same
      have sq7 := hsq _ (toS c7 sa)
      have hd7 := (hda.chg (toS c7 sa)).dp
      generalize upd H e1 (.lst []) = H7 at B7 c7 z7 sq7 hd7 ⊢
      refine ⟨.list ds, .list [], .lst sq7 hd7, .lst (.of z7) .nil, bnd_shaped hb.b (by omega), rfl, ?_⟩
      cases ds with
      | nil =>
        walk_at "go"
        exact leaf _ _ B7 c7 (by assumption)
      | cons d0 dr =>
      rw [show PyData.eqv (.list (d0 :: dr)) (.list []) = false from rfl]
      have lx1 : 1 ≤ xs.length := by rw [lxs]; exact Nat.succ_pos _
      walk_at "go"
      rename_i M hM
      have B9 := bag_new (o := .lst xs) B7 hM
      have nMa : M ≠ a := ne_bag B7 hM
      have c9 := c7.trans (Chg.new (o := .lst xs) hM)
      have eM : upd H7 M (.lst xs) M = some (.lst xs) := upd_same
      generalize upd H7 M (.lst xs) = H9 at B9 c9 eM ⊢
      refine g_drawB B9 ⟨by omega, by omega⟩ fun rt H10 hrt0 hrt1 B10 c910 => ?_
      have c10 := c9.trans c910
      have sq10 := hsq H10 (toS c10 sa)
      have eM10 := c910 _ _ nMa eM
      obtain ⟨j, rfl⟩ : ∃ j : Nat, rt = (j : Int) := ⟨rt.toNat, by omega⟩
      have jl : j < xs.length := by omega
      have hj : xs[j]? = some xs[j] := List.getElem?_eq_getElem jl
      have at1 : atI xs (j : Int) = some xs[j] := at_pos (by omega) (by rw [Int.toNat_natCast]; exact hj)
      obtain ⟨dj, hdj, pj⟩ := hda.at hj
      walk_at "go"
      have nSM : ¬ S M := (al.bag c7 B7 sa).no hM
      have apM := bag_apart B7 hM
      have al10 : Al (SD S M) H10 := al_sd (al.bag c10 B10 sa) (by rw [eM10]; exact fun z => by cases z)
      have tr1 : ∀ H', ChgS (SD S M) H10 H' → ChgS S H H' := fun H' c b o nb hb => by
        refine c b o (fun z => z.elim nb fun e => ?_) (c10 b o (no nb) hb)
        have z8 := c7 b o (no nb) hb
        rw [e, hM] at z8
        cases z8
      refine g_deep (S := SD S M) (N := N - 1) (m := m) (L := L) (by omega) B10 (.inl sa) al10 (pj.tr tr1) (hb3 dj (List.mem_of_getElem? hdj)) (by omega) m60 L3 fun y d' H11 hy hy2 B11 c1011 => ?_
      have eM11 := c1011 _ _ nMa eM10
      have c11 := c10.trans c1011
      walk_at "go"
      refine g_setL eM11 (show ixN xs.length (j : Int) = some j by unfold ixN; simp; omega) ?_
      walk_at "go"
      have cS : ChgS (SD S M) H11 (upd H11 M (.lst (xs.set j y))) := fun b o nb hb => by rw [upd_ne fun e => nb (.inr e)]; exact hb
      have hy12 := hy.chg cS
      have cMf : Chg a H (upd H11 M (.lst (xs.set j y))) := fun b o nb hb => by
        rw [upd_ne]
        · exact c11 b o nb hb
        · rintro rfl
          have z8 := c7 _ o nb hb
          rw [hM] at z8
          cases z8
      have hda12 := hda.chg (toS cMf sa)
      refine q _ (.list ((d0 :: dr).set j d')) _ (dq_new nSM upd_same (hda12.set hy12.out j)) (sz_list.mpr ⟨by omega, ?_, fun e he => ?_⟩) (bag_chg B11 apM.1 apM.2) cMf
      · rw [List.length_set]
        omega
      · rcases List.mem_or_eq_of_mem_set he with he | he
        · exact hb3 e he
        · rw [he]
          exact hy2
    · have nl : ∀ ds, d ≠ .list ds := fun ds e => isl ⟨ds, e⟩
      obtain ⟨T0, hT, k1⟩ : ∃ T0, TyX K H x (.type T0) ∧ kitB T0 "list" = some false := by
        cases hx with
        | non => exact ⟨"NoneType", .base .non, by decide +kernel⟩
        | bl b => exact ⟨"bool", .base (.bl _), by decide +kernel⟩
        | int b => exact ⟨"int", .base (.int _), by decide +kernel⟩
        | str b => exact ⟨"str", .base (.str _), by decide +kernel⟩
        | lst _ _ => exact (nl _ rfl).elim
        | tup h hs => exact ⟨"tuple", tyT (h H ChgS.refl), by decide +kernel⟩
      walk_at "go"
      refine g_isi hT k1 ?_
      walk_at "go"
      exact leaf _ _ B Chg.refl (by assumption)
theorem ok_deep0 (T : Top K mg) {f : Addr} {fd : FuncData} (F : FnP K "_law_deep" s__law_deep f fd) : FnOk P w K mg base CX0 3 f fd P__law_deep (spDeep K 0) := by
  refine F.ok sc__law_deep (fun vs H Q E h => ?_) (fun cdv A outer s H vs Q E hr h => ?_)
  · obtain ⟨S, a, l, x, d, N, m, L, rfl, hk, _⟩ := h
    omega
  · obtain ⟨S, a, l, x, d, N, m, L, rfl, hk, _⟩ := h
    omega
theorem c_deep (T : Top K mg) : ∀ n : Nat, Cal P w K mg base "_law_deep" (n + 3) P__law_deep (spDeep K n)
  | 0 => cal_mk T.f__law_deep (ok_deep0 T) (fun F => F.bindsN fun _ _ _ _ _ _ us hl => match us, hl with | [_, _], _ => rfl)
  | n + 1 => cal_mk T.f__law_deep (ok_deep T (c_deep T n)) (fun F => F.bindsN fun _ _ _ _ _ _ us hl => match us, hl with | [_, _], _ => rfl)
end

set_option Elab.async false
set_option linter.all false
set_option maxRecDepth 100000
set_option maxHeartbeats 4000000
open PySem PySem.Spec L2




section
variable {P : Program} {w : World} {K : PySem.W.Frag} {mg : Str → Option Value} {base : Heap}
/-! the drawn parts of a net -/
def dPt (p : Pt) : PyData := .list [.str p.tk, .int p.cap, dG p.tr, dG p.pr, .list (p.ly.map dLL), dG p.ou, dI p.ba]
theorem g_ofI {a l t : Addr} {ns : List Int} {lo hi : Int} {H : Hp} {Q : VK} {E : XK} (hB : Bag H a l) (ht : H t = some (.lst (ns.map V.int))) (n : t ≠ a) (hl : 1 ≤ ns.length ∧ ns.length ≤ 1000000) (hb : ∀ i ∈ ns, lo ≤ i ∧ i ≤ hi)
    (q : ∀ (i : Int) (H' : Hp), lo ≤ i → i ≤ hi → Bag H' a l → Chg a H H' → Q (.int i) H') : spOf [.ref a, .ref t] H Q E := g_of hB ht n (by rw [List.length_map]; exact hl) fun x H' hx B c => by
  obtain ⟨i, rfl, h1, h2⟩ := of_ints hx hb
  exact q i H' h1 h2 B c
theorem al_two {S : Addr → Prop} {a f : Addr} {H H' : Hp} (h : Al S H) (c : ∀ b o, b ≠ a → b ≠ f → H b = some o → H' b = some o) (h1 : H' a ≠ none) (h2 : H' f ≠ none) : Al S H' := fun s hs z => by
  by_cases n1 : s = a
  · exact h1 (n1 ▸ z)
  · by_cases n2 : s = f
    · exact h2 (n2 ▸ z)
    · cases e : H s with
      | none => exact h s hs e
      | some o => rw [c s o n1 n2 e] at z; cases z
theorem bag_some {H : Hp} {a l : Addr} (B : Bag H a l) : H a ≠ none := by
  obtain ⟨_, _, _, _, _, e, _⟩ := B
  rw [e]
  exact fun z => by cases z
theorem DxAll.add {a : Addr} {H H' : Hp} {xs : List V} {ds : List PyData} {A B : List Addr} {v : V} {d : PyData} (h : DxAll H xs ds A) (na : ∀ z ∈ A, z ≠ a) (y : Dx H' v d B) (n : New H B) (c : Chg a H H') : DxAll H' (xs ++ [v]) (ds ++ [d]) (A ++ B) :=
  (h.chg na c).snoc y (aparts h n)
def spPartsL : Sp := fun vs H Q _ => ∃ (a l : Addr), vs = [.ref a] ∧ Bag H a l ∧
  ∀ (y : V) (p : Pt) (n k : Nat) (A : List Addr) (H' : Hp), Dx H' y (dPt p) A → New H A → PtOk n k p → Bag H' a l → Chg a H H' → Q y H'
theorem g_partsX {a l : Addr} {H : Hp} {Q : VK} {E : XK} (B : Bag H a l)
    (q : ∀ (y : V) (p : Pt) (n k : Nat) (A : List Addr) (H' : Hp), Dx H' y (dPt p) A → New H A → PtOk n k p → Bag H' a l → Chg a H H' → Q y H') : spPartsL [.ref a] H Q E := ⟨a, l, rfl, B, q⟩
theorem ok_partsL (T : Top K mg) {f : Addr} {fd : FuncData} (F : FnP K "_law_parts" s__law_parts f fd) : FnOk P w K mg base CX0 5 f fd P__law_parts spPartsL := by
  have C__law_draw := c_draw1 (P := P) (w := w) (base := base) T
  have C__law_of := c_of (P := P) (w := w) (base := base) T
  have C__law_row := c_rowL (P := P) (w := w) (base := base) T
  have C__law_grid := c_gridL (P := P) (w := w) (base := base) T
  have C__law_head := c_headL (P := P) (w := w) (base := base) T
  have C__law_string := c_string (P := P) (w := w) (base := base) T
  refine F.ok sc__law_parts (fun vs H Q E h => ?_) (fun cdv A outer s H vs Q E hr h => ?_)
  · obtain ⟨a, l, rfl, _⟩ := h
    rfl
  · obtain ⟨a, l, rfl, B, q⟩ := h
    refine ⟨_, PSs.nox (pss_cons (ps_asg (pe_tup (pa_cons (pe_cal C__law_of (hr.mono (by first | decide | omega)) (by rfl) (pa_cons (pv 0) (pa_cons (pe_lst (pa_cons pe_int (pa_cons pe_int (pa_cons pe_int (pa_cons pe_int (pa_cons pe_int (pa_cons pe_int (pa_cons pe_int pa_nil)))))))) pa_nil))) (pa_cons (pe_cal C__law_of (hr.mono (by first | decide | omega)) (by rfl) (pa_cons (pv 0) (pa_cons (pe_lst (pa_cons pe_int (pa_cons pe_int (pa_cons pe_int (pa_cons pe_int (pa_cons pe_int (pa_cons pe_int pa_nil))))))) pa_nil))) pa_nil))) (k_pgt (K := K) (n := 2) (by rfl) (by rfl) (pgs_cons (pg_name (i := 1) sc__law_parts.nd rfl (by first | exact Or.inl rfl | exact Or.inr rfl)) (pgs_cons (pg_name (i := 2) sc__law_parts.nd rfl (by first | exact Or.inl rfl | exact Or.inr rfl)) pgs_nil)) (by rfl) (by rfl)))
    (pss_cons (ps_par (i := 3) (j := 4) (by rfl) sc__law_parts.nd rfl rfl (by decide) rfl rfl (pa_cons (pe_cal C__law_of (hr.mono (by first | decide | omega)) (by rfl) (pa_cons (pv 0) (pa_cons (pe_lst (pa_cons pe_int (pa_cons pe_int (pa_cons pe_int (pa_cons pe_int (pa_cons pe_int pa_nil)))))) pa_nil))) (pa_cons (pe_cal C__law_of (hr.mono (by first | decide | omega)) (by rfl) (pa_cons (pv 0) (pa_cons (pe_lst (pa_cons pe_int (pa_cons pe_int (pa_cons pe_int pa_nil)))) pa_nil))) pa_nil)) (by rfl))
    (pss_cons (ps_asg (pe_tup (pa_cons (pe_cal C__law_of (hr.mono (by first | decide | omega)) (by rfl) (pa_cons (pv 0) (pa_cons (pe_lst (pa_cons pe_int (pa_cons pe_int (pa_cons pe_int (pa_cons pe_int (pa_cons pe_int pa_nil)))))) pa_nil))) (pa_cons (pe_cal C__law_string (hr.mono (by first | decide | omega)) (by rfl) (pa_cons (pv 0) (pa_cons (pv 1) pa_nil))) pa_nil))) (k_pgt (K := K) (n := 2) (by rfl) (by rfl) (pgs_cons (pg_name (i := 5) sc__law_parts.nd rfl (by first | exact Or.inl rfl | exact Or.inr rfl)) (pgs_cons (pg_name (i := 6) sc__law_parts.nd rfl (by first | exact Or.inl rfl | exact Or.inr rfl)) pgs_nil)) (by rfl) (by rfl)))
    (pss_cons (ps_set (i := 7) sc__law_parts.nd rfl (by first | exact Or.inl rfl | exact Or.inr rfl) (pe_cal C__law_of (hr.mono (by first | decide | omega)) (by rfl) (pa_cons (pv 0) (pa_cons (pe_lst (pa_cons pe_int (pa_cons pe_int (pa_cons pe_int (pa_cons pe_int (pa_cons pe_int (pa_cons pe_int (pa_cons pe_int (pa_cons pe_int (pa_cons pe_int (pa_cons (pe_op op_add pe_int (pe_cal C__law_draw (hr.mono (by first | decide | omega)) (by rfl) (pa_cons (pv 0) (pa_cons pe_int pa_nil)))) pa_nil))))))))))) pa_nil))))
    (pss_cons (ps_setLc (i := 8) (own := [("k", 9)]) (g := gName 9) (by rfl) sc__law_parts.nd rfl rfl (sw_true rfl rfl rfl (by decide +kernel)) (pi_range1 (by rfl) T.z_range (pa_cons (pv 1) pa_nil)) (blkOk_by (own := [("k", 9)]) (N := N__law_parts) (sc := defScope s__law_parts) (by decide +kernel)) (fun _ _ _ _ _ => pg_name (i := 9) sc__law_parts.nd rfl (by first | exact Or.inl rfl | exact Or.inr rfl)) (fun _ _ _ _ _ => pts_nil) (fun _ _ _ _ _ => (pe_cal C__law_row (hr.mono (by first | decide | omega)) (by rfl) (pa_cons (pv 0) (pa_cons (pv 2) (pa_cons (pv 5) pa_nil))))))
    (pss_cons (ps_setLc (i := 10) (own := [("k", 9)]) (g := gName 9) (by rfl) sc__law_parts.nd rfl rfl (sw_true rfl rfl rfl (by decide +kernel)) (pi_range1 (by rfl) T.z_range (pa_cons (pe_cal C__law_of (hr.mono (by first | decide | omega)) (by rfl) (pa_cons (pv 0) (pa_cons (pe_lst (pa_cons pe_int (pa_cons pe_int (pa_cons pe_int (pa_cons pe_int (pa_cons pe_int pa_nil)))))) pa_nil))) pa_nil)) (blkOk_by (own := [("k", 9)]) (N := N__law_parts) (sc := defScope s__law_parts) (by decide +kernel)) (fun _ _ _ _ _ => pg_name (i := 9) sc__law_parts.nd rfl (by first | exact Or.inl rfl | exact Or.inr rfl)) (fun _ _ _ _ _ => pts_nil) (fun _ _ _ _ _ => (pe_cal C__law_row (hr.mono (by first | decide | omega)) (by rfl) (pa_cons (pv 0) (pa_cons (pv 2) (pa_cons (pv 5) pa_nil))))))
    (pss_cons (ps_set (i := 11) sc__law_parts.nd rfl (by first | exact Or.inl rfl | exact Or.inr rfl) (pe_lst pa_nil))
    (pss_cons (ps_for PassesOwn.never rfl (pi_range1 (by rfl) T.z_range (pa_cons (pv 3) pa_nil)) (pg_name (i := 9) sc__law_parts.nd rfl (by first | exact Or.inl rfl | exact Or.inr rfl))
    (pss_cons (ps_setLc (i := 12) (own := [("j", 13)]) (g := gName 13) (by rfl) sc__law_parts.nd rfl rfl (sw_true rfl rfl rfl (by decide +kernel)) (pi_range1 (by rfl) T.z_range (pa_cons (pv 4) pa_nil)) (blkOk_by (own := [("j", 13)]) (N := N__law_parts) (sc := defScope s__law_parts) (by decide +kernel)) (fun _ _ _ _ _ => pg_name (i := 13) sc__law_parts.nd rfl (by first | exact Or.inl rfl | exact Or.inr rfl)) (fun _ _ _ _ _ => pts_nil) (fun _ _ _ _ _ => (pe_cal C__law_head (hr.mono (by first | decide | omega)) (by rfl) (pa_cons (pv 0) (pa_cons (pv 2) (pa_cons (pv 5) pa_nil))))))
    (pss_one (ps_expr (pe_bm PySem.F.plainAttrs_list PySem.F.slot_list_append PySem.F.type_list_append mt_append (pv 11) (pa_cons (pe_lst (pa_cons (pv 12) (pa_cons (pe_cal C__law_grid (hr.mono (by first | decide | omega)) (by rfl) (pa_cons (pv 0) (pa_cons (pv 2) (pa_cons (pv 5) pa_nil)))) (pa_cons (pe_cal C__law_grid (hr.mono (by first | decide | omega)) (by rfl) (pa_cons (pv 0) (pa_cons (pv 2) (pa_cons (pv 5) pa_nil)))) pa_nil)))) pa_nil))))))
    (pss_one (ps_ret (pe_lst (pa_cons (pv 6) (pa_cons (pv 7) (pa_cons (pv 8) (pa_cons (pv 10) (pa_cons (pv 11) (pa_cons (pe_lc (own := [("k", 9)]) (g := gName 9) (by rfl) sc__law_parts.nd (pi_range1 (by rfl) T.z_range (pa_cons (pv 1) pa_nil)) (blkOk_by (own := [("k", 9)]) (N := N__law_parts) (sc := defScope s__law_parts) (by decide +kernel)) (fun _ _ _ _ _ => pg_name (i := 9) sc__law_parts.nd rfl (by first | exact Or.inl rfl | exact Or.inr rfl)) (fun _ _ _ _ _ => pts_nil) (fun _ _ _ _ _ => (pe_cal C__law_row (hr.mono (by first | decide | omega)) (by rfl) (pa_cons (pv 0) (pa_cons (pv 2) (pa_cons (pv 5) pa_nil)))))) (pa_cons (pe_cal C__law_row (hr.mono (by first | decide | omega)) (by rfl) (pa_cons (pv 0) (pa_cons (pv 1) (pa_cons (pv 5) pa_nil)))) pa_nil)))))))))))))))))), ?_⟩
    try simp only [cxK]
    rw [show L2.start N__law_parts [.ref a] = [some (.ref a), none, none, none, none, none, none, none, none, none, none, none, none, none] from rfl]
    walk_at "go"
    rename_i t1 ht1
    refine g_ofI (ns := [2, 3, 3, 3, 4, 5, 6]) (lo := 2) (hi := 6) (bag_new B ht1) upd_same (bag_apart B ht1).1 ⟨by decide, by decide⟩ (by decide) fun size H1 sz2 sz6 B1 c1' => ?_
    have c1 : Chg a H H1 := (Chg.new ht1).trans c1'
    clear c1' ht1
    walk_at "go"
    rename_i t2 ht2
    refine g_ofI (ns := [1, 2, 2, 2, 3, 4]) (lo := 1) (hi := 4) (bag_new B1 ht2) upd_same (bag_apart B1 ht2).1 ⟨by decide, by decide⟩ (by decide) fun many H2 m1 m4 B2 c2' => ?_
    have c2 : Chg a H H2 := c1.trans ((Chg.new ht2).trans c2')
    clear c2' ht2 c1 B1
    walk_at "go"
    rename_i t3 ht3 t4 ht4
    refine g_ofI (ns := [1, 1, 2, 2, 3]) (lo := 1) (hi := 3) (bag_new (bag_new B2 ht3) ht4) upd_same (bag_apart (bag_new B2 ht3) ht4).1 ⟨by decide, by decide⟩ (by decide) fun deep H3 d1 d3 B3 c3' => ?_
    have c3 : Chg a H H3 := c2.trans ((Chg.new ht3).trans ((Chg.new ht4).trans c3'))
    clear c3' ht3 ht4 c2 B2
    walk_at "go"
    rename_i t5 ht5
    refine g_ofI (ns := [1, 1, 2]) (lo := 1) (hi := 2) (bag_new B3 ht5) upd_same (bag_apart B3 ht5).1 ⟨by decide, by decide⟩ (by decide) fun side H4 k1 k2 B4 c4' => ?_
    have c4 : Chg a H H4 := c3.trans ((Chg.new ht5).trans c4')
    clear c4' ht5 c3 B3
    walk_at "go"
    rename_i t6 ht6
    refine g_ofI (ns := [1, 2, 2, 2, 9]) (lo := 0) (hi := 9) (bag_new B4 ht6) upd_same (bag_apart B4 ht6).1 ⟨by decide, by decide⟩ (by decide) fun wide H5 w0 w9 B5 c5' => ?_
    have c5 : Chg a H H5 := c4.trans ((Chg.new ht6).trans c5')
    clear c5' ht6 c4 B4
    obtain ⟨sz, rfl⟩ : ∃ n : Nat, size = (n : Int) := ⟨size.toNat, by omega⟩
    obtain ⟨mn, rfl⟩ : ∃ n : Nat, many = (n : Int) := ⟨many.toNat, by omega⟩
    walk_at "go"
    refine g_string B5 (by omega) (by omega) fun z H6 hz lz B6 c6' => ?_
    have c6 : Chg a H H6 := c5.trans c6'
    clear c6' c5 B5
    walk_at "go"
    rename_i t7 ht7
    have B7 := bag_new (o := .tup [.int wide, .str z]) B6 ht7
    have c7 : Chg a H (upd H6 t7 (.tup [.int wide, .str z])) := c6.lay ht7
    generalize upd H6 t7 (.tup [.int wide, .str z]) = H7 at B7 c7 ⊢
    clear ht7 B6 c6
    refine g_drawB B7 ⟨by omega, by omega⟩ fun ld H8 l0 l9 B8 c8' => ?_
    have c8 := c7.trans c8'
    clear c8' c7 B7
    walk_at "go"
    rename_i t9 ht9
    refine g_ofI (ns := [1, 2, 3, 4, 5, 7, 9, 9, 99, 1 + ld]) (lo := 1) (hi := 99) (bag_new B8 ht9) upd_same (bag_apart B8 ht9).1 ⟨by simp, by simp⟩ (by intro i hi; simp only [List.mem_cons, List.not_mem_nil, or_false] at hi; omega) fun cap H9 cp1 cp9 B9 c9' => ?_
    have c9 : Chg a H H9 := c8.trans ((Chg.new ht9).trans c9')
    clear c9' ht9 c8 B8
    walk_at "go"
    rw [Int.toNat_natCast]
    refine lcBX (R := fun _ e => ∃ r : Row, e = dI r ∧ Bnd mn 9 r) B9 (by omega) (σ0 := [some (.ref a), some (.int (sz : Nat)), some (.int (mn : Nat)), some (.int deep), some (.int side), some (.int wide), some (.str z), some (.int cap), none, none, none, none, none, none]) rfl (fun i hi D H' N hD B1 c1 k => ?_) (fun R ys es A1 H10 nA1 hL hds hR le he B10 c10' => ?_)
    · walk_at "go"
      refine g_rowX B1 (by omega) w0 w9 fun y r A2 H2 hy n2 br B2 c2 => ?_
      exact k _ ⟨r, rfl, br.mono w9⟩ _ _ _ hy n2 B2 c2
    obtain ⟨trs, rfl, htrs⟩ := gather he
    rw [List.length_map] at le
    have dIds : DxAll H10 [.str z, .int cap, .ref R] [.str z, .int cap, dG trs] (R :: A1) := by
      have e0 : DxAll H9 [V.str z, V.int cap] [.str z, .int cap] [] := .cons (A := []) (B := []) (.str z) (.cons (A := []) (B := []) (.int cap) .nil fun _ h => absurd h List.not_mem_nil) fun _ h => absurd h List.not_mem_nil
      exact e0.add (fun _ h => absurd h List.not_mem_nil) (.lst hL hds hR) nA1 c10'
    have nI := nA1.back c9 B9
    have nIa := nA1.ne B9
    have c10 := c9.trans c10'
    clear c10' he hds hL hR B9 c9 nA1
    walk_at "go"
    rename_i t11 ht11
    refine g_ofI (ns := [1, 1, 2, 3, 6]) (lo := 1) (hi := 6) (bag_new B10 ht11) upd_same (bag_apart B10 ht11).1 ⟨by decide, by decide⟩ (by decide) fun spn H11 p1 p6 B11 c11' => ?_
    have c11'' : Chg a H10 H11 := (Chg.new ht11).trans c11'
    have c11 : Chg a H H11 := c10.trans c11''
    have dIds11 := dIds.chg nIa c11''
    obtain ⟨sp, rfl⟩ : ∃ n : Nat, spn = (n : Int) := ⟨spn.toNat, by omega⟩
    clear c11'' c11' ht11 c10 dIds B10
    walk_at "go"
    rw [Int.toNat_natCast]
    refine lcBX (R := fun _ e => ∃ r : Row, e = dI r ∧ Bnd mn 9 r) B11 (by omega) (σ0 := [some (.ref a), some (.int (sz : Nat)), some (.int (mn : Nat)), some (.int deep), some (.int side), some (.int wide), some (.str z), some (.int cap), some (.ref R), none, none, none, none, none]) rfl (fun i hi D H' N hD B1 c1 k => ?_) (fun R2 ys2 es2 A2 H12 nA2 hL2 hds2 hR2 le2 he2 B12 c12' => ?_)
    · walk_at "go"
      refine g_rowX B1 (by omega) w0 w9 fun y r A2 H2 hy n2 br B2 c2 => ?_
      exact k _ ⟨r, rfl, br.mono w9⟩ _ _ _ hy n2 B2 c2
    obtain ⟨prs, rfl, hprs⟩ := gather he2
    rw [List.length_map] at le2
    have d12 := dIds11.add nIa (.lst hL2 hds2 hR2) nA2 c12'
    have n12 := nI.app (nA2.back c11 B11)
    have n12a : ∀ q ∈ R :: A1 ++ R2 :: A2, q ≠ a := fun q hq => (List.mem_append.mp hq).elim (nIa q) (nA2.ne B11 q)
    have c12 := c11.trans c12'
    clear c12' he2 hds2 hL2 hR2 B11 c11 dIds11 nA2 nI nIa
    walk_at "go"
    rename_i ft hft
    obtain ⟨nfa, nfl⟩ := bag_apart B12 hft
    have B13 := bag_new (o := .lst []) B12 hft
    have f13 : upd H12 ft (.lst []) ft = some (.lst []) := upd_same
    have c13 : Chg a H12 (upd H12 ft (.lst [])) := Chg.new hft
    generalize upd H12 ft (.lst []) = H13 at B13 f13 c13 ⊢
    refine forR ⟨fun i σ' H' => ∃ y9 y12 fs lys, σ' = [some (.ref a), some (.int (sz : Nat)), some (.int (mn : Nat)), some (.int deep), some (.int side), some (.int wide), some (.str z), some (.int cap), some (.ref R), y9, some (.ref R2), some (.ref ft), y12, none] ∧
      (∃ AF, H' ft = some (.lst fs) ∧ DxAll H' fs (lys.map dLL) AF ∧ New H12 AF ∧ ft ∉ AF) ∧ lys.length = i ∧ (∀ y ∈ lys, LyOk mn side.toNat y) ∧ Bag H' a l ∧ Chg a H12 H', ⟨_, _, [], [], rfl, ⟨[], f13, .nil, New.nil, List.not_mem_nil⟩, rfl, fun y h => absurd h List.not_mem_nil, B13, c13⟩, ?_, ?_⟩
    · rintro i σ' H' hi ⟨y9, y12, fs, lys, rfl, ⟨AF, e1, hfs, nF, fF⟩, li, hly, B', cc⟩
      have fl : fs.length = i := by rw [hfs.len, List.length_map]; exact li
      walk_at "go"
      refine lcBX (R := fun _ e => ∃ h : Hd, e = dHL h ∧ HdOk mn h) B' (by omega) (σ0 := [some (.ref a), some (.int (sz : Nat)), some (.int (mn : Nat)), some (.int deep), some (.int side), some (.int wide), some (.str z), some (.int cap), some (.ref R), some (.int (0 + (i : Int))), some (.ref R2), some (.ref ft), y12, none]) rfl (fun i hi D H' N hD B1 c1 k => ?_) (fun R3 ys3 es3 A3 H14 nA3 hL3 hds3 hR3 le3 he3 B14 c14 => ?_)
      · walk_at "go"
        refine g_headX B1 (by omega) w0 w9 fun y h A2 H2 hy n2 hh B2 c2 => ?_
        exact k _ ⟨h, rfl, hh⟩ _ _ _ hy n2 B2 c2
      obtain ⟨hds, rfl, hhds⟩ := gather he3
      rw [List.length_map] at le3
      walk_at "go"
      refine g_gridX B14 (by omega) w0 w9 fun y1 g1 A15 H15 hy1 n15 hg1 B15 c15 => ?_
      walk_at "go"
      refine g_gridX B15 (by omega) w0 w9 fun y2 g2 A16 H16 hy2 n16 hg2 B16 c16 => ?_
      have e16 := c16 _ _ nfa (c15 _ _ nfa (c14 _ _ nfa e1))
      walk_at "go"
      rename_i p hp
      obtain ⟨x1, x2⟩ := dx_three B' B14 B15 (.lst hL3 hds3 hR3) nA3 c14 hy1 n15 c15 hy2 n16 c16 hp
      have nP := x2 B16
      have nfp : ft ≠ p := ne_of_none e16 hp
      have e17 : upd H16 p (.lst [.ref R3, y1, y2]) ft = some (.lst fs) := by rw [upd_ne nfp]; exact e16
      refine g_app e17 (by omega) ?_
      walk_at "go"
      have c17 : Chg a H' (upd H16 p (.lst [.ref R3, y1, y2])) := ((c14.trans c15).trans c16).trans (Chg.new hp)
      have fP : ft ∉ p :: (R3 :: A3 ++ (A15 ++ (A16 ++ []))) := fun h => by
        have := nP ft h
        rw [e1] at this
        cases this
      have kp : ∀ q, q ≠ ft → ∀ o, upd H16 p (.lst [.ref R3, y1, y2]) q = some o → upd (upd H16 p (.lst [.ref R3, y1, y2])) ft (.lst (fs ++ [.ref p])) q = some o := fun q n o e => by rw [upd_ne n]; exact e
      refine ⟨_, _, fs ++ [.ref p], lys ++ [(hds, g1, g2)], rfl, ⟨AF ++ p :: (R3 :: A3 ++ (A15 ++ (A16 ++ []))), upd_same, ?_, nF.app (nP.back cc B'), fun h => (List.mem_append.mp h).elim fF fP⟩, by rw [List.length_append, li]; rfl, fun y hy => ?_, bag_chg (bag_new B16 hp) nfa nfl, fun b o na e => ?_⟩
      · rw [List.map_append]
        have h1 := hfs.add (nF.ne B12) (show Dx _ (.ref p) (dLL (hds, g1, g2)) _ from x1) nP c17
        exact h1.keep fun q hq o e => kp q (fun z => (List.mem_append.mp hq).elim (fun h => fF (z ▸ h)) fun h => fP (z ▸ h)) o e
      · rcases List.mem_append.mp hy with hy | hy
        · exact hly y hy
        · rw [List.mem_singleton.mp hy]
          exact ⟨le3, hhds, hg1, hg2⟩
      · rw [upd_ne (ne_of_none e hft)]
        exact c17 b o na (cc b o na e)
    rintro σ' H' ⟨y9, y12, fs, lys, rfl, ⟨AF, e1, hfs, nF, fF⟩, li, hly, B', cc⟩
    have nFF : New H12 (ft :: AF) := New.cons hft nF
    have dF := d12.add n12a (.lst e1 hfs fF) nFF cc
    have nAll := n12.app (nFF.back c12 B12)
    have nAllA : ∀ q ∈ R :: A1 ++ R2 :: A2 ++ ft :: AF, q ≠ a := fun q hq => (List.mem_append.mp hq).elim (n12a q) (nFF.ne B12 q)
    have c' : Chg a H H' := c12.trans cc
    clear d12 n12 n12a nFF nF hfs fF hft
    walk_at "go"
    rw [Int.toNat_natCast]
    refine lcBX (R := fun _ e => ∃ r : Row, e = dI r ∧ Bnd mn 9 r) B' (by omega) (σ0 := [some (.ref a), some (.int (sz : Nat)), some (.int (mn : Nat)), some (.int deep), some (.int side), some (.int wide), some (.str z), some (.int cap), some (.ref R), none, some (.ref R2), some (.ref ft), y12, none]) rfl (fun i hi D H' N hD B1 c1 k => ?_) (fun R4 ys4 es4 A4 H18 nA4 hL4 hds4 hR4 le4 he4 B18 c18 => ?_)
    · walk_at "go"
      refine g_rowX B1 (by omega) w0 w9 fun y r A2 H2 hy n2 br B2 c2 => ?_
      exact k _ ⟨r, rfl, br.mono w9⟩ _ _ _ hy n2 B2 c2
    obtain ⟨ous, rfl, hous⟩ := gather he4
    rw [List.length_map] at le4
    have d18 := dF.add nAllA (.lst hL4 hds4 hR4) nA4 c18
    have n18 := nAll.app (nA4.back c' B')
    have n18a : ∀ q ∈ R :: A1 ++ R2 :: A2 ++ ft :: AF ++ R4 :: A4, q ≠ a := fun q hq => (List.mem_append.mp hq).elim (nAllA q) (nA4.ne B' q)
    walk_at "go"
    refine g_rowX B18 (by omega) w0 w9 fun y5 ba A5 H19 hy5 n5 hba B19 c19 => ?_
    have d19 := d18.add n18a hy5 n5 c19
    have c18' := c'.trans c18
    have n19 := n18.app (n5.back c18' B18)
    walk_at "go"
    rename_i p hp
    have c19' := c18'.trans c19
    refine q _ ⟨z, cap, trs, prs, lys, ous, ba⟩ mn side.toNat _ _ (dx_new hp d19) ?_
      ⟨hz, ⟨cp1, cp9⟩, ⟨by rw [le, lz], htrs⟩, ⟨by show 1 ≤ prs.length; omega, by show prs.length ≤ 6; omega, hprs⟩, ⟨by show 1 ≤ lys.length; omega, by show lys.length ≤ 3; omega, hly⟩, ⟨by rw [le4, lz], hous⟩, by rw [lz]; exact hba.mono w9, ⟨by omega, by omega⟩, ⟨by omega, by omega⟩⟩ (bag_new B19 hp) (c19'.lay hp)
    exact New.cons ((New.back (New.cons hp New.nil) c19' B19) p List.mem_cons_self) n19
theorem c_partsL (T : Top K mg) : Cal P w K mg base "_law_parts" 5 P__law_parts spPartsL := cal_mk T.f__law_parts (ok_partsL T) (fun F => F.bindsN fun _ _ _ _ _ _ us hl => match us, hl with | [_], _ => rfl)
end

set_option Elab.async false
set_option linter.all false
set_option maxRecDepth 100000
set_option maxHeartbeats 4000000
open PySem PySem.Spec L2



section
variable {P : Program} {w : World} {K : PySem.W.Frag} {mg : Str → Option Value} {base : Heap}
/-! copies as lists -/
mutual
def lstD : PyData → PyData
  | .list ds => .list (lstAll ds)
  | .tuple ds => .list (lstAll ds)
  | d => d
def lstAll : List PyData → List PyData
  | [] => []
  | d :: ds => lstD d :: lstAll ds
end
theorem lstAll_map : ∀ ds : List PyData, lstAll ds = ds.map lstD
  | [] => rfl
  | d :: ds => by rw [List.map_cons, ← lstAll_map ds]; rfl
theorem lst_seq {d : PyData} (h : isSeqD d = true) : lstD d = .list ((itsD d).map lstD) := by
  cases d with
  | list ds => show PyData.list (lstAll ds) = _; rw [lstAll_map]; rfl
  | tuple ds => show PyData.list (lstAll ds) = _; rw [lstAll_map]; rfl
  | _ => cases h
theorem lst_leaf {d : PyData} (h : isSeqD d = false) : lstD d = d := by
  cases d with
  | list ds => cases h
  | tuple ds => cases h
  | _ => rfl
def spLst (K : PySem.W.Frag) (n : Nat) : Sp := fun vs H Q _ => ∃ (S : Addr → Prop) (x : V) (d : PyData), vs = [x] ∧ Dq K S H x d ∧ Al S H ∧ d.depth ≤ n ∧ smallD d = true ∧ ∀ (y : V) (H' : Hp) (A : List Addr), Dx H' y (lstD d) A → (∀ a ∈ A, H a = none) → Same H H' → Q y H'
theorem g_lstX {n : Nat} {S : Addr → Prop} {x : V} {d : PyData} {H : Hp} {Q : VK} {E : XK} (h : Dq K S H x d) (al : Al S H) (hd : d.depth ≤ n) (hs : smallD d = true) (q : ∀ (y : V) (H' : Hp) (A : List Addr), Dx H' y (lstD d) A → (∀ a ∈ A, H a = none) → Same H H' → Q y H') : spLst K n [x] H Q E := ⟨S, x, d, rfl, h, al, hd, hs, q⟩
theorem g_lstC {n : Nat} {S : Addr → Prop} {x : V} {d : PyData} {H : Hp} {Q : VK} {E : XK} (h : Dq K S H x d) (al : Al S H) (hd : d.depth ≤ n) (hs : smallD d = true) (q : ∀ (y : V) (H' : Hp), Dq K S H' y (lstD d) → Same H H' → Q y H') : spLst K n [x] H Q E := g_lstX h al hd hs fun y H' A h n s => q y H' (h.dq fun a ha => al.no (n a ha)) s
theorem dx_leaf {S : Addr → Prop} {H : Hp} {x : V} {d : PyData} (h : Dq K S H x d) (l : isSeqD d = false) : Dx H x d [] := by
  cases h with
  | non => exact .non
  | bl b => exact .bl b
  | int i => exact .int i
  | str z => exact .str z
  | lst _ _ => cases l
  | tup _ _ => cases l
theorem ok_lst0 (T : Top K mg) {f : Addr} {fd : FuncData} (F : FnP K "_law_lists" s__law_lists f fd) : FnOk P w K mg base CX0 1 f fd P__law_lists (spLst K 0) := by
  refine F.ok sc__law_lists (fun vs H Q E h => ?_) (fun cdv A outer s H vs Q E hr h => ?_)
  · obtain ⟨S, x, d, rfl, _⟩ := h
    rfl
  · obtain ⟨S, x, d, rfl, hx, al, hd, hs, q⟩ := h
    refine ⟨_, PSs.nox (pss_cons (ps_if (pt_val (pe_callB (k_isiT (K := K) (by rfl)) (by rfl) T.z_isinstance (by decide +kernel) (pa_cons (pv 0) (pa_cons (pe_tup (pa_cons (pe_bltn (v := .ty "list") (u := .type "list") (by rfl) T.z_list (by decide +kernel) rfl) (pa_cons (pe_bltn (v := .ty "tuple") (u := .type "tuple") (by rfl) T.z_tuple (by decide +kernel) rfl) pa_nil))) pa_nil))))
    pss_never
    pss_nil)
    (pss_one (ps_ret (pv 0)))), ?_⟩
    try simp only [cxK]
    rw [show L2.start N__law_lists [x] = [some x, none] from rfl]
    have lf := depth_leaf hd
    walk_at "go"
    rename_i p hp
    have s1 : Same H (upd H p (.tup [V.ty "list", V.ty "tuple"])) := same_new hp
    refine g_isSeq (hx.sm s1).dp upd_same ?_
    rw [lf]
    rw [lst_leaf lf] at q
    walk_at "go"
    exact q _ _ [] (dx_leaf (hx.sm s1) lf) (fun a h => absurd h List.not_mem_nil) s1
theorem c_lst0 (T : Top K mg) : Cal P w K mg base "_law_lists" 1 P__law_lists (spLst K 0) := cal_mk T.f__law_lists (ok_lst0 T) (fun F => F.bindsN fun _ _ _ _ _ _ us hl => match us, hl with | [_], _ => rfl)
theorem ok_lst {n : Nat} (T : Top K mg) (C__law_lists : Cal P w K mg base "_law_lists" (n + 1) P__law_lists (spLst K n)) {f : Addr} {fd : FuncData} (F : FnP K "_law_lists" s__law_lists f fd) : FnOk P w K mg base CX0 (n + 2) f fd P__law_lists (spLst K (n + 1)) := by
  refine F.ok sc__law_lists (fun vs H Q E h => ?_) (fun cdv A outer s H vs Q E hr h => ?_)
  · obtain ⟨S, x, d, rfl, _⟩ := h
    rfl
  · obtain ⟨S, x, d, rfl, hx, al, hd, hs, q⟩ := h
    refine ⟨_, PSs.nox (pss_cons (ps_if (pt_val (pe_callB (k_isiT (K := K) (by rfl)) (by rfl) T.z_isinstance (by decide +kernel) (pa_cons (pv 0) (pa_cons (pe_tup (pa_cons (pe_bltn (v := .ty "list") (u := .type "list") (by rfl) T.z_list (by decide +kernel) rfl) (pa_cons (pe_bltn (v := .ty "tuple") (u := .type "tuple") (by rfl) T.z_tuple (by decide +kernel) rfl) pa_nil))) pa_nil))))
    (pss_one (ps_ret (pe_lc (own := [("item", 1)]) (g := gName 1) (by rfl) sc__law_lists.nd (k_piB (K := K) (by rfl) (pv 0)) (blkOk_by (own := [("item", 1)]) (N := N__law_lists) (sc := defScope s__law_lists) (by decide +kernel)) (fun _ _ _ _ _ => pg_name (i := 1) sc__law_lists.nd rfl (by first | exact Or.inl rfl | exact Or.inr rfl)) (fun _ _ _ _ _ => pts_nil) (fun _ _ _ _ _ => (pe_cal C__law_lists (hr.mono (by first | decide | omega)) (by rfl) (pa_cons (pv 1) pa_nil))))))
    pss_nil)
    (pss_one (ps_ret (pv 0)))), ?_⟩
    try simp only [cxK]
    rw [show L2.start N__law_lists [x] = [some x, none] from rfl]
    walk_at "go"
    rename_i p hp
    have s1 : Same H (upd H p (.tup [V.ty "list", V.ty "tuple"])) := same_new hp
    refine g_isSeq (hx.sm s1).dp upd_same ?_
    generalize upd H p (.tup [V.ty "list", V.ty "tuple"]) = H1 at s1 ⊢
    cases lf : isSeqD d with
    | false =>
      rw [lst_leaf lf] at q
      walk_at "go"
      exact q _ _ [] (dx_leaf (hx.sm s1) lf) (fun a h => absurd h List.not_mem_nil) s1
    | true =>
      rw [lst_seq lf] at q
      walk_at "go"
      refine g_bRQ (hx.sm s1) lf fun b xs e c hds => ?_
      subst e
      refine lcX (f := lstD) c hds (al.sm s1) (small_its hs).1 (σ0 := [some (.ref b), none]) rfl (fun i y e D H' N he hm hD s2 al2 hy k => ?_) (fun R ys H2 A hR hL hds2 hA nR s2 => ?_)
      · walk_at "go"
        exact g_lstX hy al2 (depth_its hd hm) ((small_its hs).2 e hm) k
      · have nn : ∀ a, H1 a = none → H a = none := fun a h => by
          cases hh : H a with
          | none => rfl
          | some o => rw [s1 a o hh] at h; cases h
        exact q _ _ (R :: A) (.lst hL hds2 nR) (fun a ha => (List.mem_cons.mp ha).elim (fun e => by rw [e]; exact nn R hR) fun h => nn a (hA a h)) (s1.trans s2)
theorem c_lst (T : Top K mg) : ∀ n : Nat, Cal P w K mg base "_law_lists" (n + 1) P__law_lists (spLst K n)
  | 0 => c_lst0 T
  | n + 1 => cal_mk T.f__law_lists (ok_lst T (c_lst T n)) (fun F => F.bindsN fun _ _ _ _ _ _ us hl => match us, hl with | [_], _ => rfl)
/-! facts of the parts as data -/
theorem lst_map {α : Type} {enc : α → PyData} (h : ∀ t, lstD (enc t) = enc t) (ts : List α) : lstD (.list (ts.map enc)) = .list (ts.map enc) := by
  show PyData.list (lstAll (ts.map enc)) = _
  rw [lstAll_map, List.map_map]
  congr 1
  exact List.map_congr_left fun t _ => h t
theorem lst_dI (r : Row) : lstD (dI r) = dI r := lst_map (enc := PyData.int) (fun _ => rfl) r
theorem lst_dG (t : Tb) : lstD (dG t) = dG t := lst_map lst_dI t
theorem lst_dHL (h : Hd) : lstD (dHL h) = dHL h := by
  show PyData.list [lstD (dG h.1), lstD (dG h.2.1), lstD (dG h.2.2)] = _
  rw [lst_dG, lst_dG, lst_dG]
  rfl
theorem lst_dLL (l : Ly) : lstD (dLL l) = dLL l := by
  show PyData.list [lstD (.list (l.1.map dHL)), lstD (dG l.2.1), lstD (dG l.2.2)] = _
  rw [lst_map lst_dHL, lst_dG, lst_dG]
  rfl
theorem lst_dPt (p : Pt) : lstD (dPt p) = dPt p := by
  show PyData.list [.str p.tk, .int p.cap, lstD (dG p.tr), lstD (dG p.pr), lstD (.list (p.ly.map dLL)), lstD (dG p.ou), lstD (dI p.ba)] = _
  rw [lst_dG, lst_dG, lst_dG, lst_map lst_dLL, lst_dI]
  rfl
theorem frz_map {α : Type} {enc enc2 : α → PyData} (h : ∀ t, frzD (enc t) = enc2 t) (ts : List α) : frzD (.list (ts.map enc)) = .tuple (ts.map enc2) := by
  show PyData.tuple (frzAll (ts.map enc)) = _
  rw [frzAll_map, List.map_map]
  congr 1
  exact List.map_congr_left fun t _ => h t
theorem frz_dI (r : Row) : frzD (dI r) = tI r := frz_map (enc := PyData.int) (enc2 := PyData.int) (fun _ => rfl) r
theorem frz_dG (t : Tb) : frzD (dG t) = tG t := frz_map frz_dI t
theorem frz_dHL (h : Hd) : frzD (dHL h) = dHT h := by
  show PyData.tuple [frzD (dG h.1), frzD (dG h.2.1), frzD (dG h.2.2)] = _
  rw [frz_dG, frz_dG, frz_dG]
  rfl
theorem frz_dLL (l : Ly) : frzD (dLL l) = dLT l := by
  show PyData.tuple [frzD (.list (l.1.map dHL)), frzD (dG l.2.1), frzD (dG l.2.2)] = _
  rw [frz_map frz_dHL, frz_dG, frz_dG]
  rfl
theorem small_map {α : Type} {enc : α → PyData} {ts : List α} (h : ∀ t ∈ ts, smallD (enc t) = true) (hl : ts.length ≤ 1000) : smallD (.list (ts.map enc)) = true := by
  show (decide ((ts.map enc).length ≤ 1000) && smallAll (ts.map enc)) = true
  rw [List.length_map, decide_eq_true hl, Bool.true_and]
  clear hl
  induction ts with
  | nil => rfl
  | cons t r ih =>
    show (smallD (enc t) && smallAll (r.map enc)) = true
    rw [h t List.mem_cons_self, ih fun u hu => h u (List.mem_cons_of_mem _ hu)]
    rfl
theorem depth_map {α : Type} {enc : α → PyData} {ts : List α} {n : Nat} (h : ∀ t ∈ ts, (enc t).depth ≤ n) : PyData.depth (.list (ts.map enc)) ≤ n + 1 := by
  show PyData.depthAll (ts.map enc) + 1 ≤ n + 1
  have : PyData.depthAll (ts.map enc) ≤ n := by
    induction ts with
    | nil => exact Nat.zero_le _
    | cons t r ih =>
      show max (enc t).depth (PyData.depthAll (r.map enc)) ≤ n
      have := h t List.mem_cons_self
      have := ih fun u hu => h u (List.mem_cons_of_mem _ hu)
      omega
  omega
theorem depth_dI (r : Row) : (dI r).depth ≤ 1 := depth_map (enc := PyData.int) fun _ _ => Nat.le_refl _
theorem depth_dG (t : Tb) : (dG t).depth ≤ 2 := depth_map fun r _ => depth_dI r
theorem depth_dHL (h : Hd) : (dHL h).depth ≤ 3 := by
  have := depth_dG h.1; have := depth_dG h.2.1; have := depth_dG h.2.2
  show max (dG h.1).depth (max (dG h.2.1).depth (max (dG h.2.2).depth 0)) + 1 ≤ 3
  omega
theorem depth_dLL (l : Ly) : (dLL l).depth ≤ 5 := by
  have := depth_dG l.2.1; have := depth_dG l.2.2
  have := depth_map (enc := dHL) (ts := l.1) (n := 3) fun h _ => depth_dHL h
  show max (PyData.list (l.1.map dHL)).depth (max (dG l.2.1).depth (max (dG l.2.2).depth 0)) + 1 ≤ 5
  omega
theorem depth_dPt (p : Pt) : (dPt p).depth ≤ 7 := by
  have := depth_dG p.tr; have := depth_dG p.pr; have := depth_dG p.ou; have := depth_dI p.ba
  have := depth_map (enc := dLL) (ts := p.ly) (n := 5) fun h _ => depth_dLL h
  show max 0 (max 0 (max (dG p.tr).depth (max (dG p.pr).depth (max (PyData.list (p.ly.map dLL)).depth (max (dG p.ou).depth (max (dI p.ba).depth 0)))))) + 1 ≤ 7
  omega
theorem small_dI {n : Nat} {b : Int} {r : Row} (h : Bnd n b r) (hn : n ≤ 1000) : smallD (dI r) = true := small_map (enc := PyData.int) (fun _ _ => rfl) (by rw [h.1]; exact hn)
theorem small_dG {n : Nat} {t : Tb} (h : ∀ r ∈ t, Bnd n 9 r) (hn : n ≤ 1000) (hl : t.length ≤ 1000) : smallD (dG t) = true := small_map (fun r hr => small_dI (h r hr) hn) hl
theorem small_3 {a b c : PyData} (h1 : smallD a = true) (h2 : smallD b = true) (h3 : smallD c = true) : smallD (.list [a, b, c]) = true := by
  show (decide (3 ≤ 1000) && (smallD a && (smallD b && (smallD c && true)))) = true
  rw [h1, h2, h3]
  rfl
theorem small_dLL {n k : Nat} {l : Ly} (h : LyOk n k l) (hn : n ≤ 4) (hk : k ≤ 2) : smallD (dLL l) = true := by
  have tb : ∀ t, TbOk n t → smallD (dG t) = true := fun t ht => small_dG ht.2 (by omega) (by rw [ht.1]; omega)
  exact small_3 (small_map (fun g hg => small_3 (tb _ (h.2.1 g hg).1) (tb _ (h.2.1 g hg).2.1) (tb _ (h.2.1 g hg).2.2)) (by rw [h.1]; omega)) (tb _ h.2.2.1) (tb _ h.2.2.2)
theorem tk_len {n k : Nat} {p : Pt} (I : PtOk n k p) : 2 ≤ p.tk.length ∧ p.tk.length ≤ 6 := by
  have := I.tk
  unfold toksB at this
  rw [Bool.and_eq_true, Bool.and_eq_true] at this
  exact ⟨of_decide_eq_true this.1, of_decide_eq_true this.2.1⟩
structure PtSm (p : Pt) : Prop where
  tr : smallD (dG p.tr) = true
  pr : smallD (dG p.pr) = true
  ly : smallD (.list (p.ly.map dLL)) = true
  ou : smallD (dG p.ou) = true
  ba : smallD (dI p.ba) = true
theorem pt_sm {n k : Nat} {p : Pt} (I : PtOk n k p) : PtSm p := by
  have l6 := (tk_len I).2
  have n4 := I.n4.2
  exact ⟨small_dG I.tr.2 (by omega) (by rw [I.tr.1]; omega), small_dG I.pr.2.2 (by omega) (by have := I.pr.2.1; omega), small_map (fun l hl => small_dLL (I.ly.2.2 l hl) n4 I.k2.2) (by have := I.ly.2.1; omega), small_dG I.ou.2 (by omega) (by rw [I.ou.1]; omega), small_dI I.ba (by omega)⟩
theorem small_dPt {n k : Nat} {p : Pt} (I : PtOk n k p) : smallD (dPt p) = true := by
  have s := pt_sm I
  show (decide (7 ≤ 1000) && (true && (true && (smallD (dG p.tr) && (smallD (dG p.pr) && (smallD (.list (p.ly.map dLL)) && (smallD (dG p.ou) && (smallD (dI p.ba) && true)))))))) = true
  rw [s.tr, s.pr, s.ly, s.ou, s.ba]
  rfl
/-! the parts are right -/
theorem list_is {ds : List PyData} {l m : Int} (h1 : l ≤ ds.length) (h2 : (ds.length : Int) ≤ m) : listD (.list ds) l m = true := by
  show (true && (decide (l ≤ (ds.length : Int)) && decide ((ds.length : Int) ≤ m))) = true
  rw [decide_eq_true h1, decide_eq_true h2]
  rfl
theorem all_is {α : Type} {f : α → Bool} {xs : List α} (h : ∀ x ∈ xs, f x = true) : (xs.map f).all id = true := by
  rw [List.all_eq_true]
  intro b hb
  obtain ⟨x, hx, rfl⟩ := List.mem_map.mp hb
  exact h x hx
theorem row_is {n : Nat} {r : Row} (h : Bnd n 9 r) : rowD (dI r) n = true := by
  unfold rowD
  rw [show listD (dI r) n n = true from list_is (by rw [List.length_map, h.1]; exact Int.le_refl _) (by rw [List.length_map, h.1]; exact Int.le_refl _), Bool.true_and]
  refine all_is fun e he => ?_
  obtain ⟨i, hi, rfl⟩ := List.mem_map.mp (show e ∈ r.map PyData.int from he)
  have := h.2 i hi
  show (decide (-9 ≤ i) && decide (i ≤ 9)) = true
  rw [decide_eq_true this.1, decide_eq_true this.2]
  rfl
theorem rows_is {n : Nat} {t : Tb} {l m : Int} (h : ∀ r ∈ t, Bnd n 9 r) (h1 : l ≤ t.length) (h2 : (t.length : Int) ≤ m) : rowsD (dG t) l m n = true := by
  unfold rowsD
  rw [show listD (dG t) l m = true from list_is (by rw [List.length_map]; exact h1) (by rw [List.length_map]; exact h2), Bool.true_and]
  refine all_is fun e he => ?_
  obtain ⟨r, hr, rfl⟩ := List.mem_map.mp (show e ∈ t.map dI from he)
  exact row_is (h r hr)
theorem tbl_is {n : Nat} {t : Tb} (h : TbOk n t) : tblD (dG t) n = true := rows_is h.2 (by rw [h.1]; exact Int.le_refl _) (by rw [h.1]; exact Int.le_refl _)
theorem head_is {n : Nat} {h : Hd} (hh : HdOk n h) : headD (dHL h) n = true := by
  unfold headD
  rw [show listD (dHL h) 3 3 = true from list_is (by simp) (by simp), Bool.true_and]
  refine all_is fun e he => ?_
  have he : e ∈ [dG h.1, dG h.2.1, dG h.2.2] := he
  simp only [List.mem_cons, List.not_mem_nil, or_false] at he
  rcases he with rfl | rfl | rfl
  · exact tbl_is hh.1
  · exact tbl_is hh.2.1
  · exact tbl_is hh.2.2
theorem lay_is {n k : Nat} {l : Ly} (h : LyOk n k l) : layD (dLL l) k n = true := by
  show ((listD (.list (l.1.map dHL)) k k && ((l.1.map dHL).map fun e => headD e n).all id) && (tblD (dG l.2.1) n && tblD (dG l.2.2) n)) = true
  rw [tbl_is h.2.2.1, tbl_is h.2.2.2, list_is (by rw [List.length_map, h.1]; exact Int.le_refl _) (by rw [List.length_map, h.1]; exact Int.le_refl _), Bool.true_and, Bool.true_and, Bool.and_true]
  refine all_is fun e he => ?_
  obtain ⟨g, hg, rfl⟩ := List.mem_map.mp he
  exact head_is (h.2.1 g hg)
theorem first_row {n k : Nat} {p : Pt} (I : PtOk n k p) : ∃ r, fstD (dG p.tr) = dI r ∧ Bnd n 9 r := by
  have l2 := (tk_len I).1
  have e := I.tr.1
  cases h : p.tr with
  | nil => rw [h] at e; simp at e; omega
  | cons r rs => exact ⟨r, rfl, I.tr.2 r (by rw [h]; exact List.mem_cons_self)⟩
theorem first_lay {n k : Nat} {p : Pt} (I : PtOk n k p) : ∃ l, fstD (.list (p.ly.map dLL)) = dLL l ∧ l ∈ p.ly := by
  have e := I.ly.1
  cases h : p.ly with
  | nil => rw [h] at e; simp at e
  | cons l ls => exact ⟨l, rfl, List.mem_cons_self⟩
theorem wrong_is {n k : Nat} {p : Pt} (I : PtOk n k p) : wrongV (.str p.tk) (.int p.cap) (dG p.tr) (dG p.pr) (.list (p.ly.map dLL)) (dG p.ou) (dI p.ba) = .non := by
  obtain ⟨r, er, hr⟩ := first_row I
  obtain ⟨l, el, hl⟩ := first_lay I
  have lk := I.ly.2.2 l hl
  have w : ((itsD (fstD (dG p.tr))).length : Int) = n := by
    rw [er]
    show ((r.map PyData.int).length : Int) = n
    rw [List.length_map, hr.1]
  have l2 := tk_len I
  have n4 := I.n4
  have k2 := I.k2
  have e1 : toksD (.str p.tk) = true := I.tk
  have e2 : numD (.int p.cap) 1 99 = true := by
    show (decide (1 ≤ p.cap) && decide (p.cap ≤ 99)) = true
    rw [decide_eq_true I.cp.1, decide_eq_true I.cp.2]
    rfl
  have e3 : tokD (dG p.tr) (lenD (.str p.tk)) = true := by
    show tokD (dG p.tr) (p.tk.length : Int) = true
    unfold tokD
    rw [w, rows_is I.tr.2 (by rw [I.tr.1]; exact Int.le_refl _) (by rw [I.tr.1]; exact Int.le_refl _), Bool.and_true, er,
      show listD (dG p.tr) p.tk.length p.tk.length = true from list_is (by rw [List.length_map, I.tr.1]; exact Int.le_refl _) (by rw [List.length_map, I.tr.1]; exact Int.le_refl _), Bool.true_and]
    exact list_is (by rw [List.length_map, hr.1]; omega) (by rw [List.length_map, hr.1]; omega)
  have e4 : rowsD (dG p.pr) 1 6 n = true := rows_is I.pr.2.2 (by have := I.pr.1; omega) (by have := I.pr.2.1; omega)
  have e5 : laysD (.list (p.ly.map dLL)) n = true := by
    unfold laysD
    have hk : ((itsD (fstD (fstD (.list (p.ly.map dLL))))).length : Int) = k := by
      rw [el]
      show ((l.1.map dHL).length : Int) = k
      rw [List.length_map, lk.1]
    rw [hk, list_is (by rw [List.length_map]; have := I.ly.1; omega) (by rw [List.length_map]; have := I.ly.2.1; omega), Bool.true_and, el,
      show listD (fstD (dLL l)) 1 2 = true from list_is (by rw [List.length_map, lk.1]; omega) (by rw [List.length_map, lk.1]; omega), Bool.true_and, Bool.and_eq_true]
    refine ⟨all_is fun e he => ?_, all_is fun e he => ?_⟩
    · obtain ⟨g, hg, rfl⟩ := List.mem_map.mp (show e ∈ p.ly.map dLL from he)
      exact list_is (by simp) (by simp)
    · obtain ⟨g, hg, rfl⟩ := List.mem_map.mp (show e ∈ p.ly.map dLL from he)
      exact lay_is (I.ly.2.2 g hg)
  have e6 : rowsD (dG p.ou) (lenD (.str p.tk)) (lenD (.str p.tk)) n = true := rows_is I.ou.2 (by show (p.tk.length : Int) ≤ _; rw [I.ou.1]; exact Int.le_refl _) (by show _ ≤ (p.tk.length : Int); rw [I.ou.1]; exact Int.le_refl _)
  have e7 : rowD (dI p.ba) (lenD (.str p.tk)) = true := row_is I.ba
  unfold wrongV
  rw [w, if_pos e1, if_pos e2, if_pos e3, if_pos e4, if_pos e5, if_pos e6, if_pos e7]
end

set_option Elab.async false
set_option linter.all false
set_option maxRecDepth 100000
set_option maxHeartbeats 4000000
open PySem PySem.Spec L2



section
variable {P : Program} {w : World} {K : PySem.W.Frag} {mg : Str → Option Value} {base : Heap}
/-! tuples are judged as lists are -/
theorem its_frz (d : PyData) : itsD (frzD d) = (itsD d).map frzD := by
  cases d with
  | list ds => exact frzAll_map ds
  | tuple ds => exact frzAll_map ds
  | _ => rfl
theorem isq_frz (d : PyData) : isSeqD (frzD d) = isSeqD d := by cases d <;> rfl
theorem fst_frz (d : PyData) : fstD (frzD d) = frzD (fstD d) := by
  unfold fstD
  rw [its_frz]
  cases itsD d <;> rfl
theorem len_frz (d : PyData) : (itsD (frzD d)).length = (itsD d).length := by rw [its_frz, List.length_map]
theorem list_frz (d : PyData) (l m : Int) : listD (frzD d) l m = listD d l m := by
  unfold listD
  rw [isq_frz, len_frz]
theorem num_frz (d : PyData) (l m : Int) : numD (frzD d) l m = numD d l m := by cases d <;> rfl
theorem map_frz {f g : PyData → Bool} (h : ∀ d, f (frzD d) = g d) (xs : List PyData) : (xs.map frzD).map f = xs.map g := by
  rw [List.map_map]
  exact List.map_congr_left fun d _ => h d
theorem row_frz (d : PyData) (n : Int) : rowD (frzD d) n = rowD d n := by
  unfold rowD
  rw [list_frz, its_frz, map_frz fun d => num_frz d _ _]
theorem rows_frz (d : PyData) (l m n : Int) : rowsD (frzD d) l m n = rowsD d l m n := by
  unfold rowsD
  rw [list_frz, its_frz, map_frz fun d => row_frz d _]
theorem tok_frz (d : PyData) (n : Int) : tokD (frzD d) n = tokD d n := by
  unfold tokD
  rw [list_frz, fst_frz, list_frz, rows_frz, len_frz]
theorem head_frz (d : PyData) (n : Int) : headD (frzD d) n = headD d n := by
  unfold headD
  rw [list_frz, its_frz, map_frz fun d => rows_frz d n n n]
  rfl
theorem lay_frz (d : PyData) (k n : Int) : layD (frzD d) k n = layD d k n := by
  unfold layD
  rw [its_frz]
  match itsD d with
  | [] => rfl
  | [_] => rfl
  | [_, _] => rfl
  | [p, u, v] =>
    show ((listD (frzD p) k k && ((itsD (frzD p)).map fun e => headD e n).all id) && (tblD (frzD u) n && tblD (frzD v) n)) = _
    unfold tblD
    rw [list_frz, its_frz, map_frz fun d => head_frz d n, rows_frz, rows_frz]
  | _ :: _ :: _ :: _ :: _ => rfl
theorem lays_frz (d : PyData) (n : Int) : laysD (frzD d) n = laysD d n := by
  unfold laysD
  rw [list_frz, fst_frz, fst_frz, list_frz, len_frz, its_frz, map_frz fun d => list_frz d 3 3, map_frz fun d => lay_frz d _ n]
theorem wrong_frz (t c tr pr ly ou b : PyData) : wrongV t c (frzD tr) (frzD pr) (frzD ly) (frzD ou) (frzD b) = wrongV t c tr pr ly ou b := by
  unfold wrongV
  rw [tok_frz, fst_frz, len_frz, rows_frz, lays_frz, rows_frz, row_frz]
mutual
theorem small_frz : ∀ d, smallD (frzD d) = smallD d
  | .list ds => by
    show (decide ((frzAll ds).length ≤ 1000) && smallAll (frzAll ds)) = (decide (ds.length ≤ 1000) && smallAll ds)
    rw [smallAll_frz ds, frzAll_map, List.length_map]
  | .tuple ds => by
    show (decide ((frzAll ds).length ≤ 1000) && smallAll (frzAll ds)) = (decide (ds.length ≤ 1000) && smallAll ds)
    rw [smallAll_frz ds, frzAll_map, List.length_map]
  | .none => rfl
  | .bool _ => rfl
  | .int _ => rfl
  | .str _ => rfl
  | .dict _ => rfl
theorem smallAll_frz : ∀ ds, smallAll (frzAll ds) = smallAll ds
  | [] => rfl
  | d :: ds => by
    show (smallD (frzD d) && smallAll (frzAll ds)) = (smallD d && smallAll ds)
    rw [small_frz d, smallAll_frz ds]
end
mutual
theorem depth_frz : ∀ d, (frzD d).depth = d.depth
  | .list ds => by
    show PyData.depthAll (frzAll ds) + 1 = PyData.depthAll ds + 1
    rw [depthAll_frz ds]
  | .tuple ds => by
    show PyData.depthAll (frzAll ds) + 1 = PyData.depthAll ds + 1
    rw [depthAll_frz ds]
  | .none => rfl
  | .bool _ => rfl
  | .int _ => rfl
  | .str _ => rfl
  | .dict _ => rfl
theorem depthAll_frz : ∀ ds, PyData.depthAll (frzAll ds) = PyData.depthAll ds
  | [] => rfl
  | d :: ds => by
    show max (frzD d).depth (PyData.depthAll (frzAll ds)) = max d.depth (PyData.depthAll ds)
    rw [depth_frz d, depthAll_frz ds]
end
theorem frzAll_eq : ∀ {ds : List PyData}, (∀ d ∈ ds, frzD d = d) → frzAll ds = ds
  | [], _ => rfl
  | d :: ds, h => by
    show frzD d :: frzAll ds = d :: ds
    rw [h d List.mem_cons_self, frzAll_eq fun e he => h e (List.mem_cons_of_mem _ he)]
mutual
theorem frz_frz : ∀ d, frzD (frzD d) = frzD d
  | .list ds => by
    show PyData.tuple (frzAll (frzAll ds)) = PyData.tuple (frzAll ds)
    rw [frzAll_frz ds]
  | .tuple ds => by
    show PyData.tuple (frzAll (frzAll ds)) = PyData.tuple (frzAll ds)
    rw [frzAll_frz ds]
  | .none => rfl
  | .bool _ => rfl
  | .int _ => rfl
  | .str _ => rfl
  | .dict _ => rfl
theorem frzAll_frz : ∀ ds, frzAll (frzAll ds) = frzAll ds
  | [] => rfl
  | d :: ds => by
    show frzD (frzD d) :: frzAll (frzAll ds) = frzD d :: frzAll ds
    rw [frz_frz d, frzAll_frz ds]
end
/-! a net, with its shape -/
def NetS (K : PySem.W.Frag) (S : Addr → Prop) (H : Hp) (a : Addr) (p : Pt) (n k : Nat) : Prop := NetO K S H a (fldT p) (p.tk.length : Nat) (n : Nat) (p.ly.length : Nat) (k : Nat) ∧ ¬ S a
theorem NetS.np {S : Addr → Prop} {H : Hp} {a : Addr} {p : Pt} {n k : Nat} (h : NetS K S H a p n k) : NetP K S H a p := h.1.np h.2
theorem NetS.sm {S : Addr → Prop} {H H' : Hp} {a : Addr} {p : Pt} {n k : Nat} (h : NetS K S H a p n k) (s : Same H H') : NetS K S H' a p n k := by
  obtain ⟨⟨dx, sh, t1, c1, tr1, pr1, ly1, ou1, b1, e, hd, hs, ne⟩, ns⟩ := h
  exact ⟨⟨dx, sh, t1, c1, tr1, pr1, ly1, ou1, b1, s _ _ e, hd.sm s, hs.imp fun _ z => s _ _ z, ne⟩, ns⟩
theorem len_dG (t : Tb) : (itsD (dG t)).length = t.length := by
  show (t.map dI).length = _
  rw [List.length_map]
theorem sizes {n k : Nat} {p : Pt} (I : PtOk n k p) : wdD (dG p.tr) = (n : Nat) ∧ dpD (.list (p.ly.map dLL)) = (p.ly.length : Nat) ∧ hdD (.list (p.ly.map dLL)) = (k : Nat) := by
  obtain ⟨r, er, hr⟩ := first_row I
  obtain ⟨l, el, hl⟩ := first_lay I
  refine ⟨?_, ?_, ?_⟩
  · unfold wdD
    rw [er]
    show ((r.map PyData.int).length : Int) = n
    rw [List.length_map, hr.1]
  · show ((p.ly.map dLL).length : Int) = _
    rw [List.length_map]
  · unfold hdD
    rw [el]
    show ((l.1.map dHL).length : Int) = k
    rw [List.length_map, (I.ly.2.2 l hl).1]
/-- a net made of pieces, lists or tuples -/
theorem mk_netF {S : Addr → Prop} {v0 v1 v2 v3 v4 v5 v6 : V} {p : Pt} {n k : Nat} {H1 : Hp} {Q : VK} {E : XK} {tr pr ly ou ba : PyData} (hds : DqAll K S H1 [v0, v1, v2, v3, v4, v5, v6] [.str p.tk, .int p.cap, tr, pr, ly, ou, ba])
    (e1 : frzD tr = tG p.tr) (e2 : frzD pr = tG p.pr) (e3 : frzD ly = .tuple (p.ly.map dLT)) (e4 : frzD ou = tG p.ou) (e5 : frzD ba = tI p.ba) (I : PtOk n k p) (al1 : Al S H1)
    (q : ∀ (x : Addr) (H' : Hp), NetS K S H' x p n k → Same H1 H' → Q (.ref x) H') : MakR (NC K) (spNetI K) E Q [v0, v1, v2, v3, v4, v5, v6] H1 := by
  intro x dx hx hdx ne
  have cin : ∀ b o, ¬ S b → b ≠ x → H1 b = some o → upd (upd H1 dx (.own x)) x (.ins (NC K) dx []) b = some o := fun b o _ n e => same_own hx hdx ne b o e
  have alx : Al (SD S x) (upd (upd H1 dx (.own x)) x (.ins (NC K) dx [])) := al_sd (al1.sm (same_own hx hdx ne)) (by rw [upd_same]; exact fun z => by cases z)
  have sm := pt_sm I
  have sz := sizes I
  have f1 := frz_dG p.tr; have f2 := frz_dG p.pr; have f3 := frz_map frz_dLL p.ly; have f4 := frz_dG p.ou; have f5 := frz_dI p.ba
  have s1 : smallD tr = true := by rw [← small_frz, e1, ← f1, small_frz]; exact sm.tr
  have s2 : smallD pr = true := by rw [← small_frz, e2, ← f2, small_frz]; exact sm.pr
  have s3 : smallD ly = true := by rw [← small_frz, e3, ← f3, small_frz]; exact sm.ly
  have s4 : smallD ou = true := by rw [← small_frz, e4, ← f4, small_frz]; exact sm.ou
  have s5 : smallD ba = true := by rw [← small_frz, e5, ← f5, small_frz]; exact sm.ba
  have d1 : tr.depth ≤ 6 := by rw [← depth_frz, e1, ← f1, depth_frz]; have := depth_dG p.tr; omega
  have d2 : pr.depth ≤ 6 := by rw [← depth_frz, e2, ← f2, depth_frz]; have := depth_dG p.pr; omega
  have d3 : ly.depth ≤ 6 := by rw [← depth_frz, e3, ← f3, depth_frz]; exact depth_map (enc := dLL) (ts := p.ly) (n := 5) fun h _ => depth_dLL h
  have d4 : ou.depth ≤ 6 := by rw [← depth_frz, e4, ← f4, depth_frz]; have := depth_dG p.ou; omega
  have d5 : ba.depth ≤ 6 := by rw [← depth_frz, e5, ← f5, depth_frz]; have := depth_dI p.ba; omega
  have w0 : wrongV (.str p.tk) (.int p.cap) tr pr ly ou ba = .non := by
    rw [← wrong_frz, e1, e2, e3, e4, e5, ← f1, ← f2, ← f3, ← f4, ← f5, wrong_frz]
    exact wrong_is I
  have z1 : wdD tr = (n : Nat) := by
    unfold wdD
    rw [← len_frz, ← fst_frz, e1, ← f1, fst_frz, len_frz]
    exact sz.1
  have z2 : dpD ly = (p.ly.length : Nat) := by
    unfold dpD
    rw [← len_frz, e3, ← f3, len_frz]
    exact sz.2.1
  have z3 : hdD ly = (k : Nat) := by
    unfold hdD
    rw [← len_frz, ← fst_frz, ← fst_frz, e3, ← f3, fst_frz, fst_frz, len_frz]
    exact sz.2.2
  refine ⟨SD S x, x, dx, [v0, v1, v2, v3, v4, v5, v6], .str p.tk, .int p.cap, tr, pr, ly, ou, ba, rfl, upd_same, .inr rfl, alx, ⟨hds.in hx cin, ?_, ?_⟩, w0, ?_, fun H2 hN c2 => ⟨rfl, ?_⟩⟩
  · intro d hd
    simp only [List.mem_cons, List.not_mem_nil, or_false] at hd
    rcases hd with rfl | rfl | rfl | rfl | rfl | rfl | rfl
    · rfl
    · rfl
    all_goals assumption
  · intro d hd z ez
    simp only [List.mem_cons, List.not_mem_nil, or_false] at hd
    have l6 := (tk_len I).2
    have no : ∀ {d e : PyData} {z : Str}, frzD d = .tuple (itsD e) → d ≠ .str z := fun {d e z} h q => by rw [q] at h; cases h
    rcases hd with rfl | rfl | rfl | rfl | rfl | rfl | rfl
    · injection ez with ez
      rw [← ez]
      omega
    · cases ez
    · exact absurd ez (no (e := tG p.tr) e1)
    · exact absurd ez (no (e := tG p.pr) e2)
    · exact absurd ez (no (e := .tuple (p.ly.map dLT)) e3)
    · exact absurd ez (no (e := tG p.ou) e4)
    · exact absurd ez (no (e := tI p.ba) e5)
  · intro d hd
    simp only [List.mem_cons, List.not_mem_nil, or_false] at hd
    rcases hd with rfl | rfl | rfl | rfl | rfl <;> assumption
  · rw [e1, e2, e3, e4, e5] at hN
    obtain ⟨dy, sh, t1, c1, tr1, pr1, ly1, ou1, b1, e, hd, hs, nn⟩ := hN.ex
    rw [z1, z2, z3] at hs
    refine q x H2 ⟨⟨dy, sh, t1, c1, tr1, pr1, ly1, ou1, b1, e, hd.out, hs, nn⟩, al1.no hx⟩ fun b o e => ?_
    exact c2 b o (ne_of_none e hx) (same_own hx hdx ne b o e)
end

set_option Elab.async false
set_option linter.all false
set_option maxRecDepth 100000
set_option maxHeartbeats 4000000
open PySem PySem.Spec L2



section
variable {P : Program} {w : World} {K : PySem.W.Frag} {mg : Str → Option Value} {base : Heap}
/-! _law_frozen -/
theorem ok_lfz0 (T : Top K mg) {f : Addr} {fd : FuncData} (F : FnP K "_law_frozen" s__law_frozen f fd) : FnOk P w K mg base CX0 1 f fd P__law_frozen (spFrz K 0) := by
  refine F.ok sc__law_frozen (fun vs H Q E h => ?_) (fun cdv A outer s H vs Q E hr h => ?_)
  · obtain ⟨S, x, d, rfl, _⟩ := h
    rfl
  · obtain ⟨S, x, d, rfl, hx, al, hd, hs, q⟩ := h
    refine ⟨_, PSs.nox (pss_cons (ps_if (pt_val (pe_callB (k_isiT (K := K) (by rfl)) (by rfl) T.z_isinstance (by decide +kernel) (pa_cons (pv 0) (pa_cons (pe_tup (pa_cons (pe_bltn (v := .ty "list") (u := .type "list") (by rfl) T.z_list (by decide +kernel) rfl) (pa_cons (pe_bltn (v := .ty "tuple") (u := .type "tuple") (by rfl) T.z_tuple (by decide +kernel) rfl) pa_nil))) pa_nil))))
    pss_never
    pss_nil)
    (pss_one (ps_ret (pv 0)))), ?_⟩
    try simp only [cxK]
    rw [show L2.start N__law_frozen [x] = [some x, none] from rfl]
    have lf := depth_leaf hd
    walk_at "go"
    rename_i p hp
    have s1 : Same H (upd H p (.tup [V.ty "list", V.ty "tuple"])) := same_new hp
    refine g_isSeq (hx.sm s1).dp upd_same ?_
    rw [lf]
    rw [frz_leaf lf] at q
    walk_at "go"
    exact q _ _ (hx.sm s1) s1
theorem c_lfz0 (T : Top K mg) : Cal P w K mg base "_law_frozen" 1 P__law_frozen (spFrz K 0) := cal_mk T.f__law_frozen (ok_lfz0 T) (fun F => F.bindsN fun _ _ _ _ _ _ us hl => match us, hl with | [_], _ => rfl)
theorem ok_lfz {n : Nat} (T : Top K mg) (C__law_frozen : Cal P w K mg base "_law_frozen" (n + 1) P__law_frozen (spFrz K n)) {f : Addr} {fd : FuncData} (F : FnP K "_law_frozen" s__law_frozen f fd) : FnOk P w K mg base CX0 (n + 2) f fd P__law_frozen (spFrz K (n + 1)) := by
  refine F.ok sc__law_frozen (fun vs H Q E h => ?_) (fun cdv A outer s H vs Q E hr h => ?_)
  · obtain ⟨S, x, d, rfl, _⟩ := h
    rfl
  · obtain ⟨S, x, d, rfl, hx, al, hd, hs, q⟩ := h
    refine ⟨_, PSs.nox (pss_cons (ps_if (pt_val (pe_callB (k_isiT (K := K) (by rfl)) (by rfl) T.z_isinstance (by decide +kernel) (pa_cons (pv 0) (pa_cons (pe_tup (pa_cons (pe_bltn (v := .ty "list") (u := .type "list") (by rfl) T.z_list (by decide +kernel) rfl) (pa_cons (pe_bltn (v := .ty "tuple") (u := .type "tuple") (by rfl) T.z_tuple (by decide +kernel) rfl) pa_nil))) pa_nil))))
    (pss_one (ps_ret (pe_callTy (k_tupleB (K := K) (by rfl)) (by rfl) T.z_tuple (by decide +kernel) (pa_cons (pe_lc (own := [("item", 1)]) (g := gName 1) (by rfl) sc__law_frozen.nd (k_piB (K := K) (by rfl) (pv 0)) (blkOk_by (own := [("item", 1)]) (N := N__law_frozen) (sc := defScope s__law_frozen) (by decide +kernel)) (fun _ _ _ _ _ => pg_name (i := 1) sc__law_frozen.nd rfl (by first | exact Or.inl rfl | exact Or.inr rfl)) (fun _ _ _ _ _ => pts_nil) (fun _ _ _ _ _ => (pe_cal C__law_frozen (hr.mono (by first | decide | omega)) (by rfl) (pa_cons (pv 1) pa_nil)))) pa_nil))))
    pss_nil)
    (pss_one (ps_ret (pv 0)))), ?_⟩
    try simp only [cxK]
    rw [show L2.start N__law_frozen [x] = [some x, none] from rfl]
    walk_at "go"
    rename_i p hp
    have s1 : Same H (upd H p (.tup [V.ty "list", V.ty "tuple"])) := same_new hp
    refine g_isSeq (hx.sm s1).dp upd_same ?_
    generalize upd H p (.tup [V.ty "list", V.ty "tuple"]) = H1 at s1 ⊢
    cases lf : isSeqD d with
    | false =>
      rw [frz_leaf lf] at q
      walk_at "go"
      exact q _ _ (hx.sm s1) s1
    | true =>
      rw [frz_seq lf] at q
      walk_at "go"
      refine g_bRQ (hx.sm s1) lf fun b xs e c hds => ?_
      subst e
      refine lcFn (f := frzD) c hds (al.sm s1) (small_its hs).1 (σ0 := [some (.ref b), none]) rfl (fun i y e D H' N he hm hD s2 al2 hy tr k => ?_) (fun R ys H2 hR hL hds2 s2 => ?_)
      · walk_at "go"
        exact g_frz hy al2 (depth_its hd hm) ((small_its hs).2 e hm) k
      · walk_at "go"
        refine g_tupBL (.of hL) fun t ht => ?_
        have s3 := (s1.trans s2).trans (same_new (o := .tup ys) ht)
        exact q _ _ (dq_newT ((al.sm (s1.trans s2)).no ht) upd_same (hds2.sm (same_new ht))) s3
theorem c_lfz (T : Top K mg) : ∀ n : Nat, Cal P w K mg base "_law_frozen" (n + 1) P__law_frozen (spFrz K n)
  | 0 => c_lfz0 T
  | n + 1 => cal_mk T.f__law_frozen (ok_lfz T (c_lfz T n)) (fun F => F.bindsN fun _ _ _ _ _ _ us hl => match us, hl with | [_], _ => rfl)
/-! _law_like -/
theorem ok_like0 {f : Addr} {fd : FuncData} (T : Top K mg) (F : FnP K "_law_like" s__law_like f fd) : FnOk P w K mg base CX0 1 f fd P__law_like (spLike K 0) := by
  refine F.ok sc__law_like (fun vs H Q E h => ?_) (fun cdv A outer s H vs Q E hr h => ?_)
  · obtain ⟨x, y, d, rfl, _⟩ := h
    rfl
  · obtain ⟨x, y, d, rfl, hx, hy, hd, hs, q⟩ := h
    refine ⟨_, PSs.nox (pss_cons (ps_if (pt_val (pe_callB (k_isiT (K := K) (by rfl)) (by rfl) T.z_isinstance (by decide +kernel) (pa_cons (pv 1) (pa_cons (pe_tup (pa_cons (pe_bltn (v := .ty "list") (u := .type "list") (by rfl) T.z_list (by decide +kernel) rfl) (pa_cons (pe_bltn (v := .ty "tuple") (u := .type "tuple") (by rfl) T.z_tuple (by decide +kernel) rfl) pa_nil))) pa_nil))))
    pss_never
    pss_nil)
    (pss_cons (ps_if (PW.pt (pw_or (pt_cmpR o_isN (pv 1) pe_non (nomark _)) (pw_or1 (pt_cmpR o_isN (pv 0) pe_non (nomark _)))))
    (pss_one (ps_ret (pe_and (pe_cmpR o_isN (pv 1) pe_non (nomark _)) (pe_one (pe_cmpR o_isN (pv 0) pe_non (nomark _))))))
    pss_nil)
    (pss_cons (ps_if (PW.pt (pw_or (pt_val (pe_callB (k_isiT (K := K) (by rfl)) (by rfl) T.z_isinstance (by decide +kernel) (pa_cons (pv 0) (pa_cons (pe_tup (pa_cons (pe_bltn (v := .ty "list") (u := .type "list") (by rfl) T.z_list (by decide +kernel) rfl) (pa_cons (pe_bltn (v := .ty "tuple") (u := .type "tuple") (by rfl) T.z_tuple (by decide +kernel) rfl) pa_nil))) pa_nil)))) (pw_or1 (pt_cmpR op_ne (pe_callB (k_isi (K := K) (by rfl)) (by rfl) T.z_isinstance (by decide +kernel) (pa_cons (pv 0) (pa_cons (pe_bltn (v := .ty "bool") (u := .type "bool") (by rfl) T.z_bool (by decide +kernel) rfl) pa_nil))) (pe_callB (k_isi (K := K) (by rfl)) (by rfl) T.z_isinstance (by decide +kernel) (pa_cons (pv 1) (pa_cons (pe_bltn (v := .ty "bool") (u := .type "bool") (by rfl) T.z_bool (by decide +kernel) rfl) pa_nil))) (nomark _)))))
    (pss_one (ps_ret pe_bl))
    pss_nil)
    (pss_cons (ps_if (PW.pt (pw_or (pt_cmpR op_ne (pe_callB (k_isi (K := K) (by rfl)) (by rfl) T.z_isinstance (by decide +kernel) (pa_cons (pv 0) (pa_cons (pe_bltn (v := .ty "str") (u := .type "str") (by rfl) T.z_str (by decide +kernel) rfl) pa_nil))) (pe_callB (k_isi (K := K) (by rfl)) (by rfl) T.z_isinstance (by decide +kernel) (pa_cons (pv 1) (pa_cons (pe_bltn (v := .ty "str") (u := .type "str") (by rfl) T.z_str (by decide +kernel) rfl) pa_nil))) (nomark _)) (pw_or1 (pt_cmpR op_ne (pe_callB (k_isi (K := K) (by rfl)) (by rfl) T.z_isinstance (by decide +kernel) (pa_cons (pv 0) (pa_cons (pe_bltn (v := .ty "int") (u := .type "int") (by rfl) T.z_int (by decide +kernel) rfl) pa_nil))) (pe_callB (k_isi (K := K) (by rfl)) (by rfl) T.z_isinstance (by decide +kernel) (pa_cons (pv 1) (pa_cons (pe_bltn (v := .ty "int") (u := .type "int") (by rfl) T.z_int (by decide +kernel) rfl) pa_nil))) (nomark _)))))
    (pss_one (ps_ret pe_bl))
    pss_nil)
    (pss_one (ps_ret (pe_cmpR op_eq (pv 0) (pv 1) (nomark _)))))))), ?_⟩
    rw [show L2.start N__law_like [x, y] = [some x, some y, none, none] from rfl]
    cases d with
    | none =>
      cases hx
      cases hy
      walk_at "go"
      exact q _ (same_new (by assumption))
    | bool b =>
      cases hx
      cases hy
      walk_at "go"
      rw [decide_eq_true rfl]
      exact q _ ((same_new (by assumption)).trans (same_new (by assumption)))
    | int b =>
      cases hx
      cases hy
      walk_at "go"
      rw [decide_eq_true rfl]
      exact q _ ((same_new (by assumption)).trans (same_new (by assumption)))
    | str b =>
      cases hx
      cases hy
      walk_at "go"
      rw [decide_eq_true rfl]
      exact q _ ((same_new (by assumption)).trans (same_new (by assumption)))
    | dict kvs => cases hx
    | list ds => exact absurd hd (by show ¬ PyData.depthAll ds + 1 ≤ 0; omega)
    | tuple ds => exact absurd hd (by show ¬ PyData.depthAll ds + 1 ≤ 0; omega)
theorem c_like (T : Top K mg) : ∀ n : Nat, Cal P w K mg base "_law_like" (n + 1) P__law_like (spLike K n)
  | 0 => cal_mk T.f__law_like (ok_like0 T) (fun F => F.bindsN fun _ _ _ _ _ _ us hl => match us, hl with | [_, _], _ => rfl)
  | n + 1 => cal_mk T.f__law_like (ok_like T (c_like T n)) (fun F => F.bindsN fun _ _ _ _ _ _ us hl => match us, hl with | [_, _], _ => rfl)
theorem like_two {n : Nat} {S : Addr → Prop} {H : Hp} {p1 p2 : Addr} {xs ys : List V} {ds : List PyData} {Q : VK} {E : XK} (al : Al S H) (hp1 : H p1 = none) (hp2 : upd H p1 (.lst xs) p2 = none) (h1 : DqAll K S H xs ds) (h2 : DqAll K S H ys ds)
    (hd : (PyData.list ds).depth ≤ n) (hs : smallD (.list ds) = true) (q : ∀ H', Same H H' → Q (.bl true) H') : spLike K n [.ref p1, .ref p2] (upd (upd H p1 (.lst xs)) p2 (.lst ys)) Q E := by
  have u1 := same_new (o := .lst xs) hp1
  have u2 := same_new (o := .lst ys) hp2
  have L1 : Dq K S (upd (upd H p1 (.lst xs)) p2 (.lst ys)) (.ref p1) (.list ds) := (dq_new (al.no hp1) (upd_same (H := H) (a := p1) (o := .lst xs)) (h1.sm u1)).sm u2
  have L2 : Dq K S (upd (upd H p1 (.lst xs)) p2 (.lst ys)) (.ref p2) (.list ds) := dq_new ((al.sm u1).no hp2) upd_same (h2.sm (u1.trans u2))
  exact g_likeD L1.dp L2.dp hd hs fun H' s => q H' ((u1.trans u2).trans s)
theorem frz_dPt (p : Pt) : frzD (dPt p) = .tuple (fldT p) := by
  show PyData.tuple [.str p.tk, .int p.cap, frzD (dG p.tr), frzD (dG p.pr), frzD (.list (p.ly.map dLL)), frzD (dG p.ou), frzD (dI p.ba)] = _
  rw [frz_dG, frz_dG, frz_map frz_dLL, frz_dG, frz_dI]
  rfl
end

set_option Elab.async false
set_option linter.all false
set_option maxRecDepth 100000
set_option maxHeartbeats 4000000
open PySem PySem.Spec L2



section
variable {P : Program} {w : World} {K : PySem.W.Frag} {mg : Str → Option Value} {base : Heap}
/-! tuples stay when lists are written -/
theorem sqT_free {S A : Addr → Prop} {H : Hp} {b : Addr} {xs : List V} (hA : ∀ z, A z → ∃ ys, H z = some (.lst ys)) (h : ∀ H', ChgS S H H' → SqT K H' b xs) : ∀ H', ChgS (fun z => S z ∨ A z) H H' → SqT K H' b xs := by
  intro H' c
  classical
  have c2 : ChgS S H (fun z => if A z then H z else H' z) := fun z o n e => by
    by_cases a : A z
    · show (if A z then H z else H' z) = _
      rw [if_pos a]; exact e
    · show (if A z then H z else H' z) = _
      rw [if_neg a]; exact c z o (fun q => q.elim n a) e
  rcases h _ c2 with (r | ⟨o, r⟩) | k
  · by_cases a : A b
    · obtain ⟨ys, e⟩ := hA b a
      have r : (if A b then H b else H' b) = _ := r
      rw [if_pos a, e] at r
      cases r
    · have r : (if A b then H b else H' b) = _ := r
      rw [if_neg a] at r
      exact .inl (.inl r)
  · by_cases a : A b
    · obtain ⟨ys, e⟩ := hA b a
      have r : (if A b then H b else H' b) = _ := r
      rw [if_pos a, e] at r
      cases r
    · have r : (if A b then H b else H' b) = _ := r
      rw [if_neg a] at r
      exact .inl (.inr ⟨o, r⟩)
  · exact .inr k
mutual
theorem Dq.free {S A : Addr → Prop} {H : Hp} (hA : ∀ z, A z → ∃ ys, H z = some (.lst ys)) : ∀ {x : V} {d : PyData}, Dq K S H x d → frzD d = d → Dq K (fun z => S z ∨ A z) H x d
  | _, _, .non, _ => .non
  | _, _, .bl b, _ => .bl b
  | _, _, .int i, _ => .int i
  | _, _, .str z, _ => .str z
  | _, _, .lst _ _, e => by
    have e : PyData.tuple _ = PyData.list _ := e
    cases e
  | _, _, .tup (ds := ds) h hs, e => by
    have e : PyData.tuple (frzAll ds) = PyData.tuple ds := e
    injection e with e
    exact .tup (sqT_free hA h) (DqAll.free hA hs e)
theorem DqAll.free {S A : Addr → Prop} {H : Hp} (hA : ∀ z, A z → ∃ ys, H z = some (.lst ys)) : ∀ {xs : List V} {ds : List PyData}, DqAll K S H xs ds → frzAll ds = ds → DqAll K (fun z => S z ∨ A z) H xs ds
  | _, _, .nil, _ => .nil
  | _, _, .cons (d := d) (ds := ds) h hs, e => by
    have e : frzD d :: frzAll ds = d :: ds := e
    injection e with e1 e2
    exact .cons (Dq.free hA h e1) (DqAll.free hA hs e2)
end
/-- tuples stay through writes of lists -/
theorem Dq.past {S A : Addr → Prop} {H H' : Hp} {x : V} {d : PyData} (h : Dq K S H x d) (e : frzD d = d) (hA : ∀ z, A z → ∃ ys, H z = some (.lst ys)) (c : ∀ b o, ¬ S b → ¬ A b → H b = some o → H' b = some o) : Dq K S H' x d :=
  ((h.free hA e).chg (fun b o n e => c b o (fun z => n (.inl z)) (fun z => n (.inr z)) e)).tr fun H2 c2 b o n e => c2 b o (fun z => n (.inl z)) e
/-- the thing w, with the lists of B, stands in v, with the lists of A; another thing there gives g of it -/
structure Foc (H : Hp) (v : V) (A : List Addr) (w : V) (e : PyData) (B : List Addr) (g : PyData → PyData) : Prop where
  dx : Dx H w e B
  sub : ∀ z ∈ B, z ∈ A
  put : ∀ (K : PySem.W.Frag) (S : Addr → Prop) (H' : Hp) (e' : PyData), (∀ z ∈ A, z ∉ B → ¬ S z ∧ ∀ o, H z = some o → H' z = some o) → Dq K S H' w e' → Dq K S H' v (g e')
theorem Foc.refl {H : Hp} {v : V} {d : PyData} {A : List Addr} (h : Dx H v d A) : Foc H v A v d A id := ⟨h, fun _ z => z, fun _ _ _ _ _ z => z⟩
theorem Foc.keep {H H2 : Hp} {v w : V} {e : PyData} {A B : List Addr} {g : PyData → PyData} (f : Foc H v A w e B g) (k : ∀ z ∈ A, ∀ o, H z = some o → H2 z = some o) : Foc H2 v A w e B g :=
  ⟨f.dx.keep fun z hz => k z (f.sub z hz), f.sub, fun K S H' e' h hw => f.put K S H' e' (fun z hz nb => ⟨(h z hz nb).1, fun o e => (h z hz nb).2 o (k z hz o e)⟩) hw⟩
theorem Foc.ref {H : Hp} {v w : V} {es : List PyData} {A B : List Addr} {g : PyData → PyData} (f : Foc H v A w (.list es) B g) : ∃ b xs, w = .ref b ∧ H b = some (.lst xs) ∧ b ∈ A ∧ xs.length = es.length ∧
    ∀ (i : Nat) e, es[i]? = some e → ∃ w' B', xs[i]? = some w' ∧ Foc H v A w' e B' fun e' => g (.list (es.set i e')) := by
  obtain ⟨b, xs, B0, rfl, rfl, eb, hxs, nb⟩ := f.dx.list_inv
  refine ⟨b, xs, rfl, eb, f.sub b List.mem_cons_self, hxs.len, fun i e he => ?_⟩
  obtain ⟨w', B', e1, h1, sub, put⟩ := hxs.put he
  refine ⟨w', B', e1, h1, fun z hz => f.sub z (List.mem_cons_of_mem _ (sub z hz)), fun K S H' e' k hw => ?_⟩
  have kb : ∀ z ∈ b :: B0, z ∉ B' → ¬ S z ∧ ∀ o, H z = some o → H' z = some o := fun z hz nz => k z (f.sub z hz) nz
  refine f.put K S H' _ (fun z hz nz => k z hz fun y => nz (List.mem_cons_of_mem _ (sub z y))) ?_
  have k0 := kb b List.mem_cons_self fun y => nb (sub b y)
  refine .lst (fun H2 c => c _ _ k0.1 (k0.2 _ eb)) ?_
  exact put K S H' e' (fun z hz nz => kb z (List.mem_cons_of_mem _ hz) nz) hw
theorem Foc.row (K : PySem.W.Frag) {H : Hp} {v w : V} {r : Row} {A B : List Addr} {g : PyData → PyData} (f : Foc H v A w (dI r) B g) : ∃ b, w = .ref b ∧ H b = some (.lst (r.map V.int)) ∧ b ∈ A ∧
    ∀ (S : Addr → Prop) (r' : Row) (H2 : Hp), (∀ z ∈ A, ∀ o, H z = some o → H2 z = some o) → (∀ z ∈ A, ¬ S z) → Dq K S (upd H2 b (.lst (r'.map V.int))) v (g (dI r')) := by
  obtain ⟨b, xs, B0, rfl, rfl, eb, hxs, nb⟩ := f.dx.list_inv
  obtain rfl : xs = r.map V.int := dqAll_ints (K := K) (S := fun _ => False) (hxs.dq fun _ _ z => z)
  have mb : b ∈ b :: B0 := List.mem_cons_self
  exact ⟨b, rfl, eb, f.sub b mb, fun S r' H2 k hS => f.put K S _ _ (fun z hz nz => ⟨hS z hz, fun o e => by
    rw [upd_ne (fun q => nz (by rw [q]; exact mb))]
    exact k z hz o e⟩) (dq_new (hS b (f.sub b mb)) upd_same (dq_ints r'))⟩
theorem bnd_set {n : Nat} {r : Row} {x : Int} (h : Bnd n 9 r) (hx : -9 ≤ x ∧ x ≤ 9) (j : Nat) : Bnd n 9 (r.set j x) := ⟨by rw [List.length_set]; exact h.1, fun y hy => by
  rcases List.mem_or_eq_of_mem_set hy with hy | rfl
  · exact h.2 y hy
  · exact hx⟩
theorem rows_set {n : Nat} {t : List Row} {r : Row} (h : ∀ r ∈ t, Bnd n 9 r) (hr : Bnd n 9 r) (m : Nat) : ∀ x ∈ t.set m r, Bnd n 9 x := fun y hy => by
  rcases List.mem_or_eq_of_mem_set hy with hy | rfl
  · exact h y hy
  · exact hr
theorem tb_set {n : Nat} {t : Tb} {r : Row} (h : TbOk n t) (hr : Bnd n 9 r) (m : Nat) : TbOk n (t.set m r) := ⟨by rw [List.length_set]; exact h.1, rows_set h.2 hr m⟩
theorem hds_set {n : Nat} {hs : List Hd} {h : Hd} (ok : ∀ h ∈ hs, HdOk n h) (hh : HdOk n h) (m : Nat) : ∀ x ∈ hs.set m h, HdOk n x := fun y hy => by
  rcases List.mem_or_eq_of_mem_set hy with hy | rfl
  · exact ok y hy
  · exact hh
theorem lys_set {n k : Nat} {ly : List Ly} {l : Ly} (ok : ∀ l ∈ ly, LyOk n k l) (hl : LyOk n k l) (m : Nat) : ∀ x ∈ ly.set m l, LyOk n k x := fun y hy => by
  rcases List.mem_or_eq_of_mem_set hy with hy | rfl
  · exact ok y hy
  · exact hl
theorem ly_ok {n k : Nat} {p : Pt} {l : Ly} (I : PtOk n k p) (hl : LyOk n k l) (m : Nat) : PtOk n k { p with ly := p.ly.set m l } := ⟨I.tk, I.cp, I.tr, I.pr, ⟨by rw [List.length_set]; exact I.ly.1, by rw [List.length_set]; exact I.ly.2.1, lys_set I.ly.2.2 hl m⟩, I.ou, I.ba, I.n4, I.k2⟩
theorem ly_eq {p : Pt} (l : Ly) (m : Nat) : PyData.list [.str p.tk, .int p.cap, dG p.tr, dG p.pr, .list ((p.ly.map dLL).set m (dLL l)), dG p.ou, dI p.ba] = dPt { p with ly := p.ly.set m l } := by
  rw [← List.map_set]
  rfl
theorem tb_eq (t : Tb) (r : Row) (m : Nat) : PyData.list ((t.map dI).set m (dI r)) = dG (t.set m r) := by
  rw [← List.map_set]
  rfl
theorem al_bag {H : Hp} {a l : Addr} (B : Bag H a l) : Al (fun b => b = a) H := fun b hb z => by
  rw [hb] at z
  exact bag_some B z
theorem get_mem {α : Type} {xs : List α} {x : α} (h : x ∈ xs) : ∃ i : Nat, xs[i]? = some x := by
  obtain ⟨i, hi, e⟩ := List.getElem_of_mem h
  exact ⟨i, by rw [List.getElem?_eq_getElem hi, e]⟩
theorem ixN_nat {n j : Nat} (h : j < n) : ixN n ((j : Nat) : Int) = some j := by
  unfold ixN
  rw [if_pos (by omega), if_pos (by omega), Int.toNat_natCast]
theorem ixN_to {n : Nat} {j : Int} (h0 : 0 ≤ j) (h : j < (n : Nat)) : ixN n j = some j.toNat := by
  have := ixN_nat (n := n) (j := j.toNat) (by omega)
  rwa [Int.toNat_of_nonneg h0] at this
theorem len3 {α : Type} {xs : List α} (h : xs.length = 3) : ∃ a b c, xs = [a, b, c] := by
  match xs, h with
  | [a, b, c], _ => exact ⟨a, b, c, rfl⟩
end

set_option Elab.async false
set_option linter.all false
set_option maxRecDepth 100000
set_option maxHeartbeats 4000000
open PySem PySem.Spec L2





section
variable {P : Program} {w : World} {K : PySem.W.Frag} {mg : Str → Option Value} {base : Heap}
/-! _law_unfit -/
def Ps (a P : Addr) : Addr → Prop := SD (fun b => b = a) P
def spUnfit (K : PySem.W.Frag) : Sp := fun vs H Q _ => ∃ (a l P : Addr) (pt : Pt) (n k : Nat) (A : List Addr), vs = [.ref a, .ref P] ∧ Bag H a l ∧ Dx H (.ref P) (dPt pt) A ∧ a ∉ A ∧ l ∉ A ∧ PtOk n k pt ∧
  ∀ (xs : List V) (ds : List PyData) (H' : Hp), H' P = some (.lst xs) → DqAll K (Ps a P) H' xs ds → ds.length = 7 → (∀ d ∈ ds, Sz 7 20 20 d) → (∃ z, ds[0]? = some (.str z)) → Bag H' a l → (∀ b o, b ≠ a → b ∉ A → H b = some o → H' b = some o) → Q .non H'
theorem sz_dI {r : Row} {m : Nat} (h : r.length ≤ m) : Sz 1 m 20 (dI r) := sz_list.mpr ⟨by decide, by rw [List.length_map]; exact h, fun x hx => by
  obtain ⟨i, _, rfl⟩ := List.mem_map.mp hx
  exact sz_int⟩
theorem sz_map {α : Type} {enc : α → PyData} {ts : List α} {N m L : Nat} (h : ∀ t ∈ ts, Sz N m L (enc t)) (l : ts.length ≤ m) : Sz (N + 1) m L (.list (ts.map enc)) := sz_list.mpr ⟨Nat.succ_pos _, by rw [List.length_map]; exact l, fun x hx => by
  obtain ⟨t, ht, rfl⟩ := List.mem_map.mp hx
  exact h t ht⟩
theorem sz_dG {t : Tb} {m : Nat} (h : ∀ r ∈ t, r.length ≤ m) (l : t.length ≤ m) : Sz 2 m 20 (dG t) := sz_map (fun r hr => sz_dI (h r hr)) l
theorem sz_tb {n : Nat} {t : Tb} (h : TbOk n t) (n4 : n ≤ 4) : Sz 2 8 20 (dG t) := sz_dG (fun r hr => by rw [(h.2 r hr).1]; omega) (by rw [h.1]; omega)
theorem sz_dHL {n : Nat} {h : Hd} (ok : HdOk n h) (n4 : n ≤ 4) : Sz 3 8 20 (dHL h) := sz_list.mpr ⟨by decide, by simp, fun x hx => by
  simp only [List.mem_cons, List.not_mem_nil, or_false] at hx
  rcases hx with rfl | rfl | rfl
  · exact sz_tb ok.1 n4
  · exact sz_tb ok.2.1 n4
  · exact sz_tb ok.2.2 n4⟩
theorem sz_hs {n : Nat} {hs : List Hd} (ok : ∀ h ∈ hs, HdOk n h) (n4 : n ≤ 4) (l : hs.length ≤ 8) : Sz 4 8 20 (.list (hs.map dHL)) := sz_map (fun h hh => sz_dHL (ok h hh) n4) l
theorem sz_fl {u : PyData} {g1 g2 : Tb} {n : Nat} (hu : Sz 4 8 20 u) (h1 : TbOk n g1) (h2 : TbOk n g2) (n4 : n ≤ 4) : Sz 5 8 20 (.list [u, dG g1, dG g2]) := sz_list.mpr ⟨by decide, by simp, fun x hx => by
  simp only [List.mem_cons, List.not_mem_nil, or_false] at hx
  rcases hx with rfl | rfl | rfl
  · exact hu
  · exact (sz_tb h1 n4).mono (by decide) (Nat.le_refl _) (Nat.le_refl _)
  · exact (sz_tb h2 n4).mono (by decide) (Nat.le_refl _) (Nat.le_refl _)⟩
theorem sz_dLL {n k : Nat} {l : Ly} (ok : LyOk n k l) (n4 : n ≤ 4) (k2 : k ≤ 2) : Sz 5 8 20 (dLL l) := sz_fl (sz_hs ok.2.1 n4 (by rw [ok.1]; omega)) ok.2.2.1 ok.2.2.2 n4
def gFl (l : Ly) : PyData := .list [.list ((l.1 ++ l.1.take 1).map dHL), dG l.2.1, dG l.2.2]
theorem take1 {α : Type} (l : List α) (h : 0 < l.length) : l.take 1 = [l[0]] := by
  cases l with
  | nil => simp at h
  | cons a l => simp
theorem fm_rep {α : Type} (e : α) : ∀ c : Nat, (List.replicate c (some e)).filterMap id = List.replicate c e
  | 0 => rfl
  | c + 1 => by rw [List.replicate_succ, List.filterMap_cons_some (f := id) rfl, List.replicate_succ, fm_rep e c]
theorem ok_unfit (T : Top K mg) {f : Addr} {fd : FuncData} (F : FnP K "_law_unfit" s__law_unfit f fd) : FnOk P w K mg base CX0 20 f fd P__law_unfit (spUnfit K) := by
  have C__law_draw := c_draw1 (P := P) (w := w) (base := base) T
  have C__law_of := c_of (P := P) (w := w) (base := base) T
  have C__law_lists := c_lst (P := P) (w := w) (base := base) T 8
  refine F.ok sc__law_unfit (fun vs H Q E h => ?_) (fun cdv A outer s H vs Q E hr h => ?_)
  · obtain ⟨a, l, P', pt, n, k, A, rfl, _⟩ := h
    rfl
  · obtain ⟨a, l, P', pt, n, k, A0, rfl, B, hx, naA, nlA, ok, q⟩ := h
    refine ⟨_, PSs.nox (pss_cons (ps_set (i := 2) sc__law_unfit.nd rfl (by first | exact Or.inl rfl | exact Or.inr rfl) (pe_cal C__law_draw (hr.mono (by first | decide | omega)) (by rfl) (pa_cons (pv 0) (pa_cons pe_int pa_nil))))
    (pss_one (ps_if (pt_cmpR op_eq (pv 2) pe_int (nomark _))
    (pss_one (ps_asg (pe_lc (own := [("each", 3)]) (g := gName 3) (by rfl) sc__law_unfit.nd (k_piB (K := K) (by rfl) (pe_ix (k_ix (K := K) (by rfl)) (pv 1) pe_int (fun _ _ => rfl))) (blkOk_by (own := [("each", 3)]) (N := N__law_unfit) (sc := defScope s__law_unfit) (by decide +kernel)) (fun _ _ _ _ _ => pg_name (i := 3) sc__law_unfit.nd rfl (by first | exact Or.inl rfl | exact Or.inr rfl)) (fun _ _ _ _ _ => pts_nil) (fun _ _ _ _ _ => (pe_op op_cat (pv 3) (pe_lst (pa_cons pe_int pa_nil))))) (pg_sub (pv 1) pe_int set_list)))
    (pss_one (ps_if (pt_cmpR op_eq (pv 2) pe_int (nomark _))
    (pss_one (ps_asg (pe_lc (own := [("each", 3)]) (g := gName 3) (by rfl) sc__law_unfit.nd (k_piB (K := K) (by rfl) (pe_ix (k_ix (K := K) (by rfl)) (pv 1) pe_int (fun _ _ => rfl))) (blkOk_by (own := [("each", 3)]) (N := N__law_unfit) (sc := defScope s__law_unfit) (by decide +kernel)) (fun _ _ _ _ _ => pg_name (i := 3) sc__law_unfit.nd rfl (by first | exact Or.inl rfl | exact Or.inr rfl)) (fun _ _ _ _ _ => pts_nil) (fun _ _ _ _ _ => (pe_slice (k_sl (K := K) (by rfl)) (pv 3) (po_some pe_int) po_none))) (pg_sub (pv 1) pe_int set_list)))
    (pss_one (ps_if (pt_cmpR op_eq (pv 2) pe_int (nomark _))
    (pss_one (ps_asg (pe_op op_cat (pe_ix (k_ix (K := K) (by rfl)) (pv 1) pe_int (fun _ _ => rfl)) (pe_lc (own := [("k", 4)]) (g := gName 4) (by rfl) sc__law_unfit.nd (pi_range1 (by rfl) T.z_range (pa_cons (pe_cal C__law_of (hr.mono (by first | decide | omega)) (by rfl) (pa_cons (pv 0) (pa_cons (pe_lst (pa_cons pe_int (pa_cons pe_int (pa_cons (pe_op op_sub pe_int (pe_callB (k_len (K := K) (by rfl)) (by rfl) T.z_len (by decide +kernel) (pa_cons (pe_ix (k_ix (K := K) (by rfl)) (pv 1) pe_int (fun _ _ => rfl)) pa_nil))) (pa_cons (pe_op op_sub pe_int (pe_callB (k_len (K := K) (by rfl)) (by rfl) T.z_len (by decide +kernel) (pa_cons (pe_ix (k_ix (K := K) (by rfl)) (pv 1) pe_int (fun _ _ => rfl)) pa_nil))) pa_nil))))) pa_nil))) pa_nil)) (blkOk_by (own := [("k", 4)]) (N := N__law_unfit) (sc := defScope s__law_unfit) (by decide +kernel)) (fun _ _ _ _ _ => pg_name (i := 4) sc__law_unfit.nd rfl (by first | exact Or.inl rfl | exact Or.inr rfl)) (fun _ _ _ _ _ => pts_nil) (fun _ _ _ _ _ => (pe_callTy (k_list (K := K) (by rfl)) (by rfl) T.z_list (by decide +kernel) (pa_cons (pe_ix (k_ix (K := K) (by rfl)) (pe_ix (k_ix (K := K) (by rfl)) (pv 1) pe_int (fun _ _ => rfl)) pe_int (fun _ _ => rfl)) pa_nil))))) (pg_sub (pv 1) pe_int set_list)))
    (pss_one (ps_if (pt_cmpR op_eq (pv 2) pe_int (nomark _))
    (pss_one (ps_asg (pe_op op_cat (pe_ix (k_ix (K := K) (by rfl)) (pv 1) pe_int (fun _ _ => rfl)) (pe_lc (own := [("k", 4)]) (g := gName 4) (by rfl) sc__law_unfit.nd (pi_range1 (by rfl) T.z_range (pa_cons (pe_cal C__law_of (hr.mono (by first | decide | omega)) (by rfl) (pa_cons (pv 0) (pa_cons (pe_lst (pa_cons pe_int (pa_cons pe_int (pa_cons pe_int (pa_cons (pe_op op_sub pe_int (pe_callB (k_len (K := K) (by rfl)) (by rfl) T.z_len (by decide +kernel) (pa_cons (pe_ix (k_ix (K := K) (by rfl)) (pv 1) pe_int (fun _ _ => rfl)) pa_nil))) pa_nil))))) pa_nil))) pa_nil)) (blkOk_by (own := [("k", 4)]) (N := N__law_unfit) (sc := defScope s__law_unfit) (by decide +kernel)) (fun _ _ _ _ _ => pg_name (i := 4) sc__law_unfit.nd rfl (by first | exact Or.inl rfl | exact Or.inr rfl)) (fun _ _ _ _ _ => pts_nil) (fun _ _ _ _ _ => (pe_cal C__law_lists (hr.mono (by first | decide | omega)) (by rfl) (pa_cons (pe_ix (k_ix (K := K) (by rfl)) (pe_ix (k_ix (K := K) (by rfl)) (pv 1) pe_int (fun _ _ => rfl)) pe_int (fun _ _ => rfl)) pa_nil))))) (pg_sub (pv 1) pe_int set_list)))
    (pss_one (ps_if (pt_cmpR op_eq (pv 2) pe_int (nomark _))
    (pss_cons (ps_set (i := 5) sc__law_unfit.nd rfl (by first | exact Or.inl rfl | exact Or.inr rfl) (pe_cal C__law_of (hr.mono (by first | decide | omega)) (by rfl) (pa_cons (pv 0) (pa_cons (pe_ix (k_ix (K := K) (by rfl)) (pv 1) pe_int (fun _ _ => rfl)) pa_nil))))
    (pss_one (ps_asg (pe_ifExp (pt_cmpR op_eq (pe_cal C__law_draw (hr.mono (by first | decide | omega)) (by rfl) (pa_cons (pv 0) (pa_cons pe_int pa_nil))) pe_int (nomark _)) (pe_op op_cat (pe_ix (k_ix (K := K) (by rfl)) (pv 5) pe_int (fun _ _ => rfl)) (pe_lst (pa_cons (pe_cal C__law_lists (hr.mono (by first | decide | omega)) (by rfl) (pa_cons (pe_ix (k_ix (K := K) (by rfl)) (pe_ix (k_ix (K := K) (by rfl)) (pv 5) pe_int (fun _ _ => rfl)) pe_int (fun _ _ => rfl)) pa_nil)) pa_nil))) (pe_slice (k_sl (K := K) (by rfl)) (pe_ix (k_ix (K := K) (by rfl)) (pv 5) pe_int (fun _ _ => rfl)) (po_some pe_int) po_none)) (pg_sub (pv 5) pe_int set_list))))
    (pss_one (ps_if (pt_cmpR op_eq (pv 2) pe_int (nomark _))
    (pss_cons (ps_set (i := 6) sc__law_unfit.nd rfl (by first | exact Or.inl rfl | exact Or.inr rfl) (pe_lst pa_nil))
    (pss_cons (ps_for PassesOwn.never rfl (k_pil (K := K) (by rfl) (pe_ix (k_ix (K := K) (by rfl)) (pv 1) pe_int (fun _ _ => rfl))) (pg_name (i := 5) sc__law_unfit.nd rfl (by first | exact Or.inl rfl | exact Or.inr rfl))
    (pss_one (ps_expr (pe_bm PySem.F.plainAttrs_list PySem.F.slot_list_append PySem.F.type_list_append mt_append (pv 6) (pa_cons (pe_lst (pa_cons (pe_op op_cat (pe_ix (k_ix (K := K) (by rfl)) (pv 5) pe_int (fun _ _ => rfl)) (pe_lst (pa_cons (pe_cal C__law_lists (hr.mono (by first | decide | omega)) (by rfl) (pa_cons (pe_ix (k_ix (K := K) (by rfl)) (pe_ix (k_ix (K := K) (by rfl)) (pv 5) pe_int (fun _ _ => rfl)) pe_int (fun _ _ => rfl)) pa_nil)) pa_nil))) (pa_cons (pe_ix (k_ix (K := K) (by rfl)) (pv 5) pe_int (fun _ _ => rfl)) (pa_cons (pe_ix (k_ix (K := K) (by rfl)) (pv 5) pe_int (fun _ _ => rfl)) pa_nil)))) pa_nil)))))
    (pss_one (ps_asg (pv 6) (pg_sub (pv 1) pe_int set_list)))))
    (pss_one (ps_asg (pe_ifExp (pt_cmpR op_eq (pe_cal C__law_draw (hr.mono (by first | decide | omega)) (by rfl) (pa_cons (pv 0) (pa_cons pe_int pa_nil))) pe_int (nomark _)) (pe_op op_add_str (pe_slice sl_str (pe_ix (k_ix (K := K) (by rfl)) (pv 1) pe_int (fun _ _ => rfl)) po_none (po_some pe_int)) (pe_cal C__law_of (hr.mono (by first | decide | omega)) (by rfl) (pa_cons (pv 0) (pa_cons (pe_lst (pa_cons pe_str (pa_cons pe_str (pa_cons pe_str pa_nil)))) pa_nil)))) (pe_slice sl_str (pe_ix (k_ix (K := K) (by rfl)) (pv 1) pe_int (fun _ _ => rfl)) (po_some pe_int) po_none)) (pg_sub (pv 1) pe_int set_list)))))))))))))))), ?_⟩
    try simp only [cxK]
    rw [show L2.start N__law_unfit [.ref a, .ref P'] = some (.ref a) :: some (.ref P') :: List.replicate (N__law_unfit.length - 2) none from rfl]
    simp only [N__law_unfit, List.length_cons, List.length_nil, List.replicate]
    obtain ⟨P2, xs, B0, e0, rfl, hP, hA, nPB⟩ := hx.list_inv
    injection e0 with e0
    subst e0
    have n4 := ok.n4.2
    have k2 := ok.k2.2
    have tk6 := (tk_len ok).2
    have nPa : P' ≠ a := fun z => naA (by rw [← z]; exact List.mem_cons_self)
    have nPl : P' ≠ l := fun z => nlA (by rw [← z]; exact List.mem_cons_self)
    have nS : ∀ z ∈ B0, ¬ Ps a P' z := fun z hz q => q.elim (fun e => naA (by rw [← show z = a from e]; exact List.mem_cons_of_mem _ hz)) (fun e => nPB (by rw [← e]; exact hz))
    obtain ⟨x0, x1, x2, x3, x4, x5, x6, rfl, h0, h1, h2, h3, h4, h5, h6⟩ := dqAll7 (hA.dq (K := K) nS)
    obtain rfl := h0.str_inv
    obtain rfl := h1.int_inv
    have sza : Ps a P' a := .inl rfl
    have al0 : Al (Ps a P') H := al_sd (al_bag B) (by rw [hP]; exact fun z => by cases z)
    have tkok : Sz 7 20 20 (.str pt.tk) := by
      refine sz_str ?_ (by omega)
      have ez : sOf pt.tk.cps.toList = pt.tk := by cases pt.tk; rfl
      rw [← ez, strOk_s]
      intro c hc
      have := ok.tk
      rw [toks_law, Bool.and_eq_true, Bool.and_eq_true, List.all_eq_true] at this
      have z : (decide (c ∈ sgn) && decide (pt.tk.cps.toList.count c = 1)) = true := this.2.2 _ (List.mem_map.mpr ⟨c, hc, rfl⟩)
      rw [Bool.and_eq_true] at z
      have fin : ∀ c ∈ sgn, c < 0x110000 := by decide +kernel
      exact fin c (of_decide_eq_true z.1)
    have zt : Sz 7 20 20 (dG pt.tr) := (sz_dG (m := 8) (fun r hr => by rw [(ok.tr.2 r hr).1]; omega) (by rw [ok.tr.1]; omega)).mono (by decide) (by decide) (by decide)
    have zp : Sz 7 20 20 (dG pt.pr) := (sz_dG (m := 8) (fun r hr => by rw [(ok.pr.2.2 r hr).1]; omega) (by have := ok.pr.2.1; omega)).mono (by decide) (by decide) (by decide)
    have zl : Sz 7 20 20 (.list (pt.ly.map dLL)) := (sz_map (fun y hy => sz_dLL (ok.ly.2.2 y hy) n4 k2) (by have := ok.ly.2.1; omega)).mono (by decide) (by decide) (by decide)
    have zo : Sz 7 20 20 (dG pt.ou) := (sz_dG (m := 8) (fun r hr => by rw [(ok.ou.2 r hr).1]; omega) (by rw [ok.ou.1]; omega)).mono (by decide) (by decide) (by decide)
    have zb : Sz 7 20 20 (dI pt.ba) := (sz_dI (m := 8) (by rw [ok.ba.1]; omega)).mono (by decide) (by decide) (by decide)
    have fin : ∀ (H1 : Hp) (i : Nat) (v : V) (e : PyData), Bag H1 a l → Chg a H H1 → Dq K (Ps a P') H1 v e → Sz 7 20 20 e → (i = 0 → ∃ z, e = .str z) → Q .non (upd H1 P' (.lst ([.str pt.tk, .int pt.cap, x2, x3, x4, x5, x6].set i v))) := by
      intro H1 i v e B1 c1 hv he hz
      have c2 : ChgS (Ps a P') H1 (upd H1 P' (.lst ([.str pt.tk, .int pt.cap, x2, x3, x4, x5, x6].set i v))) := fun b o n q => by rw [upd_ne (fun z => n (.inr z))]; exact q
      have c3 : ChgS (Ps a P') H (upd H1 P' (.lst ([.str pt.tk, .int pt.cap, x2, x3, x4, x5, x6].set i v))) := (toS c1 sza).trans c2
      refine q _ ([.str pt.tk, .int pt.cap, dG pt.tr, dG pt.pr, .list (pt.ly.map dLL), dG pt.ou, dI pt.ba].set i e) _ upd_same
        (DqAll.set (hv.chg c2) i (.cons (.str _) (.cons (.int _) (.cons (h2.chg c3) (.cons (h3.chg c3) (.cons (h4.chg c3) (.cons (h5.chg c3) (.cons (h6.chg c3) .nil)))))))) (by rw [List.length_set]; rfl) (fun d hd => ?_) ?_ (bag_chg B1 nPa nPl) (fun b o n1 n2 q => ?_)
      · rcases List.mem_or_eq_of_mem_set hd with hd | rfl
        · simp only [List.mem_cons, List.not_mem_nil, or_false] at hd
          rcases hd with rfl | rfl | rfl | rfl | rfl | rfl | rfl
          · exact tkok
          · exact sz_int
          · exact zt
          · exact zp
          · exact zl
          · exact zo
          · exact zb
        · exact he
      · by_cases hi : i = 0
        · subst hi
          obtain ⟨z, rfl⟩ := hz rfl
          exact ⟨z, rfl⟩
        · exact ⟨pt.tk, by rw [List.getElem?_set_ne hi]; rfl⟩
      · rw [upd_ne (fun z => n2 (by rw [z]; exact List.mem_cons_self))]
        exact c1 b o n1 q
    walk_at "go"
    refine g_drawB B ⟨by omega, by omega⟩ fun r H1 ra rb B1 c1 => ?_
    have hP1 := c1 _ _ nPa hP
    have g2 := h2.chg (toS c1 sza)
    have g3 := h3.chg (toS c1 sza)
    have g4 := h4.chg (toS c1 sza)
    have al1 := al0.bag c1 B1 sza
    walk_at "go"
    by_cases r0 : r = 0
    · rw [decide_eq_true r0]
      obtain ⟨b2, ys2, rfl, cc2, hd2⟩ := g2.sq rfl
      walk_at "go"
      refine lcTy (K := K) (S := Ps a P') (ts := pt.tr) (enc := dI) (f := fun r => dI (r ++ [0])) cc2 hd2 al1 (by rw [ok.tr.1]; omega) (σ0 := [some (.ref a), some (.ref P'), some (.int r), none, none, none, none]) rfl (fun i x t D H' N ht hm hD s hal hq tr k => ?_) (fun R ys H2 hR eR dR s2 => ?_)
      · obtain ⟨bx, zs, rfl, ebx, hzs, _⟩ := hq.list_inv
        obtain rfl := dqAll_ints hzs
        have ln := (ok.tr.2 t hm).1
        walk_at "go"
        rename_i q1 hq1 q2 hq2
        refine k _ _ ?_ ((same_new hq1).trans (same_new hq2))
        rw [show List.map V.int t ++ [V.int 0] = (t ++ [0]).map V.int by simp]
        exact dq_new ((hal.sm (same_new hq1)).no hq2) upd_same (dq_ints _)
      · walk_at "go"
        exact fin H2 2 (.ref R) _ (bag_sm B1 s2) (c1.trans (sm_chg s2)) (dq_new (al1.no hR) eR dR) ((sz_map (N := 1) (m := 8) (L := 20) (fun r hr => sz_dI (by rw [List.length_append, (ok.tr.2 r hr).1]; simp; omega)) (by rw [ok.tr.1]; omega)).mono (by decide) (by decide) (by decide)) (fun z => absurd z (by decide))
    · rw [decide_eq_false r0]
      walk_at "go"
      by_cases r1 : r = 1
      · rw [decide_eq_true r1]
        obtain ⟨b2, ys2, rfl, cc2, hd2⟩ := g2.sq rfl
        walk_at "go"
        refine lcTy (K := K) (S := Ps a P') (ts := pt.tr) (enc := dI) (f := fun r => dI (r.drop 1)) cc2 hd2 al1 (by rw [ok.tr.1]; omega) (σ0 := [some (.ref a), some (.ref P'), some (.int r), none, none, none, none]) rfl (fun i x t D H' N ht hm hD s hal hq tr k => ?_) (fun R ys H2 hR eR dR s2 => ?_)
        · obtain ⟨bx, zs, rfl, ebx, hzs, _⟩ := hq.list_inv
          obtain rfl := dqAll_ints hzs
          have ln := (ok.tr.2 t hm).1
          walk_at "go"
          rename_i q1 hq1
          refine k _ _ ?_ (same_new hq1)
          rw [show cutV (List.map V.int t) (some 1) none = (t.drop 1).map V.int by rw [show (1 : Int) = ((1 : Nat) : Int) from rfl, cutV_from, List.map_drop]]
          exact dq_new (hal.no hq1) upd_same (dq_ints _)
        · walk_at "go"
          exact fin H2 2 (.ref R) _ (bag_sm B1 s2) (c1.trans (sm_chg s2)) (dq_new (al1.no hR) eR dR) ((sz_map (N := 1) (m := 8) (L := 20) (fun r hr => sz_dI (by rw [List.length_drop, (ok.tr.2 r hr).1]; omega)) (by rw [ok.tr.1]; omega)).mono (by decide) (by decide) (by decide)) (fun z => absurd z (by decide))
      · rw [decide_eq_false r1]
        walk_at "go"
        by_cases r2 : r = 2
        · rw [decide_eq_true r2]
          obtain ⟨b3, ys3, rfl, e3, hd3, ns3⟩ := g3.list_inv
          have ly3 := hd3.len
          rw [List.length_map] at ly3
          have p6 := ok.pr.2.1
          have p1 := ok.pr.1
          walk_at "go"
          rename_i p hp
          refine g_of (bag_new B1 hp) upd_same (ne_bag B1 hp) ⟨by simp, by simp⟩ fun v H2 hv B2 c2 => ?_
          have c12 := (Chg.new (a := a) (o := .lst [.int 1, .int 5, .int (6 - (ys3.length : Int)), .int (7 - (ys3.length : Int))]) hp).trans c2
          have c02 := c1.trans c12
          have hP2 := c12 _ _ nPa hP1
          have g32 := g3.chg (toS c12 sza)
          have hd32 := hd3.chg (toS c12 sza)
          have e32 := c12 _ _ (fun z => ns3 (.inl z)) e3
          have al2 := al1.bag c12 B2 sza
          obtain ⟨c, rfl, cl⟩ : ∃ c : Nat, v = .int (c : Nat) ∧ c ≤ 6 := by
            simp only [List.mem_cons, List.not_mem_nil, or_false] at hv
            rcases hv with rfl | rfl | rfl | rfl
            · exact ⟨1, rfl, by decide⟩
            · exact ⟨5, rfl, by decide⟩
            · exact ⟨6 - ys3.length, by rw [show (6 : Int) - (ys3.length : Int) = ((6 - ys3.length : Nat) : Int) by omega], by omega⟩
            · exact ⟨7 - ys3.length, by rw [show (7 : Int) - (ys3.length : Int) = ((7 - ys3.length : Nat) : Int) by omega], by omega⟩
          have e30 : (pt.pr.map dI)[0]? = some (dI (pt.pr[0]'(by omega))) := by rw [List.getElem?_map, List.getElem?_eq_getElem (by omega)]; rfl
          obtain ⟨y0, hy0, q0⟩ := hd32.get e30
          rcases ys3 with _ | ⟨y0', yr⟩
          · cases hy0
          obtain rfl : y0' = y0 := Option.some.inj hy0
          walk_at "go"
          rw [Int.toNat_natCast]
          refine lcQR (K := K) (S := Ps a P') (os := List.replicate c (some (dI (pt.pr[0]'(by omega))))) al2 (by rw [List.length_replicate]; omega) (by rw [List.length_replicate]) (σ0 := [some (.ref a), some (.ref P'), some (.int r), none, none, none, none]) rfl (fun i o ho => ?_) (fun R ys H3 hR eR dR s3 => ?_)
          · intro D H' N hD s' al' tr k1 _
            have ho2 : o = some (dI (pt.pr[0]'(by omega))) := (List.mem_replicate.mp (List.mem_of_getElem? ho)).2
            have hP' := s' _ _ hP2
            have e3' := s' _ _ e32
            obtain ⟨bx, zs, rfl, ebx, hzs, _⟩ := (tr q0).list_inv
            walk_at "go"
            rename_i q1 hq1
            exact k1 _ ho2 _ _ (dq_new (al'.no hq1) upd_same (hzs.sm (same_new hq1))) (same_new hq1)
          · walk_at "go"
            have e33 := s3 _ _ e32
            have fm : (List.replicate c (some (dI (pt.pr[0]'(by omega))))).filterMap id = (List.replicate c (pt.pr[0]'(by omega))).map dI := by
              rw [List.map_replicate, fm_rep]
            rw [fm] at dR
            have lR := dR.len
            rw [List.length_map, List.length_replicate] at lR
            refine g_cat e33 eR (by rw [List.length_cons] at ly3 ⊢; omega) fun T hT => ?_
            walk_at "go"
            have sT := same_new hT (o := .lst (.ref b3 :: [])) 
            have c03 := (c02.trans (sm_chg s3)).trans (Chg.new (a := a) (o := .lst (y0' :: yr ++ ys)) hT)
            have dT : DqAll K (Ps a P') (upd H3 T (.lst (y0' :: yr ++ ys))) (y0' :: yr ++ ys) ((pt.pr ++ List.replicate c (pt.pr[0]'(by omega))).map dI) := by
              rw [List.map_append]
              exact ((hd32.sm s3).app dR).sm (same_new hT)
            exact fin _ 3 (.ref T) _ (bag_new (bag_sm B2 s3) hT) c03 (dq_new ((al2.sm s3).no hT) upd_same dT) ((sz_dG (m := 20) (fun r hr => by
              rcases List.mem_append.mp hr with hr | hr
              · rw [(ok.pr.2.2 r hr).1]; omega
              · rw [(List.mem_replicate.mp hr).2, (ok.pr.2.2 _ (List.getElem_mem _)).1]; omega) (by rw [List.length_append, List.length_replicate]; omega)).mono (by decide) (by decide) (by decide)) (fun z => absurd z (by decide))
        · rw [decide_eq_false r2]
          walk_at "go"
          by_cases r3 : r = 3
          · rw [decide_eq_true r3]
            obtain ⟨b4, ys4, rfl, e4, hd4, ns4⟩ := g4.list_inv
            have ly4 := hd4.len
            rw [List.length_map] at ly4
            have p3 := ok.ly.2.1
            have p1 := ok.ly.1
            walk_at "go"
            rename_i p hp
            refine g_of (bag_new B1 hp) upd_same (ne_bag B1 hp) ⟨by simp, by simp⟩ fun v H2 hv B2 c2 => ?_
            have c12 := (Chg.new (a := a) (o := .lst [.int 1, .int 2, .int 3, .int (3 - (ys4.length : Int))]) hp).trans c2
            have c02 := c1.trans c12
            have hP2 := c12 _ _ nPa hP1
            have hd42 := hd4.chg (toS c12 sza)
            have e42 := c12 _ _ (fun z => ns4 (.inl z)) e4
            have al2 := al1.bag c12 B2 sza
            obtain ⟨c, rfl, cl⟩ : ∃ c : Nat, v = .int (c : Nat) ∧ c ≤ 3 := by
              simp only [List.mem_cons, List.not_mem_nil, or_false] at hv
              rcases hv with rfl | rfl | rfl | rfl
              · exact ⟨1, rfl, by decide⟩
              · exact ⟨2, rfl, by decide⟩
              · exact ⟨3, rfl, by decide⟩
              · exact ⟨3 - ys4.length, by rw [show (3 : Int) - (ys4.length : Int) = ((3 - ys4.length : Nat) : Int) by omega], by omega⟩
            have e40 : (pt.ly.map dLL)[0]? = some (dLL (pt.ly[0]'(by omega))) := by rw [List.getElem?_map, List.getElem?_eq_getElem (by omega)]; rfl
            have sz0 := sz_dLL (ok.ly.2.2 _ (List.getElem_mem (show 0 < pt.ly.length by omega))) n4 k2
            obtain ⟨y0, hy0, q0⟩ := hd42.get e40
            rcases ys4 with _ | ⟨y0', yr⟩
            · cases hy0
            obtain rfl : y0' = y0 := Option.some.inj hy0
            walk_at "go"
            rw [Int.toNat_natCast]
            refine lcQR (K := K) (S := Ps a P') (os := List.replicate c (some (dLL (pt.ly[0]'(by omega))))) al2 (by rw [List.length_replicate]; omega) (by rw [List.length_replicate]) (σ0 := [some (.ref a), some (.ref P'), some (.int r), none, none, none, none]) rfl (fun i o ho => ?_) (fun R ys H3 hR eR dR s3 => ?_)
            · intro D H' N hD s' al' tr k1 _
              have ho2 : o = some (dLL (pt.ly[0]'(by omega))) := (List.mem_replicate.mp (List.mem_of_getElem? ho)).2
              have hP' := s' _ _ hP2
              have e4' := s' _ _ e42
              walk_at "go"
              refine g_lstC (tr q0) al' (Nat.le_trans (bnd_depth sz0.b) (by decide)) (bnd_small sz0.b (by decide)) fun y H5 hy s5 => ?_
              rw [lst_dLL] at hy
              exact k1 _ ho2 _ _ hy s5
            · walk_at "go"
              have e43 := s3 _ _ e42
              have fm : (List.replicate c (some (dLL (pt.ly[0]'(by omega))))).filterMap id = (List.replicate c (pt.ly[0]'(by omega))).map dLL := by
                rw [List.map_replicate, fm_rep]
              rw [fm] at dR
              have lR := dR.len
              rw [List.length_map, List.length_replicate] at lR
              refine g_cat e43 eR (by rw [List.length_cons] at ly4 ⊢; omega) fun T hT => ?_
              walk_at "go"
              have c03 := (c02.trans (sm_chg s3)).trans (Chg.new (a := a) (o := .lst (y0' :: yr ++ ys)) hT)
              have dT : DqAll K (Ps a P') (upd H3 T (.lst (y0' :: yr ++ ys))) (y0' :: yr ++ ys) ((pt.ly ++ List.replicate c (pt.ly[0]'(by omega))).map dLL) := by
                rw [List.map_append]
                exact ((hd42.sm s3).app dR).sm (same_new hT)
              exact fin _ 4 (.ref T) _ (bag_new (bag_sm B2 s3) hT) c03 (dq_new ((al2.sm s3).no hT) upd_same dT) ((sz_map (N := 5) (m := 8) (L := 20) (fun r hr => by
                rcases List.mem_append.mp hr with hr | hr
                · exact sz_dLL (ok.ly.2.2 r hr) n4 k2
                · rw [(List.mem_replicate.mp hr).2]; exact sz0) (by rw [List.length_append, List.length_replicate]; omega)).mono (by decide) (by decide) (by decide)) (fun z => absurd z (by decide))
          · rw [decide_eq_false r3]
            walk_at "go"
            by_cases r4 : r = 4
            · rw [decide_eq_true r4]
              obtain ⟨b4, ys4, rfl, e4, hd4, ns4⟩ := g4.list_inv
              have ly4 := hd4.len
              rw [List.length_map] at ly4
              have p3 := ok.ly.2.1
              have p1 := ok.ly.1
              walk_at "go"
              refine g_of B1 e4 (fun z => ns4 (.inl z)) ⟨by omega, by omega⟩ fun v H2 hv B2 c2 => ?_
              have c02 := c1.trans c2
              have hP2 := c2 _ _ nPa hP1
              obtain ⟨j, hj⟩ := List.getElem?_of_mem hv
              have jl := (List.getElem?_eq_some_iff.mp hj).1
              obtain ⟨v4, B4, hv4, dx4, sub4, put4⟩ := hA.put (i := 4) (d := .list (pt.ly.map dLL)) rfl
              obtain rfl : V.ref b4 = v4 := Option.some.inj hv4
              obtain ⟨b5, ys5, C4, eb, rfl, e5, hA4, nb4⟩ := dx4.list_inv
              injection eb with eb
              subst eb
              have e45 : ys5 = ys4 := by
                have z := c1 _ _ (fun z => ns4 (.inl z)) e5
                rw [e4] at z
                injection z with z
                injection z with z
                exact z.symm
              subst e45
              have hjl : (pt.ly.map dLL)[j]? = some (dLL (pt.ly[j]'(by omega))) := by rw [List.getElem?_map, List.getElem?_eq_getElem (by omega)]; rfl
              have okj := ok.ly.2.2 _ (List.getElem_mem (show j < pt.ly.length by omega))
              generalize pt.ly[j]'(by omega) = lf at hjl okj
              obtain ⟨vf, Bf, hvf, dxf, subf, putf⟩ := hA4.put hjl
              obtain rfl : v = vf := Option.some.inj (hj.symm.trans hvf)
              obtain ⟨F1, zs, Cf, rfl, rfl, eF, hAf, nF⟩ := dxf.list_inv
              have mF4 : F1 ∈ C4 := subf _ List.mem_cons_self
              have mFB : F1 ∈ B0 := sub4 _ (List.mem_cons_of_mem _ mF4)
              have nFS := nS _ mFB
              have nFa : F1 ≠ a := fun z => nFS (.inl z)
              have nFP : F1 ≠ P' := fun z => nFS (.inr z)
              have nSf : ∀ z ∈ Cf, ¬ SD (Ps a P') F1 z := fun z hz q => q.elim (nS z (sub4 _ (List.mem_cons_of_mem _ (subf _ (List.mem_cons_of_mem _ hz))))) (fun e => nF (by rw [← e]; exact hz))
              obtain ⟨w0, w1, w2, rfl, k0, k1, k3⟩ := dqAll3 (hAf.dq (K := K) nSf)
              have szF : SD (Ps a P') F1 a := .inl sza
              have eF2 := c02 _ _ nFa eF
              have k02 := k0.chg (toS c02 szF)
              have k12 := k1.chg (toS c02 szF)
              have k32 := k3.chg (toS c02 szF)
              have al2 : Al (SD (Ps a P') F1) H2 := al_sd (al0.bag c02 B2 sza) (by rw [eF2]; exact fun z => by cases z)
              obtain ⟨bs, us, rfl, es, hus, nbs⟩ := k02.list_inv
              have lus := hus.len
              rw [List.length_map] at lus
              have kl := okj.1
              have k1' := ok.k2.1
              have last : ∀ (H3 : Hp) (T : V) (hs : List Hd), Bag H3 a l → Chg a H H3 → Dq K (SD (Ps a P') F1) H3 T (.list (hs.map dHL)) → (∀ h ∈ hs, HdOk n h) → hs.length ≤ 8 → Q .non (upd H3 F1 (.lst [T, w1, w2])) := by
                intro H3 T hs B3 c03 hT hok hl
                have k13 := k1.chg (toS c03 szF)
                have k33 := k3.chg (toS c03 szF)
                have cF : ChgS (SD (Ps a P') F1) H3 (upd H3 F1 (.lst [T, w1, w2])) := fun b o nb q => by rw [upd_ne (fun z => nb (.inr z))]; exact q
                have hF : Dq K (Ps a P') (upd H3 F1 (.lst [T, w1, w2])) (.ref F1) (.list [.list (hs.map dHL), dG lf.2.1, dG lf.2.2]) := dq_new nFS upd_same (.cons (hT.chg cF).out (.cons (k13.chg cF).out (.cons (k33.chg cF).out .nil)))
                have keepB : ∀ z ∈ P' :: B0, z ≠ F1 → ∀ o, H z = some o → (upd H3 F1 (.lst [T, w1, w2])) z = some o := fun z hz ne o e => by
                  rw [upd_ne ne]
                  exact c03 z o (fun y => naA (by rw [← y]; exact hz)) e
                have h44 := putf K (Ps a P') (upd H3 F1 (.lst [T, w1, w2])) _ (fun z hz nz => ⟨nS z (sub4 _ (List.mem_cons_of_mem _ hz)), keepB z (List.mem_cons_of_mem _ (sub4 _ (List.mem_cons_of_mem _ hz))) (fun y => nz (by rw [y]; exact List.mem_cons_self))⟩) hF
                have hb4 : Dq K (Ps a P') (upd H3 F1 (.lst [T, w1, w2])) (.ref b4) (.list ((pt.ly.map dLL).set j (.list [.list (hs.map dHL), dG lf.2.1, dG lf.2.2]))) := dq_new ns4 (keepB b4 (List.mem_cons_of_mem _ (sub4 _ List.mem_cons_self)) (fun y => nb4 (by rw [y]; exact mF4)) _ e5) h44
                have hall := put4 K (Ps a P') (upd H3 F1 (.lst [T, w1, w2])) _ (fun z hz nz => ⟨nS z hz, keepB z (List.mem_cons_of_mem _ hz) (fun y => nz (by rw [y]; exact List.mem_cons_of_mem _ mF4))⟩) hb4
                refine q _ _ _ (keepB P' List.mem_cons_self (Ne.symm nFP) _ hP) hall rfl (fun d hd => ?_) ⟨pt.tk, rfl⟩ (bag_chg B3 nFa (fun y => nlA (by rw [← y]; exact List.mem_cons_of_mem _ mFB))) (fun b o n1 n2 e => ?_)
                · simp only [List.set_cons_succ, List.set_cons_zero, List.mem_cons, List.not_mem_nil, or_false] at hd
                  rcases hd with rfl | rfl | rfl | rfl | rfl | rfl | rfl
                  · exact tkok
                  · exact sz_int
                  · exact zt
                  · exact zp
                  · have z5 : Sz 6 8 20 (.list ((pt.ly.map dLL).set j (.list [.list (hs.map dHL), dG lf.2.1, dG lf.2.2]))) := sz_list.mpr ⟨by decide, by rw [List.length_set, List.length_map]; omega, fun e he => by
                      rcases List.mem_or_eq_of_mem_set he with he | rfl
                      · obtain ⟨y, hy, rfl⟩ := List.mem_map.mp he
                        exact sz_dLL (ok.ly.2.2 y hy) n4 k2
                      · exact sz_fl (sz_hs hok n4 hl) okj.2.2.1 okj.2.2.2 n4⟩
                    exact z5.mono (by decide) (by decide) (by decide)
                  · exact zo
                  · exact zb
                · rw [upd_ne (fun y => n2 (by rw [y]; exact List.mem_cons_of_mem _ mFB))]
                  exact c03 b o n1 e
              walk_at "go"
              refine g_drawB B2 ⟨by omega, by omega⟩ fun r7 H3 _ _ B3 c3 => ?_
              have c03 := c02.trans c3
              have eF3 := c3 _ _ nFa eF2
              have es3 := c3 _ _ (fun z => nbs (.inl (.inl z))) es
              have hus3 := hus.chg (toS c3 szF)
              have al3 := al2.bag c3 B3 szF
              walk_at "go"
              by_cases r70 : r7 = 0
              · rw [decide_eq_true r70]
                have e00 : (lf.1.map dHL)[0]? = some (dHL (lf.1[0]'(by omega))) := by rw [List.getElem?_map, List.getElem?_eq_getElem (by omega)]; rfl
                have okh := okj.2.1 _ (List.getElem_mem (show 0 < lf.1.length by omega))
                have szh := sz_dHL okh n4
                obtain ⟨y0, hy0, q0⟩ := hus3.get e00
                rcases us with _ | ⟨y0', yr⟩
                · cases hy0
                obtain rfl : y0' = y0 := Option.some.inj hy0
                walk_at "go"
                refine g_lstC q0 al3 (Nat.le_trans (bnd_depth szh.b) (by decide)) (bnd_small szh.b (by decide)) fun y H5 hy s5 => ?_
                rw [lst_dHL] at hy
                have eF5 := s5 _ _ eF3
                have es5 := s5 _ _ es3
                walk_at "go"
                rename_i T hT
                refine g_cat (same_new hT _ _ es5) upd_same (by rw [List.length_cons] at lus ⊢; simp; omega) fun T2 hT2 => ?_
                have sT := (same_new hT (o := .lst [y])).trans (same_new hT2 (o := .lst (y0' :: yr ++ [y])))
                have eF7 := sT _ _ eF5
                walk_at "go"
                refine last _ (.ref T2) (lf.1 ++ [lf.1[0]'(by omega)]) (bag_sm (bag_sm B3 s5) sT) (c03.trans (sm_chg (s5.trans sT))) ?_ (fun h hh => ?_) (by rw [List.length_append, List.length_singleton]; omega)
                · refine dq_new (((al3.sm s5).sm (same_new hT)).no hT2) upd_same ?_
                  rw [List.map_append]
                  exact ((hus3.sm (s5.trans sT))).app (.cons (hy.sm sT) .nil)
                · rcases List.mem_append.mp hh with hh | hh
                  · exact okj.2.1 h hh
                  · rw [List.mem_singleton.mp hh]; exact okh
              · rw [decide_eq_false r70]
                walk_at "go"
                rename_i T hT
                have eF5 := same_new hT (o := .lst (cutV us (some 1) none)) _ _ eF3
                refine last _ (.ref T) (lf.1.drop 1) (bag_new B3 hT) (c03.trans (Chg.new hT)) ?_ (fun h hh => okj.2.1 h (List.mem_of_mem_drop hh)) (by rw [List.length_drop]; omega)
                rw [show cutV us (some 1) none = us.drop 1 by rw [show (1 : Int) = ((1 : Nat) : Int) from rfl, cutV_from]]
                refine dq_new (al3.no hT) upd_same ?_
                rw [List.map_drop]
                exact (hus3.sm (same_new hT)).drop 1
            · rw [decide_eq_false r4]
              walk_at "go"
              by_cases r5 : r = 5
              · rw [decide_eq_true r5]
                obtain ⟨b4, ys4, rfl, e4, hd4, ns4⟩ := g4.list_inv
                have ly4 := hd4.len
                rw [List.length_map] at ly4
                have p3 := ok.ly.2.1
                have p1 := ok.ly.1
                walk_at "go"
                rename_i F1 hF1
                refine forL (xs := ys4) ⟨fun i σ' H' => ∃ y5 zs, σ' = [some (.ref a), some (.ref P'), some (.int r), none, none, y5, some (.ref F1)] ∧ i ≤ pt.ly.length ∧ H' F1 = some (.lst zs) ∧ DqAll K (SD (Ps a P') F1) H' zs ((pt.ly.take i).map gFl) ∧ Same H1 H',
                  ⟨_, [], rfl, Nat.zero_le _, upd_same, by rw [List.take_zero]; exact .nil, same_new hF1⟩, ?_, ?_, ?_⟩
                · rintro i σ' H' _ ⟨_, _, _, _, _, _, s⟩
                  exact .of (s _ _ e4)
                · rintro i x σ' H' hxi ⟨y5, zs, rfl, _, eF, dz, s⟩
                  have il : i < pt.ly.length := by rw [← ly4]; exact (List.getElem?_eq_some_iff.mp hxi).1
                  obtain ⟨d, hd, hqx⟩ := hd4.at hxi
                  rw [List.getElem?_map, List.getElem?_eq_getElem il] at hd
                  obtain rfl := Option.some.inj hd
                  have okj := ok.ly.2.2 _ (List.getElem_mem il)
                  have htk : pt.ly.take (i + 1) = pt.ly.take i ++ [pt.ly[i]] := by rw [List.take_add_one, List.getElem?_eq_getElem il]; rfl
                  generalize pt.ly[i] = lf at hqx okj htk
                  have kl := okj.1
                  have k1' := ok.k2.1
                  have kin : ∀ b o, ¬ Ps a P' b → b ≠ F1 → H1 b = some o → H' b = some o := fun b o _ _ e => s b o e
                  have hqx' := hqx.in hF1 kin
                  have alF : Al (SD (Ps a P') F1) H' := al_sd (al1.sm s) (by rw [eF]; exact fun z => by cases z)
                  have lz := dz.len
                  rw [List.length_map, List.length_take] at lz
                  obtain ⟨bx, us3, rfl, ex, hus3, _⟩ := hqx'.list_inv
                  obtain ⟨w0, w1, w2, rfl, k0, k1, k3⟩ := dqAll3 hus3
                  obtain ⟨bs, us, rfl, es, hus, nbs⟩ := k0.list_inv
                  have lus := hus.len
                  rw [List.length_map] at lus
                  have e00 : (lf.1.map dHL)[0]? = some (dHL (lf.1[0]'(by omega))) := by rw [List.getElem?_map, List.getElem?_eq_getElem (by omega)]; rfl
                  have okh := okj.2.1 _ (List.getElem_mem (show 0 < lf.1.length by omega))
                  have szh := sz_dHL okh n4
                  have t1 : lf.1.take 1 = [lf.1[0]'(by omega)] := take1 lf.1 (by omega)
                  obtain ⟨y0, hy0, q0⟩ := hus.get e00
                  rcases us with _ | ⟨y0', yr⟩
                  · cases hy0
                  obtain rfl : y0' = y0 := Option.some.inj hy0
                  walk_at "go"
                  refine g_lstC q0 alF (Nat.le_trans (bnd_depth szh.b) (by decide)) (bnd_small szh.b (by decide)) fun y H5 hy s5 => ?_
                  rw [lst_dHL] at hy
                  have eF5 := s5 _ _ eF
                  have es5 := s5 _ _ es
                  have ex5 := s5 _ _ ex
                  walk_at "go"
                  rename_i T hT
                  refine g_cat (same_new hT _ _ es5) upd_same (by rw [List.length_cons] at lus ⊢; simp; omega) fun T2 hT2 => ?_
                  have sT := (same_new hT (o := .lst [y])).trans (same_new hT2 (o := .lst (y0' :: yr ++ [y])))
                  have hT2d : Dq K (SD (Ps a P') F1) (upd (upd H5 T (.lst [y])) T2 (.lst (y0' :: yr ++ [y]))) (.ref T2) (.list ((lf.1 ++ lf.1.take 1).map dHL)) := by
                    refine dq_new (((alF.sm s5).sm (same_new hT)).no hT2) upd_same ?_
                    rw [t1, List.map_append]
                    exact ((hus.sm (s5.trans sT))).app (.cons (hy.sm sT) .nil)
                  have eF7 := sT _ _ eF5
                  have ex7 := sT _ _ ex5
                  have al7 := (alF.sm s5).sm sT
                  have k17 := k1.sm (s5.trans sT)
                  have k37 := k3.sm (s5.trans sT)
                  have dz7 := dz.sm (s5.trans sT)
                  have s17 := (s.trans s5).trans sT
                  generalize upd (upd H5 T (.lst [y])) T2 (.lst (y0' :: yr ++ [y])) = H7 at hT2d eF7 ex7 al7 k17 k37 dz7 s17 ⊢
                  walk_at "go"
                  rename_i T3 hT3
                  have s8 := same_new hT3 (o := .lst [.ref T2, w1, w2])
                  refine g_app (s8 _ _ eF7) (by omega) ?_
                  have cF : ChgS (SD (Ps a P') F1) (upd H7 T3 (.lst [.ref T2, w1, w2])) (upd (upd H7 T3 (.lst [.ref T2, w1, w2])) F1 (.lst (zs ++ [.ref T3]))) := fun b o nb q => by rw [upd_ne (fun z => nb (.inr z))]; exact q
                  refine ⟨_, _, rfl, il, upd_same, ?_, fun b o e => ?_⟩
                  · rw [htk, List.map_append]
                    exact ((dz7.sm s8).chg cF).app (.cons ((dq_new (al7.no hT3) upd_same (.cons (hT2d.sm s8) (.cons (k17.sm s8) (.cons (k37.sm s8) .nil)))).chg cF) .nil)
                  · rw [upd_ne (ne_of_none e hF1)]
                    exact s8 _ _ (s17 _ _ e)
                · rintro σ' H' ⟨y5, zs, rfl, _, eF, dz, s⟩
                  rw [ly4, List.take_length] at dz
                  have hPs := s _ _ hP1
                  walk_at "go"
                  exact fin H' 4 (.ref F1) (.list (pt.ly.map gFl)) (bag_sm B1 s) (c1.trans (sm_chg s)) (dq_new (al1.no hF1) eF dz.out) ((sz_map (N := 5) (m := 8) (L := 20) (fun y hy => by
                    have okj := ok.ly.2.2 y hy
                    refine sz_fl (sz_hs (fun h hh => ?_) n4 (by rw [List.length_append, List.length_take, okj.1]; omega)) okj.2.2.1 okj.2.2.2 n4
                    rcases List.mem_append.mp hh with hh | hh
                    · exact okj.2.1 h hh
                    · exact okj.2.1 h (List.mem_of_mem_take hh)) (by omega)).mono (by decide) (by decide) (by decide)) (fun z => absurd z (by decide))
              · rw [decide_eq_false r5]
                walk_at "go"
                have ez : sOf pt.tk.cps.toList = pt.tk := by cases pt.tk; rfl
                have lz := sOf_len pt.tk.cps.toList
                rw [ez] at lz
                have zs : pt.tk.length ≤ sizeLine := Nat.le_of_lt (small1000 (by omega))
                have okz : ∀ cs : List Nat, (∀ c ∈ cs, c ∈ pt.tk.cps.toList) → PyData.strOk (sOf cs) = true := fun cs h => strOk_s.mpr fun c hc => by
                  have z := tkok.b
                  unfold bndD at z
                  rw [← ez] at z
                  exact strOk_s.mp z c (h c hc)
                refine g_drawB B1 ⟨by omega, by omega⟩ fun r7 H2 _ _ B2 c2 => ?_
                have c02 := c1.trans c2
                have hP2 := c2 _ _ nPa hP1
                walk_at "go"
                by_cases r70 : r7 = 0
                · rw [decide_eq_true r70]
                  walk_at "go"
                  refine g_slS zs ?_
                  rw [← ez, show (5 : Int) = ((5 : Nat) : Int) from rfl, cut_to]
                  walk_at "go"
                  rename_i p hp
                  refine g_of (bag_new B2 hp) upd_same (ne_bag B2 hp) ⟨by simp, by simp⟩ fun v H3 hv B3 c3 => ?_
                  have c23 := (Chg.new (a := a) (o := .lst [.str (Str.ofString "~"), .str (Str.ofString "!"), .str (Str.ofString " ")]) hp).trans c3
                  have hP3 := c23 _ _ nPa hP2
                  obtain ⟨u, rfl, uok, ul⟩ : ∃ u, v = .str u ∧ PyData.strOk u = true ∧ u.length ≤ 1 := by
                    simp only [List.mem_cons, List.not_mem_nil, or_false] at hv
                    rcases hv with rfl | rfl | rfl <;> exact ⟨_, rfl, by decide +kernel, by decide +kernel⟩
                  have l5 := sOf_len (pt.tk.cps.toList.take 5)
                  rw [List.length_take] at l5
                  refine ⟨_, _, rfl, rfl, Nat.le_of_lt (small1000 (by omega)), ?_⟩
                  walk_at "go"
                  exact fin H3 0 (.str _) (.str _) B3 (c02.trans c23) (.str _) (sz_str (strOk_app (okz _ fun c hc => List.mem_of_mem_take hc) uok) (by rw [str_app_len]; omega)) (fun _ => ⟨_, rfl⟩)
                · rw [decide_eq_false r70]
                  walk_at "go"
                  refine g_slS zs ?_
                  rw [← ez, show (1 : Int) = ((1 : Nat) : Int) from rfl, cut_from]
                  have l5 := sOf_len (pt.tk.cps.toList.drop 1)
                  rw [List.length_drop] at l5
                  walk_at "go"
                  exact fin H2 0 (.str _) (.str _) B2 c02 (.str _) (sz_str (okz _ fun c hc => List.mem_of_mem_drop hc) (by omega)) (fun _ => ⟨_, rfl⟩)
theorem c_unfit (T : Top K mg) : Cal P w K mg base "_law_unfit" 20 P__law_unfit (spUnfit K) := cal_mk T.f__law_unfit (ok_unfit T) (fun F => F.bindsN fun _ _ _ _ _ _ us hl => match us, hl with | [_, _], _ => rfl)
end

set_option Elab.async false
set_option linter.all false
set_option maxRecDepth 100000
set_option maxHeartbeats 4000000
open PySem PySem.Spec L2





section
variable {P : Program} {w : World} {K : PySem.W.Frag} {mg : Str → Option Value} {base : Heap}
/-! errors raised anywhere -/
abbrev NE (K : PySem.W.Frag) : Addr := He.ga K "InvalidNet"
abbrev SE (K : PySem.W.Frag) : Addr := He.ga K "InvalidSetting"
theorem fc_exn (T : Top K mg) {f : Addr} {fd : FuncData} (F : FunD K "__init__" "InvalidNet.__init__" (defArgs s_InvalidNet___init__) (defBody s_InvalidNet___init__) (defScope s_InvalidNet___init__) [] [] f fd) : FnC P w K mg base CX0 1 f fd P_InvalidNet___init__ (spExI (NE K) "part") := by
  refine FunD.okC F sc_InvalidNet___init__ (fun vs H Q E h => ?_) (fun cdv A outer s H vs Q E hr h => ?_)
  · obtain ⟨a, y, rfl, _⟩ := h
    rfl
  · obtain ⟨a, y, rfl, ha, q⟩ := h
    refine ⟨_, (pss_one (ps_ost (pv 0) (pv 1))), ?_⟩
    try simp only [cxK]
    rw [show L2.start N_InvalidNet___init__ [.ref a, y] = [some (.ref a), some y] from rfl]
    show tVar 1 _ H _
    refine g_v1 ?_
    show tVar 0 _ H _
    refine g_v0 ?_
    exact ⟨a, _, rfl, T.ox_InvalidNet.ox, T.ox_InvalidNet.no, .inl ⟨ha, q⟩⟩
theorem exw_InvalidNet (T : Top K mg) : ExcW P w K mg base (NE K) "part" 1 := excw_mk T.ox_InvalidNet T.f_InvalidNet___init__ (fc_exn T) (fun F => F.bindsN fun _ _ _ _ _ _ us hl => match us, hl with | [_, _], _ => rfl)
theorem fc_exs (T : Top K mg) {f : Addr} {fd : FuncData} (F : FunD K "__init__" "InvalidSetting.__init__" (defArgs s_InvalidSetting___init__) (defBody s_InvalidSetting___init__) (defScope s_InvalidSetting___init__) [] [] f fd) : FnC P w K mg base CX0 1 f fd P_InvalidSetting___init__ (spExI (SE K) "field") := by
  refine FunD.okC F sc_InvalidSetting___init__ (fun vs H Q E h => ?_) (fun cdv A outer s H vs Q E hr h => ?_)
  · obtain ⟨a, y, rfl, _⟩ := h
    rfl
  · obtain ⟨a, y, rfl, ha, q⟩ := h
    refine ⟨_, (pss_one (ps_ost (pv 0) (pv 1))), ?_⟩
    try simp only [cxK]
    rw [show L2.start N_InvalidSetting___init__ [.ref a, y] = [some (.ref a), some y] from rfl]
    show tVar 1 _ H _
    refine g_v1 ?_
    show tVar 0 _ H _
    refine g_v0 ?_
    exact ⟨a, _, rfl, T.ox_InvalidSetting.ox, T.ox_InvalidSetting.no, .inl ⟨ha, q⟩⟩
theorem exw_InvalidSetting (T : Top K mg) : ExcW P w K mg base (SE K) "field" 1 := excw_mk T.ox_InvalidSetting T.f_InvalidSetting___init__ (fc_exs T) (fun F => F.bindsN fun _ _ _ _ _ _ us hl => match us, hl with | [_, _], _ => rfl)
theorem g_mkV {C : Addr} {f : Str} {i : Nat} {v : V} {σ : L2.St} {H : Hp} {Q : XK} (hv : σ[i]? = some (some v)) (h : ∀ d, H d = none → Q (.ref C) (some d) (upd H d (.xd [(f, v)]))) : tMkO C (spExI C f) [] (tCons (tVar i) tNil) σ H Q :=
  g_mkO (show tCons (tVar i) tNil σ H _ from ⟨v, hv, v, rfl, h⟩) (fun f z => by obtain ⟨v, hv, z⟩ := z; exact ⟨v, hv, f _ _ z⟩)
/-! Net.__init__ -/
theorem wrong_cases (t c tr pr ly ou b : PyData) : wrongV t c tr pr ly ou b = .non ∨ ∃ z, wrongV t c tr pr ly ou b = .str z := by
  unfold wrongV
  split
  · split
    · split
      · split
        · split
          · split
            · split
              · exact .inl rfl
              · exact .inr ⟨_, rfl⟩
            · exact .inr ⟨_, rfl⟩
          · exact .inr ⟨_, rfl⟩
        · exact .inr ⟨_, rfl⟩
      · exact .inr ⟨_, rfl⟩
    · exact .inr ⟨_, rfl⟩
  · exact .inr ⟨_, rfl⟩
def spNetX (K : PySem.W.Frag) : Sp := fun vs H Q E => ∃ (S : Addr → Prop) (p dx : Addr) (xs : List V) (t c tr pr ly ou b : PyData), vs = .ref p :: xs ∧ H p = some (.ins (NC K) dx []) ∧ S p ∧ Al S H ∧ WP K S H xs [t, c, tr, pr, ly, ou, b] ∧ (∀ d ∈ [tr, pr, ly, ou, b], d.depth ≤ 14) ∧
  (wrongV t c tr pr ly ou b = .non → ∀ H', NetO K S H' p [t, c, frzD tr, frzD pr, frzD ly, frzD ou, frzD b] (lenD t) (wdD tr) (dpD ly) (hdD ly) → Chg p H H' → Q .non H') ∧
  (∀ z, wrongV t c tr pr ly ou b = .str z → ∀ (d : Addr) (H1 : Hp), Same H H1 → H1 d = none → E (.ref (NE K)) (some d) (upd H1 d (.xd [("part", .str z)])))
theorem ok_Net___init__ (T : Top K mg) {f : Addr} {fd : FuncData} (F : FunD K "__init__" "Net.__init__" (defArgs s_Net___init__) (defBody s_Net___init__) (defScope s_Net___init__) [] [] f fd) : FnOk P w K mg base (L2N.CX P w) 16 f fd P_Net___init__ (spNetX K) := by
  have cl_Net := T.cl_Net; have na_Net_tokens := T.na_Net_tokens; have na_Net_cap := T.na_Net_cap; have na_Net_token_rows := T.na_Net_token_rows; have na_Net_place_rows := T.na_Net_place_rows; have na_Net_layers := T.na_Net_layers; have na_Net_out_rows := T.na_Net_out_rows; have na_Net_base := T.na_Net_base; have na_Net_shape := T.na_Net_shape; have in_Net := T.in_Net
  have C_wrong_part := c_wrong (P := P) (w := w) (base := base) T
  have C_as_tuples := c_frz (P := P) (w := w) (base := base) T 14
  have EW_InvalidNet := exw_InvalidNet (P := P) (w := w) (base := base) T
  have MK_Shape := m_Shape (P := P) (w := w) (base := base) T
  refine F.ok sc_Net___init__ (fun vs H Q E h => ?_) (fun cdv A outer s H vs Q E hr h => ?_)
  · obtain ⟨S, p, dx, xs, t, c, tr, pr, ly, ou, b, rfl, _, _, _, h, _⟩ := h
    have := h.d.len
    show xs.length + 1 = 8
    rw [this]
    rfl
  · obtain ⟨S, p, dx, xs, t, c, tr, pr, ly, ou, b, rfl, hp, sp, al, hw, hdp, hyes, hraise⟩ := h
    obtain ⟨t1, c1, tr1, pr1, ly1, ou1, b1, rfl, ht, hc, htr, hpr, hly, hou, hb⟩ := dqAll7 hw.d
    rcases wrong_cases t c tr pr ly ou b with hno | ⟨zw, hno⟩
    rotate_left
    · refine ⟨_, (pss_cons (ps_set (i := 8) sc_Net___init__.nd rfl (by first | exact Or.inl rfl | exact Or.inr rfl) (pe_cal C_wrong_part (hr.mono (by first | decide | omega)) (by rfl) (pa_cons (pv 1) (pa_cons (pv 2) (pa_cons (pv 3) (pa_cons (pv 4) (pa_cons (pv 5) (pa_cons (pv 6) (pa_cons (pv 7) pa_nil)))))))))
    (pss_cons (ps_if (pt_cmpR op_notN (pv 8) pe_non (nomark _))
    (pss_one (ps_raiseN rfl (L2N.takes_of rfl rfl rfl rfl) (pmk_w EW_InvalidNet (roomW (hr.mono (by first | decide | omega))) (by rfl) T.g_InvalidNet (pa_cons (pv 8) pa_nil))))
    pss_nil)
    (pss_cons (k_sfld (K := K) (by rfl) (pv 0) (pv 1) rfl)
    (pss_cons (k_sfld (K := K) (by rfl) (pv 0) (pv 2) rfl)
    (pss_cons (k_sfld (K := K) (by rfl) (pv 0) (pe_cal C_as_tuples (hr.mono (by first | decide | omega)) (by rfl) (pa_cons (pv 3) pa_nil)) rfl)
    (pss_cons (k_sfld (K := K) (by rfl) (pv 0) (pe_cal C_as_tuples (hr.mono (by first | decide | omega)) (by rfl) (pa_cons (pv 4) pa_nil)) rfl)
    (pss_cons (k_sfld (K := K) (by rfl) (pv 0) (pe_cal C_as_tuples (hr.mono (by first | decide | omega)) (by rfl) (pa_cons (pv 5) pa_nil)) rfl)
    (pss_cons (k_sfld (K := K) (by rfl) (pv 0) (pe_cal C_as_tuples (hr.mono (by first | decide | omega)) (by rfl) (pa_cons (pv 6) pa_nil)) rfl)
    (pss_cons (k_sfld (K := K) (by rfl) (pv 0) (pe_cal C_as_tuples (hr.mono (by first | decide | omega)) (by rfl) (pa_cons (pv 7) pa_nil)) rfl)
    (pss_one (k_sfld (K := K) (by rfl) (pv 0) (pe_mk T.g_Shape MK_Shape (hr.mono (by first | decide | omega)) (by rfl) (pa_cons (pe_callB call_len_str (by rfl) T.z_len (by decide +kernel) (pa_cons (pv 1) pa_nil)) (pa_cons (pe_callB (k_len (K := K) (by rfl)) (by rfl) T.z_len (by decide +kernel) (pa_cons (pe_ix (k_ix (K := K) (by rfl)) (pv 3) pe_int (fun _ _ => rfl)) pa_nil)) (pa_cons (pe_callB (k_len (K := K) (by rfl)) (by rfl) T.z_len (by decide +kernel) (pa_cons (pv 5) pa_nil)) (pa_cons (pe_callB (k_len (K := K) (by rfl)) (by rfl) T.z_len (by decide +kernel) (pa_cons (pe_ix (k_ix (K := K) (by rfl)) (pe_ix (k_ix (K := K) (by rfl)) (pv 5) pe_int (fun _ _ => rfl)) pe_int (fun _ _ => rfl)) pa_nil)) pa_nil))))) rfl))))))))))), ?_⟩
      try simp only [cxK]
      rw [show L2.start N_Net___init__ [.ref p, t1, c1, tr1, pr1, ly1, ou1, b1] = [some (.ref p), some t1, some c1, some tr1, some pr1, some ly1, some ou1, some b1, none] from rfl]
      walk_at "go"
      refine ⟨S, _, _, _, _, _, _, _, hw, al, fun H1 s1 => ?_⟩
      rw [hno]
      walk_at "go"
      refine ⟨rfl, ?_⟩
      rw [show decide (V.str zw = V.non) = false from rfl]
      walk_at "go"
      refine g_mkV (by rfl) fun dd hdd => ?_
      exact hraise zw hno dd H1 s1 hdd
    have q := hyes hno
    obtain ⟨w1, w2, w3, w4, w5, w6, w7⟩ := wrong_no hno
    obtain ⟨z, rfl, z2, z6⟩ := toks_len w1
    obtain rfl := ht.str_inv
    obtain ⟨y1, y2, y3⟩ := lays_no w5
    have w3' := w3
    unfold tokD at w3'
    rw [Bool.and_eq_true, Bool.and_eq_true] at w3'
    have x0 := fst_at w3'.1 (show (1 : Int) ≤ lenD (.str z) by show (1 : Int) ≤ (z.length : Int); omega)
    have x1 := fst_at y1 (Int.le_refl _)
    have x2 := fst_at y2 (by decide)
    refine ⟨_, (pss_cons (ps_set (i := 8) sc_Net___init__.nd rfl (by first | exact Or.inl rfl | exact Or.inr rfl) (pe_cal C_wrong_part (hr.mono (by first | decide | omega)) (by rfl) (pa_cons (pv 1) (pa_cons (pv 2) (pa_cons (pv 3) (pa_cons (pv 4) (pa_cons (pv 5) (pa_cons (pv 6) (pa_cons (pv 7) pa_nil)))))))))
    (pss_cons (ps_if (pt_cmpR op_notN (pv 8) pe_non (nomark _))
    (pss_one (ps_raiseN rfl (L2N.takes_of rfl rfl rfl rfl) (pmk_w EW_InvalidNet (roomW (hr.mono (by first | decide | omega))) (by rfl) T.g_InvalidNet (pa_cons (pv 8) pa_nil))))
    pss_nil)
    (pss_cons (k_sfld (K := K) (by rfl) (pv 0) (pv 1) rfl)
    (pss_cons (k_sfld (K := K) (by rfl) (pv 0) (pv 2) rfl)
    (pss_cons (k_sfld (K := K) (by rfl) (pv 0) (pe_cal C_as_tuples (hr.mono (by first | decide | omega)) (by rfl) (pa_cons (pv 3) pa_nil)) rfl)
    (pss_cons (k_sfld (K := K) (by rfl) (pv 0) (pe_cal C_as_tuples (hr.mono (by first | decide | omega)) (by rfl) (pa_cons (pv 4) pa_nil)) rfl)
    (pss_cons (k_sfld (K := K) (by rfl) (pv 0) (pe_cal C_as_tuples (hr.mono (by first | decide | omega)) (by rfl) (pa_cons (pv 5) pa_nil)) rfl)
    (pss_cons (k_sfld (K := K) (by rfl) (pv 0) (pe_cal C_as_tuples (hr.mono (by first | decide | omega)) (by rfl) (pa_cons (pv 6) pa_nil)) rfl)
    (pss_cons (k_sfld (K := K) (by rfl) (pv 0) (pe_cal C_as_tuples (hr.mono (by first | decide | omega)) (by rfl) (pa_cons (pv 7) pa_nil)) rfl)
    (pss_one (k_sfld (K := K) (by rfl) (pv 0) (pe_mk T.g_Shape MK_Shape (hr.mono (by first | decide | omega)) (by rfl) (pa_cons (pe_callB call_len_str (by rfl) T.z_len (by decide +kernel) (pa_cons (pv 1) pa_nil)) (pa_cons (pe_callB (k_len (K := K) (by rfl)) (by rfl) T.z_len (by decide +kernel) (pa_cons (pe_ix (k_ix (K := K) (by rfl)) (pv 3) pe_int (fun _ _ => rfl)) pa_nil)) (pa_cons (pe_callB (k_len (K := K) (by rfl)) (by rfl) T.z_len (by decide +kernel) (pa_cons (pv 5) pa_nil)) (pa_cons (pe_callB (k_len (K := K) (by rfl)) (by rfl) T.z_len (by decide +kernel) (pa_cons (pe_ix (k_ix (K := K) (by rfl)) (pe_ix (k_ix (K := K) (by rfl)) (pv 5) pe_int (fun _ _ => rfl)) pe_int (fun _ _ => rfl)) pa_nil)) pa_nil))))) rfl))))))))))), ?_⟩
    try simp only [cxK]
    rw [show L2.start N_Net___init__ [.ref p, .str z, c1, tr1, pr1, ly1, ou1, b1] = [some (.ref p), some (.str z), some c1, some tr1, some pr1, some ly1, some ou1, some b1, none] from rfl]
    walk_at "go"
    refine ⟨S, _, _, _, _, _, _, _, hw, al, fun H1 s1 => ?_⟩
    rw [hno]
    have hp1 := s1 _ _ hp
    walk_at "go"
    refine ⟨rfl, ?_⟩
    rw [show decide (V.non = V.non) = true from rfl]
    walk_at "go"
    have z1 : ChgS S H H1 ∧ Chg p H H1 := ⟨fun b u _ e => s1 b u e, sm_chg s1⟩
    have adv : ∀ {Ha Hb : Hp} {o : HO}, (ChgS S H Ha ∧ Chg p H Ha) → Same (upd Ha p o) Hb → (ChgS S H Hb ∧ Chg p H Hb) := fun {Ha Hb o} z s =>
      ⟨fun b u n e => s b u (by rw [upd_ne (fun q => n (by rw [q]; exact sp))]; exact z.1 b u n e), fun b u n e => s b u (by rw [upd_ne n]; exact z.2 b u n e)⟩
    have adu : ∀ {Ha : Hp} {o : HO}, (ChgS S H Ha ∧ Chg p H Ha) → (ChgS S H (upd Ha p o) ∧ Chg p H (upd Ha p o)) := fun {Ha o} z => adv z (fun _ _ e => e)
    have alz : ∀ {Hb : Hp} {o : HO}, Chg p H Hb → Hb p = some o → Al S Hb := fun {Hb o} z e b hb q => by
      by_cases n : b = p
      · rw [n, e] at q; cases q
      · cases hh : H b with
        | none => exact al b hb hh
        | some u => rw [z b u n hh] at q; cases q
    rw [upd_upd]
    have z2 := adu (o := .ins (NC K) dx (putF (Str.ofString "cap") c1 (putF (Str.ofString "tokens") (V.str z) []))) z1
    refine g_frz (htr.chg z2.1) (alz z2.2 upd_same) (hdp tr (by simp)) (hw.s tr (by simp)) fun v1 H2 hv1 s2 => ?_
    have z3 := adv z1 s2
    have p2 := s2 _ _ upd_same
    walk_at "go"
    have z4 := adu (o := .ins (NC K) dx (putF (Str.ofString "token_rows") v1 (putF (Str.ofString "cap") c1 (putF (Str.ofString "tokens") (V.str z) [])))) z3
    refine g_frz (hpr.chg z4.1) (alz z4.2 upd_same) (hdp pr (by simp)) (hw.s pr (by simp)) fun v2 H3 hv2 s3 => ?_
    have z5 := adv z3 s3
    have p3 := s3 _ _ upd_same
    walk_at "go"
    have z6 := adu (o := .ins (NC K) dx (putF (Str.ofString "place_rows") v2 (putF (Str.ofString "token_rows") v1 (putF (Str.ofString "cap") c1 (putF (Str.ofString "tokens") (V.str z) []))))) z5
    refine g_frz (hly.chg z6.1) (alz z6.2 upd_same) (hdp ly (by simp)) (hw.s ly (by simp)) fun v3 H4 hv3 s4 => ?_
    have z7 := adv z5 s4
    have p4 := s4 _ _ upd_same
    walk_at "go"
    have z8 := adu (o := .ins (NC K) dx (putF (Str.ofString "layers") v3 (putF (Str.ofString "place_rows") v2 (putF (Str.ofString "token_rows") v1 (putF (Str.ofString "cap") c1 (putF (Str.ofString "tokens") (V.str z) [])))))) z7
    refine g_frz (hou.chg z8.1) (alz z8.2 upd_same) (hdp ou (by simp)) (hw.s ou (by simp)) fun v4 H5 hv4 s5 => ?_
    have z9 := adv z7 s5
    have p5 := s5 _ _ upd_same
    walk_at "go"
    have z10 := adu (o := .ins (NC K) dx (putF (Str.ofString "out_rows") v4 (putF (Str.ofString "layers") v3 (putF (Str.ofString "place_rows") v2 (putF (Str.ofString "token_rows") v1 (putF (Str.ofString "cap") c1 (putF (Str.ofString "tokens") (V.str z) []))))))) z9
    refine g_frz (hb.chg z10.1) (alz z10.2 upd_same) (hdp b (by simp)) (hw.s b (by simp)) fun v5 H6 hv5 s6 => ?_
    have z11 := adv z9 s6
    have p6 := s6 _ _ upd_same
    walk_at "go"
    refine ⟨z, rfl, Nat.le_of_lt (small1000 (by omega)), ?_⟩
    have z12 := adu (o := .ins (NC K) dx (putF (Str.ofString "base") v5 (putF (Str.ofString "out_rows") v4 (putF (Str.ofString "layers") v3 (putF (Str.ofString "place_rows") v2 (putF (Str.ofString "token_rows") v1 (putF (Str.ofString "cap") c1 (putF (Str.ofString "tokens") (V.str z) [])))))))) z11
    walk_at "go"
    refine g_ixQ (i := 0) (htr.chg z12.1) (listD_seq w3'.1) x0 fun u1 hu1 => ?_
    walk_at "go"
    refine g_lenQ hu1 (listD_seq w3'.2.1) ?_
    walk_at "go"
    refine g_lenQ (hly.chg z12.1) (listD_seq y1) ?_
    walk_at "go"
    refine g_ixQ (i := 0) (hly.chg z12.1) (listD_seq y1) x1 fun u2 hu2 => ?_
    walk_at "go"
    refine g_ixQ (i := 0) hu2 (listD_seq y2) x2 fun u3 hu3 => ?_
    walk_at "go"
    refine g_lenQ hu3 (listD_seq y3) ?_
    walk_at "go"
    intro x dx2 hx hdx ne
    have b3 := listD_len w3'.2.1
    have b1 := listD_len y1
    have b2 := listD_len y3
    refine ⟨x, dx2, _, _, _, _, rfl, upd_same, ⟨by omega, by omega, by omega, by omega, by omega, by omega, by omega, by omega⟩, fun H7 hs7 c7 => ⟨rfl, ?_⟩⟩
    have so : ∀ b o, upd H6 p (.ins (NC K) dx (putF (Str.ofString "base") v5 (putF (Str.ofString "out_rows") v4 (putF (Str.ofString "layers") v3 (putF (Str.ofString "place_rows") v2 (putF (Str.ofString "token_rows") v1 (putF (Str.ofString "cap") c1 (putF (Str.ofString "tokens") (V.str z) [])))))))) b = some o → H7 b = some o := fun b o e => by
      have n : b ≠ x := ne_of_none e hx
      exact c7 b o n (same_own hx hdx ne b o e)
    have z13 := adv z11 so
    have p7 := so _ _ upd_same
    have nx : x ≠ p := Ne.symm (ne_of_none upd_same hx)
    walk_at "go"
    have t6 : ∀ {Ha Hb : Hp} {o : HO} {v : V} {d : PyData}, Dq K S Ha v d → Same (upd Ha p o) Hb → Dq K S Hb v d := fun {Ha Hb o v d} h s => h.chg fun b u n e => s b u (by rw [upd_ne (fun q => n (by rw [q]; exact sp))]; exact e)
    have z14 := adu (o := .ins (NC K) dx (netF (.str z) c1 v1 v2 v3 v4 v5 (.ref x))) z13
    have up : ∀ {o : HO} {v : V} {d : PyData}, Dq K S H7 v d → Dq K S (upd H7 p o) v d := fun {o v d} h => t6 h (fun _ _ e => e)
    refine q _ ⟨⟨dx, x, .str z, c1, v1, v2, v3, v4, v5, upd_same, .cons (.str z) (.cons (hc.chg z14.1) (.cons (up (t6 (t6 (t6 (t6 (t6 hv1 s3) s4) s5) s6) so)) (.cons (up (t6 (t6 (t6 (t6 hv2 s4) s5) s6) so)) (.cons (up (t6 (t6 (t6 hv3 s5) s6) so)) (.cons (up (t6 (t6 hv4 s6) so)) (.cons (up (t6 hv5 so)) .nil)))))), ⟨dx2, by rw [upd_ne nx]; exact hs7⟩, nx⟩⟩ z14.2
theorem kx_Net_7_ (T : Top K mg) : MkKX (L2N.CX P w) P w K mg base (He.ga K "Net") 16 7 [] (fun vs zs => pick [(0, 0), (0, 1), (0, 2), (0, 3), (0, 4), (0, 5), (0, 6), (0, 7)] vs ([] : List V) zs) (spNetX K) := mkkx_mk (ps := P_Net___init__) T.mk_Net T.f_Net___init__ (ok_Net___init__ T) (fun F => kbindsN F 8 [] [(0, 0), (0, 1), (0, 2), (0, 3), (0, 4), (0, 5), (0, 6), (0, 7)] fun _ _ _ _ _ _ us ws l1 l2 => match us, ws, l1, l2 with | [_, _, _, _, _, _, _, _], [], _, _ => rfl)
theorem kx_Net_2_base_out_rows_layers_place_rows_token_rows (T : Top K mg) : MkKX (L2N.CX P w) P w K mg base (He.ga K "Net") 16 2 ["base", "out_rows", "layers", "place_rows", "token_rows"] (fun vs zs => pick [(0, 0), (0, 1), (0, 2), (2, 4), (2, 3), (2, 2), (2, 1), (2, 0)] vs ([] : List V) zs) (spNetX K) := mkkx_mk (ps := P_Net___init__) T.mk_Net T.f_Net___init__ (ok_Net___init__ T) (fun F => kbindsN F 3 ["base", "out_rows", "layers", "place_rows", "token_rows"] [(0, 0), (0, 1), (0, 2), (2, 4), (2, 3), (2, 2), (2, 1), (2, 0)] fun _ _ _ _ _ _ us ws l1 l2 => match us, ws, l1, l2 with | [_, _, _], [_, _, _, _, _], _, _ => rfl)
end

set_option Elab.async false
set_option linter.all false
set_option maxRecDepth 100000
set_option maxHeartbeats 4000000
open PySem PySem.Spec L2





section
variable {P : Program} {w : World} {K : PySem.W.Frag} {mg : Str → Option Value} {base : Heap}
/-! Shape.__init__, raising -/
def shpW (a b c d : PyData) : Option Str := if numD a 2 6 = true then if numD b 1 4 = true then if numD c 1 3 = true then if numD d 1 2 = true then none else some "heads" else some "layers" else some "width" else some "tokens"
def spShX (K : PySem.W.Frag) : Sp := fun vs H Q E => ∃ (p dx : Addr) (x1 x2 x3 x4 : V) (a b c d : PyData), vs = [.ref p, x1, x2, x3, x4] ∧ H p = some (.ins (SC K) dx []) ∧ Dp K H x1 a ∧ Dp K H x2 b ∧ Dp K H x3 c ∧ Dp K H x4 d ∧
  (∀ i1 i2 i3 i4 : Int, shpW a b c d = none → a = .int i1 → b = .int i2 → c = .int i3 → d = .int i4 → ∀ H', H' p = some (.ins (SC K) dx (shF i1 i2 i3 i4)) → Chg p H H' → Q .non H') ∧
  (∀ z, shpW a b c d = some z → ∀ (d : Addr) (H1 : Hp), Same H H1 → H1 d = none → E (.ref (SE K)) (some d) (upd H1 d (.xd [("field", .str z)])))
theorem isNum_num {x : V} {d : PyData} {l m : Int} {H : Hp} (h : Dp K H x d) : isNum x l m = numD d l m := by
  cases h <;> rfl
theorem num_int {d : PyData} {l m : Int} (h : numD d l m = true) : ∃ i, d = .int i := by
  cases d with
  | int i => exact ⟨i, rfl⟩
  | _ => cases h
theorem ok_Shape___init__ (T : Top K mg) {f : Addr} {fd : FuncData} (F : FunD K "__init__" "Shape.__init__" (defArgs s_Shape___init__) (defBody s_Shape___init__) (defScope s_Shape___init__) [] [] f fd) : FnOk P w K mg base (L2N.CX P w) 3 f fd P_Shape___init__ (spShX K) := by
  have cl_Shape := T.cl_Shape; have na_Shape_tokens := T.na_Shape_tokens; have na_Shape_width := T.na_Shape_width; have na_Shape_layers := T.na_Shape_layers; have na_Shape_heads := T.na_Shape_heads; have in_Shape := T.in_Shape
  have C_is_number := c_is_number (P := P) (w := w) (base := base) T
  have EW_InvalidSetting := exw_InvalidSetting (P := P) (w := w) (base := base) T
  refine F.ok sc_Shape___init__ (fun vs H Q E h => ?_) (fun cdv A outer s H vs Q E hr h => ?_)
  · obtain ⟨p, dx, x1, x2, x3, x4, a, b, c, d, rfl, _⟩ := h
    rfl
  · obtain ⟨p, dx, x1, x2, x3, x4, a, b, c, d, rfl, hp, ha, hb, hc, hd, q, hr2⟩ := h
    refine ⟨_, (pss_cons (ps_set (i := 5) sc_Shape___init__.nd rfl (by first | exact Or.inl rfl | exact Or.inr rfl) (pe_lst (pa_cons (pe_tup (pa_cons pe_str (pa_cons (pv 1) (pa_cons (C8.pe_gc (v := .int 2) (by rfl) T.k_LEAST_TOKENS) (pa_cons (C8.pe_gc (v := .int 6) (by rfl) T.k_MOST_TOKENS) pa_nil))))) (pa_cons (pe_tup (pa_cons pe_str (pa_cons (pv 2) (pa_cons pe_int (pa_cons (C8.pe_gc (v := .int 4) (by rfl) T.k_MOST_WIDTH) pa_nil))))) (pa_cons (pe_tup (pa_cons pe_str (pa_cons (pv 3) (pa_cons pe_int (pa_cons (C8.pe_gc (v := .int 3) (by rfl) T.k_MOST_LAYERS) pa_nil))))) (pa_cons (pe_tup (pa_cons pe_str (pa_cons (pv 4) (pa_cons pe_int (pa_cons (C8.pe_gc (v := .int 2) (by rfl) T.k_MOST_HEADS) pa_nil))))) pa_nil))))))
    (pss_cons (ps_for (by first | exact PassesOwn.never | exact passes_of rfl) rfl (k_pil (K := K) (by rfl) (pv 5)) (k_pgt (K := K) (n := 4) (by rfl) (by rfl) (pgs_cons (pg_name (i := 6) sc_Shape___init__.nd rfl (by first | exact Or.inl rfl | exact Or.inr rfl)) (pgs_cons (pg_name (i := 7) sc_Shape___init__.nd rfl (by first | exact Or.inl rfl | exact Or.inr rfl)) (pgs_cons (pg_name (i := 8) sc_Shape___init__.nd rfl (by first | exact Or.inl rfl | exact Or.inr rfl)) (pgs_cons (pg_name (i := 9) sc_Shape___init__.nd rfl (by first | exact Or.inl rfl | exact Or.inr rfl)) pgs_nil)))) (by rfl) (by rfl))
    (pss_one (ps_if (pt_not (pt_val (pe_cal C_is_number (hr.mono (by first | decide | omega)) (by rfl) (pa_cons (pv 7) (pa_cons (pv 8) (pa_cons (pv 9) pa_nil))))))
    (pss_one (ps_raiseN rfl (L2N.takes_of rfl rfl rfl rfl) (pmk_w EW_InvalidSetting (roomW (hr.mono (by first | decide | omega))) (by rfl) T.g_InvalidSetting (pa_cons (pv 6) pa_nil))))
    pss_nil)))
    (pss_cons (k_sfld (K := K) (by rfl) (pv 0) (pv 1) rfl)
    (pss_cons (k_sfld (K := K) (by rfl) (pv 0) (pv 2) rfl)
    (pss_cons (k_sfld (K := K) (by rfl) (pv 0) (pv 3) rfl)
    (pss_one (k_sfld (K := K) (by rfl) (pv 0) (pv 4) rfl))))))), ?_⟩
    try simp only [cxK]
    rw [show L2.start N_Shape___init__ [.ref p, x1, x2, x3, x4] = [some (.ref p), some x1, some x2, some x3, some x4, none, none, none, none, none] from rfl]
    walk_at "go"
    rename_i t1 h1 t2 h2 t3 h3 t4 h4 bl hbl
    have E1 : SqT K (upd (upd (upd (upd (upd H t1 (.tup [.str (Str.ofString "tokens"), x1, .int 2, .int 6])) t2 (.tup [.str (Str.ofString "width"), x2, .int 1, .int 4])) t3 (.tup [.str (Str.ofString "layers"), x3, .int 1, .int 3])) t4 (.tup [.str (Str.ofString "heads"), x4, .int 1, .int 2])) bl (.lst [.ref t1, .ref t2, .ref t3, .ref t4])) t1 [.str (Str.ofString "tokens"), x1, .int 2, .int 6] := .of (by walk_at "h")
    have E2 : SqT K (upd (upd (upd (upd (upd H t1 (.tup [.str (Str.ofString "tokens"), x1, .int 2, .int 6])) t2 (.tup [.str (Str.ofString "width"), x2, .int 1, .int 4])) t3 (.tup [.str (Str.ofString "layers"), x3, .int 1, .int 3])) t4 (.tup [.str (Str.ofString "heads"), x4, .int 1, .int 2])) bl (.lst [.ref t1, .ref t2, .ref t3, .ref t4])) t2 [.str (Str.ofString "width"), x2, .int 1, .int 4] := .of (by walk_at "h")
    have E3 : SqT K (upd (upd (upd (upd (upd H t1 (.tup [.str (Str.ofString "tokens"), x1, .int 2, .int 6])) t2 (.tup [.str (Str.ofString "width"), x2, .int 1, .int 4])) t3 (.tup [.str (Str.ofString "layers"), x3, .int 1, .int 3])) t4 (.tup [.str (Str.ofString "heads"), x4, .int 1, .int 2])) bl (.lst [.ref t1, .ref t2, .ref t3, .ref t4])) t3 [.str (Str.ofString "layers"), x3, .int 1, .int 3] := .of (by walk_at "h")
    have E4 : SqT K (upd (upd (upd (upd (upd H t1 (.tup [.str (Str.ofString "tokens"), x1, .int 2, .int 6])) t2 (.tup [.str (Str.ofString "width"), x2, .int 1, .int 4])) t3 (.tup [.str (Str.ofString "layers"), x3, .int 1, .int 3])) t4 (.tup [.str (Str.ofString "heads"), x4, .int 1, .int 2])) bl (.lst [.ref t1, .ref t2, .ref t3, .ref t4])) t4 [.str (Str.ofString "heads"), x4, .int 1, .int 2] := .of (by walk_at "h")
    have E0 : SqL K (upd (upd (upd (upd (upd H t1 (.tup [.str (Str.ofString "tokens"), x1, .int 2, .int 6])) t2 (.tup [.str (Str.ofString "width"), x2, .int 1, .int 4])) t3 (.tup [.str (Str.ofString "layers"), x3, .int 1, .int 3])) t4 (.tup [.str (Str.ofString "heads"), x4, .int 1, .int 2])) bl (.lst [.ref t1, .ref t2, .ref t3, .ref t4])) bl [.ref t1, .ref t2, .ref t3, .ref t4] := .of upd_same
    have s5 : Same H (upd (upd (upd (upd (upd H t1 (.tup [.str (Str.ofString "tokens"), x1, .int 2, .int 6])) t2 (.tup [.str (Str.ofString "width"), x2, .int 1, .int 4])) t3 (.tup [.str (Str.ofString "layers"), x3, .int 1, .int 3])) t4 (.tup [.str (Str.ofString "heads"), x4, .int 1, .int 2])) bl (.lst [.ref t1, .ref t2, .ref t3, .ref t4])) :=
      ((((same_new h1).trans (same_new h2)).trans (same_new h3)).trans (same_new h4)).trans (same_new hbl)
    generalize (upd (upd (upd (upd (upd H t1 (.tup [.str (Str.ofString "tokens"), x1, .int 2, .int 6])) t2 (.tup [.str (Str.ofString "width"), x2, .int 1, .int 4])) t3 (.tup [.str (Str.ofString "layers"), x3, .int 1, .int 3])) t4 (.tup [.str (Str.ofString "heads"), x4, .int 1, .int 2])) bl (.lst [.ref t1, .ref t2, .ref t3, .ref t4])) = H5 at E1 E2 E3 E4 E0 s5 ⊢
    have ha5 := dp_same s5 ha
    have hb5 := dp_same s5 hb
    have hc5 := dp_same s5 hc
    have hd5 := dp_same s5 hd
    refine forL (xs := [.ref t1, .ref t2, .ref t3, .ref t4]) ⟨fun i σ' H' => ∃ y1 y2 y3 y4, σ' = [some (.ref p), some x1, some x2, some x3, some x4, some (.ref bl), y1, y2, y3, y4] ∧ H' = H5 ∧ (1 ≤ i → numD a 2 6 = true) ∧ (2 ≤ i → numD b 1 4 = true) ∧ (3 ≤ i → numD c 1 3 = true) ∧ (4 ≤ i → numD d 1 2 = true), ⟨_, _, _, _, rfl, rfl, fun h => absurd h (by decide), fun h => absurd h (by decide), fun h => absurd h (by decide), fun h => absurd h (by decide)⟩, ?_, ?_, ?_⟩
    · rintro i σ' H' _ ⟨_, _, _, _, _, e, _⟩
      rw [e]
      exact E0
    · rintro i x σ' H' hx ⟨y1, y2, y3, y4, rfl, rfl, n1, n2, n3, n4⟩
      rcases i with _ | _ | _ | _ | i
      · obtain rfl := Option.some.inj hx
        walk_at "go"
        refine g_isNumD ha5 ?_
        rw [isNum_num ha5]
        cases h : numD a 2 6 with
        | false =>
          walk_at "go"
          refine g_mkV (by rfl) fun dd hdd => ?_
          exact hr2 _ (by unfold shpW; rw [h]; rfl) dd _ s5 hdd
        | true =>
          walk_at "go"
          exact ⟨_, _, _, _, rfl, rfl, fun _ => rfl, fun z => absurd z (by decide), fun z => absurd z (by decide), fun z => absurd z (by decide)⟩
      · obtain rfl := Option.some.inj hx
        have n1 := n1 (by omega)
        walk_at "go"
        refine g_isNumD hb5 ?_
        rw [isNum_num hb5]
        cases h : numD b 1 4 with
        | false =>
          walk_at "go"
          refine g_mkV (by rfl) fun dd hdd => ?_
          exact hr2 _ (by unfold shpW; rw [n1, h]; rfl) dd _ s5 hdd
        | true =>
          walk_at "go"
          exact ⟨_, _, _, _, rfl, rfl, fun _ => n1, fun _ => rfl, fun z => absurd z (by decide), fun z => absurd z (by decide)⟩
      · obtain rfl := Option.some.inj hx
        have n1 := n1 (by omega)
        have n2 := n2 (by omega)
        walk_at "go"
        refine g_isNumD hc5 ?_
        rw [isNum_num hc5]
        cases h : numD c 1 3 with
        | false =>
          walk_at "go"
          refine g_mkV (by rfl) fun dd hdd => ?_
          exact hr2 _ (by unfold shpW; rw [n1, n2, h]; rfl) dd _ s5 hdd
        | true =>
          walk_at "go"
          exact ⟨_, _, _, _, rfl, rfl, fun _ => n1, fun _ => n2, fun _ => rfl, fun z => absurd z (by decide)⟩
      · obtain rfl := Option.some.inj hx
        have n1 := n1 (by omega)
        have n2 := n2 (by omega)
        have n3 := n3 (by omega)
        walk_at "go"
        refine g_isNumD hd5 ?_
        rw [isNum_num hd5]
        cases h : numD d 1 2 with
        | false =>
          walk_at "go"
          refine g_mkV (by rfl) fun dd hdd => ?_
          exact hr2 _ (by unfold shpW; rw [n1, n2, n3, h]; rfl) dd _ s5 hdd
        | true =>
          walk_at "go"
          exact ⟨_, _, _, _, rfl, rfl, fun _ => n1, fun _ => n2, fun _ => n3, fun _ => rfl⟩
      · simp at hx
    · rintro σ' H' ⟨y1, y2, y3, y4, rfl, rfl, n1, n2, n3, n4⟩
      have n1 := n1 (by simp)
      have n2 := n2 (by simp)
      have n3 := n3 (by simp)
      have n4 := n4 (by simp)
      have ew : shpW a b c d = none := by unfold shpW; rw [n1, n2, n3, n4]; rfl
      obtain ⟨i1, rfl⟩ := num_int n1
      obtain ⟨i2, rfl⟩ := num_int n2
      obtain ⟨i3, rfl⟩ := num_int n3
      obtain ⟨i4, rfl⟩ := num_int n4
      cases ha5
      cases hb5
      cases hc5
      cases hd5
      have hp5 := s5 _ _ hp
      walk_at "go"
      rw [upd_upd, upd_upd, upd_upd]
      exact q i1 i2 i3 i4 ew rfl rfl rfl rfl _ upd_same ((sm_chg s5).trans Chg.upd)
theorem kx_Shape_4_ (T : Top K mg) : MkKX (L2N.CX P w) P w K mg base (He.ga K "Shape") 3 4 [] (fun vs zs => pick [(0, 0), (0, 1), (0, 2), (0, 3), (0, 4)] vs ([] : List V) zs) (spShX K) := mkkx_mk (ps := P_Shape___init__) T.mk_Shape T.f_Shape___init__ (ok_Shape___init__ T) (fun F => kbindsN F 5 [] [(0, 0), (0, 1), (0, 2), (0, 3), (0, 4)] fun _ _ _ _ _ _ us ws l1 l2 => match us, ws, l1, l2 with | [_, _, _, _, _], [], _, _ => rfl)
theorem kx_Shape_0_heads_layers_tokens_width (T : Top K mg) : MkKX (L2N.CX P w) P w K mg base (He.ga K "Shape") 3 0 ["heads", "layers", "tokens", "width"] (fun vs zs => pick [(0, 0), (2, 2), (2, 3), (2, 1), (2, 0)] vs ([] : List V) zs) (spShX K) := mkkx_mk (ps := P_Shape___init__) T.mk_Shape T.f_Shape___init__ (ok_Shape___init__ T) (fun F => kbindsN F 1 ["heads", "layers", "tokens", "width"] [(0, 0), (2, 2), (2, 3), (2, 1), (2, 0)] fun _ _ _ _ _ _ us ws l1 l2 => match us, ws, l1, l2 with | [_], [_, _, _, _], _, _ => rfl)
end

set_option Elab.async false
set_option linter.all false
set_option maxRecDepth 100000
set_option maxHeartbeats 4000000
open PySem PySem.Spec L2





section
variable {P : Program} {w : World} {K : PySem.W.Frag} {mg : Str → Option Value} {base : Heap}
/-! _law_refusal: a caught error told -/
def spRef (K : PySem.W.Frag) (base : Heap) : Sp := fun vs H Q _ => ∃ (a : Addr) (z : Str), vs = [.ref a] ∧
  ((ExV base H a (NE K) [("part", .str z)] ∧ ∀ (R : Addr) (H' : Hp), H R = none → H' R = some (.lst [.str (Str.ofString "InvalidNet"), .str z]) → Same H H' → Q (.ref R) H') ∨
   (ExV base H a (SE K) [("field", .str z)] ∧ ∀ (R : Addr) (H' : Hp), H R = none → H' R = some (.lst [.str (Str.ofString "InvalidSetting"), .str z]) → Same H H' → Q (.ref R) H'))
theorem fc_ref (T : Top K mg) {f : Addr} {fd : FuncData} (F : FnP K "_law_refusal" s__law_refusal f fd) : FnC P w K mg base CX0 1 f fd P__law_refusal (spRef K base) := by
  refine FunD.okC F sc__law_refusal (fun vs H Q E h => ?_) (fun cdv A outer s H vs Q E hr h => ?_)
  · obtain ⟨a, z, rfl, _⟩ := h
    rfl
  · obtain ⟨a, z, rfl, h⟩ := h
    refine ⟨_, (pss_cons (ps_if (PW.pt (pw_or (pt_val (pe_callB (k_isE (K := K) (base := base) (by rfl) (by rfl)) (by rfl) T.z_isinstance (by decide +kernel) (pa_cons (pv 0) (pa_cons (pe_glob (v := .ref (He.ga K "InvalidText")) (by rfl) T.g_InvalidText rfl) pa_nil)))) (pw_or (pt_val (pe_callB (k_isE (K := K) (base := base) (by rfl) (by rfl)) (by rfl) T.z_isinstance (by decide +kernel) (pa_cons (pv 0) (pa_cons (pe_glob (v := .ref (He.ga K "InvalidAutomaton")) (by rfl) T.g_InvalidAutomaton rfl) pa_nil)))) (pw_or1 (pt_val (pe_callB (k_isE (K := K) (base := base) (by rfl) (by rfl)) (by rfl) T.z_isinstance (by decide +kernel) (pa_cons (pv 0) (pa_cons (pe_glob (v := .ref (He.ga K "InvalidRequest")) (by rfl) T.g_InvalidRequest rfl) pa_nil))))))))
    (pss_one (ps_ret (pe_lst (pa_cons pe_str pa_nil))))
    pss_nil)
    (pss_cons (ps_if (PW.pt (pw_and (pt_val (pe_callB (k_isE (K := K) (base := base) (by rfl) (by rfl)) (by rfl) T.z_isinstance (by decide +kernel) (pa_cons (pv 0) (pa_cons (pe_glob (v := .ref (He.ga K "InvalidNet")) (by rfl) T.g_InvalidNet rfl) pa_nil)))) (pw_and1 (pt_not (pt_val (pe_callB (k_isE (K := K) (base := base) (by rfl) (by rfl)) (by rfl) T.z_isinstance (by decide +kernel) (pa_cons (pv 0) (pa_cons (pe_glob (v := .ref (He.ga K "InvalidSetting")) (by rfl) T.g_InvalidSetting rfl) pa_nil))))))))
    (pss_one (ps_ret (pe_lst (pa_cons pe_str (pa_cons (k_xfE (K := K) (base := base) (by rfl) (by rfl) (pv 0)) pa_nil)))))
    pss_nil)
    (pss_cons (ps_if (PW.pt (pw_and (pt_val (pe_callB (k_isE (K := K) (base := base) (by rfl) (by rfl)) (by rfl) T.z_isinstance (by decide +kernel) (pa_cons (pv 0) (pa_cons (pe_glob (v := .ref (He.ga K "InvalidSetting")) (by rfl) T.g_InvalidSetting rfl) pa_nil)))) (pw_and1 (pt_not (pt_val (pe_callB (k_isE (K := K) (base := base) (by rfl) (by rfl)) (by rfl) T.z_isinstance (by decide +kernel) (pa_cons (pv 0) (pa_cons (pe_glob (v := .ref (He.ga K "InvalidNet")) (by rfl) T.g_InvalidNet rfl) pa_nil))))))))
    (pss_one (ps_ret (pe_lst (pa_cons pe_str (pa_cons (k_xfE (K := K) (base := base) (by rfl) (by rfl) (pv 0)) pa_nil)))))
    pss_nil)
    (pss_one (ps_ret (pe_lst (pa_cons pe_str pa_nil))))))), ?_⟩
    try simp only [cxK]
    rw [show L2.start N__law_refusal [.ref a] = [some (.ref a)] from rfl]
    rcases h with ⟨hE, q⟩ | ⟨hE, q⟩
    · walk_at "go"
      refine g_isE hE T.ox_InvalidNet.ins (.own _) T.ki_o_InvalidNet_o_InvalidText ?_
      walk_at "go"
      refine g_isE hE T.ox_InvalidNet.ins (.own _) T.ki_o_InvalidNet_o_InvalidAutomaton ?_
      walk_at "go"
      refine g_isE hE T.ox_InvalidNet.ins (.own _) T.ki_o_InvalidNet_o_InvalidRequest ?_
      walk_at "go"
      refine g_isE hE T.ox_InvalidNet.ins (.own _) T.ki_o_InvalidNet_o_InvalidNet ?_
      walk_at "go"
      refine g_isE hE T.ox_InvalidNet.ins (.own _) T.ki_o_InvalidNet_o_InvalidSetting ?_
      walk_at "go"
      refine g_xfE ⟨.ref a, rfl, a, NE K, _, .str z, rfl, hE, T.ox_InvalidNet.xf, T.ox_InvalidNet.no, rfl, ?_⟩
      walk_at "go"
      rename_i R hR
      exact q _ _ hR upd_same (same_new hR)
    · walk_at "go"
      refine g_isE hE T.ox_InvalidSetting.ins (.own _) T.ki_o_InvalidSetting_o_InvalidText ?_
      walk_at "go"
      refine g_isE hE T.ox_InvalidSetting.ins (.own _) T.ki_o_InvalidSetting_o_InvalidAutomaton ?_
      walk_at "go"
      refine g_isE hE T.ox_InvalidSetting.ins (.own _) T.ki_o_InvalidSetting_o_InvalidRequest ?_
      walk_at "go"
      refine g_isE hE T.ox_InvalidSetting.ins (.own _) T.ki_o_InvalidSetting_o_InvalidNet ?_
      walk_at "go"
      refine g_isE hE T.ox_InvalidSetting.ins (.own _) T.ki_o_InvalidSetting_o_InvalidSetting ?_
      walk_at "go"
      refine g_isE hE T.ox_InvalidSetting.ins (.own _) T.ki_o_InvalidSetting_o_InvalidNet ?_
      walk_at "go"
      refine g_xfE ⟨.ref a, rfl, a, SE K, _, .str z, rfl, hE, T.ox_InvalidSetting.xf, T.ox_InvalidSetting.no, rfl, ?_⟩
      walk_at "go"
      rename_i R hR
      exact q _ _ hR upd_same (same_new hR)
theorem cw_ref (T : Top K mg) : CalW P w K mg base "_law_refusal" 1 P__law_refusal (spRef K base) := calw_mk T.f__law_refusal (fc_ref T) (fun F => F.bindsN fun _ _ _ _ _ _ us hl => match us, hl with | [_], _ => rfl)
/-! _law_told_net -/
def toldD (t c tr pr ly ou b : PyData) : PyData := match wrongV t c tr pr ly ou b with
  | .str z => .list [.str (Str.ofString "InvalidNet"), .str z]
  | _ => .list [t, c, frzD tr, frzD pr, frzD ly, frzD ou, frzD b, .list [.int (lenD t), .int (wdD tr), .int (dpD ly), .int (hdD ly)]]
def spTN (K : PySem.W.Frag) : Sp := fun vs H Q _ => ∃ (S : Addr → Prop) (P : Addr) (way : Int) (xs : List V) (t c tr pr ly ou b : PyData), vs = [.ref P, .int way] ∧ H P = some (.lst xs) ∧ Al S H ∧ WP K S H xs [t, c, tr, pr, ly, ou, b] ∧ (∀ d ∈ [tr, pr, ly, ou, b], d.depth ≤ 14) ∧
  ∀ (y : V) (H' : Hp), Dq K S H' y (toldD t c tr pr ly ou b) → Same H H' → Q y H'
theorem ok_tn (T : Top K mg) {f : Addr} {fd : FuncData} (F : FnP K "_law_told_net" s__law_told_net f fd) : FnOk P w K mg base CX0 18 f fd P__law_told_net (spTN K) := by
  have cl_Net := T.cl_Net; have na_Net_tokens := T.na_Net_tokens; have na_Net_cap := T.na_Net_cap; have na_Net_token_rows := T.na_Net_token_rows; have na_Net_place_rows := T.na_Net_place_rows; have na_Net_layers := T.na_Net_layers; have na_Net_out_rows := T.na_Net_out_rows; have na_Net_base := T.na_Net_base; have na_Net_shape := T.na_Net_shape; have in_Net := T.in_Net
  have cl_Shape := T.cl_Shape; have na_Shape_tokens := T.na_Shape_tokens; have na_Shape_width := T.na_Shape_width; have na_Shape_layers := T.na_Shape_layers; have na_Shape_heads := T.na_Shape_heads; have in_Shape := T.in_Shape
  have CW__law_refusal := cw_ref (P := P) (w := w) (base := base) T
  have KX_Net_7_ := kx_Net_7_ (P := P) (w := w) (base := base) T
  have KX_Net_2_base_out_rows_layers_place_rows_token_rows := kx_Net_2_base_out_rows_layers_place_rows_token_rows (P := P) (w := w) (base := base) T
  refine F.ok sc__law_told_net (fun vs H Q E h => ?_) (fun cdv A outer s H vs Q E hr h => ?_)
  · obtain ⟨S, P', way, xs, t, c, tr, pr, ly, ou, b, rfl, _⟩ := h
    rfl
  · obtain ⟨S, P', way, xs, t, c, tr, pr, ly, ou, b, rfl, hP, al, hw, hdp, q⟩ := h
    refine ⟨_, PSs.nox (pss_one (ps_try_as (i := 4) (Wout := fun _ _ _ _ => False) rfl rfl sc__law_told_net.nd rfl rfl ⟨rfl, by decide, Or.inl T.g_InvalidError⟩ takes0
    (fun W pn xe tk _ => (pss_cons (ps_if (pt_cmpR op_eq (pv 1) pe_int (nomark _))
    (pss_one (ps_set (i := 2) sc__law_told_net.nd rfl (by first | exact Or.inl rfl | exact Or.inr rfl) (pe_mkkX T.g_Net KX_Net_7_ (hr.mono (by first | decide | omega)) (fun σ => passAtN tk σ) (by rfl) (pa_cons (pe_ix (k_ix (K := K) (by rfl)) (pv 0) pe_int (fun _ _ => rfl)) (pa_cons (pe_ix (k_ix (K := K) (by rfl)) (pv 0) pe_int (fun _ _ => rfl)) (pa_cons (pe_ix (k_ix (K := K) (by rfl)) (pv 0) pe_int (fun _ _ => rfl)) (pa_cons (pe_ix (k_ix (K := K) (by rfl)) (pv 0) pe_int (fun _ _ => rfl)) (pa_cons (pe_ix (k_ix (K := K) (by rfl)) (pv 0) pe_int (fun _ _ => rfl)) (pa_cons (pe_ix (k_ix (K := K) (by rfl)) (pv 0) pe_int (fun _ _ => rfl)) (pa_cons (pe_ix (k_ix (K := K) (by rfl)) (pv 0) pe_int (fun _ _ => rfl)) pa_nil))))))) pk_nil)))
    (pss_one (ps_set (i := 2) sc__law_told_net.nd rfl (by first | exact Or.inl rfl | exact Or.inr rfl) (pe_mkkX T.g_Net KX_Net_2_base_out_rows_layers_place_rows_token_rows (hr.mono (by first | decide | omega)) (fun σ => passAtN tk σ) (by rfl) (pa_cons (pe_ix (k_ix (K := K) (by rfl)) (pv 0) pe_int (fun _ _ => rfl)) (pa_cons (pe_ix (k_ix (K := K) (by rfl)) (pv 0) pe_int (fun _ _ => rfl)) pa_nil)) (pk_cons (pe_ix (k_ix (K := K) (by rfl)) (pv 0) pe_int (fun _ _ => rfl)) (pk_cons (pe_ix (k_ix (K := K) (by rfl)) (pv 0) pe_int (fun _ _ => rfl)) (pk_cons (pe_ix (k_ix (K := K) (by rfl)) (pv 0) pe_int (fun _ _ => rfl)) (pk_cons (pe_ix (k_ix (K := K) (by rfl)) (pv 0) pe_int (fun _ _ => rfl)) (pk_cons (pe_ix (k_ix (K := K) (by rfl)) (pv 0) pe_int (fun _ _ => rfl)) pk_nil)))))))))
    (pss_cons (ps_set (i := 3) sc__law_told_net.nd rfl (by first | exact Or.inl rfl | exact Or.inr rfl) (pe_lst (pa_cons (k_fld (K := K) (by rfl) (k_fld (K := K) (by rfl) (pv 2) rfl) rfl) (pa_cons (k_fld (K := K) (by rfl) (k_fld (K := K) (by rfl) (pv 2) rfl) rfl) (pa_cons (k_fld (K := K) (by rfl) (k_fld (K := K) (by rfl) (pv 2) rfl) rfl) (pa_cons (k_fld (K := K) (by rfl) (k_fld (K := K) (by rfl) (pv 2) rfl) rfl) pa_nil))))))
    (pss_one (ps_ret (pe_lst (pa_cons (k_fld (K := K) (by rfl) (pv 2) rfl) (pa_cons (k_fld (K := K) (by rfl) (pv 2) rfl) (pa_cons (k_fld (K := K) (by rfl) (pv 2) rfl) (pa_cons (k_fld (K := K) (by rfl) (pv 2) rfl) (pa_cons (k_fld (K := K) (by rfl) (pv 2) rfl) (pa_cons (k_fld (K := K) (by rfl) (pv 2) rfl) (pa_cons (k_fld (K := K) (by rfl) (pv 2) rfl) (pa_cons (pv 3) pa_nil))))))))))))))
    (fun a oe cls d pn hz hf => (pss_one (ps_ret (pe_calZ CW__law_refusal hz hf (roomS (hr.mono (by first | decide | omega)) _) (by rfl) (pa_cons (pv 4) pa_nil))))))), ?_⟩
    try simp only [cxK]
    rw [show L2.start N__law_told_net [.ref P', .int way] = some (.ref P') :: some (.int way) :: List.replicate (N__law_told_net.length - 2) none from rfl]
    simp only [N__law_told_net, List.length_cons, List.length_nil, List.replicate]
    obtain ⟨t1, c1, tr1, pr1, ly1, ou1, b1, rfl, ht, hc, htr, hpr, hly, hou, hb⟩ := dqAll7 hw.d
    walk_at "go"
    by_cases hway : way = 0
    · rw [decide_eq_true hway]
      walk_at "go"
      unfold tMakeKS
      walk_at "go"
      refine ⟨rfl, rfl, fun x dx hx hdx ne => ?_⟩
      show spNetX K [.ref x, t1, c1, tr1, pr1, ly1, ou1, b1] _ _ _
      have sO : Same H (upd (upd H dx (.own x)) x (.ins (NC K) dx [])) := same_own hx hdx ne
      refine ⟨SD S x, x, dx, _, t, c, tr, pr, ly, ou, b, rfl, upd_same, .inr rfl, al_sd (al.sm sO) (by rw [upd_same]; exact fun z => by cases z), ⟨hw.d.in hx fun b o _ _ e => sO b o e, hw.s, hw.z⟩, hdp, fun hno H1 hN cN => ⟨rfl, ?_⟩, fun z hz dd H1 s1 hdd => ?_⟩
      · have s1 : Same H H1 := fun b o e => cN b o (ne_of_none e hx) (sO b o e)
        have al1 := al.sm s1
        obtain ⟨dxn, sh, u1, u2, u3, u4, u5, u6, u7, eN, dN, ⟨dxs, eS⟩, nsh⟩ := hN.ex
        walk_at "go"
        rename_i R1 hR1 R2 hR2
        have eR1 := same_new hR2 (o := .lst [u1, u2, u3, u4, u5, u6, u7, .ref R1]) _ _ (upd_same (H := H1) (a := R1) (o := .lst [.int (lenD t), .int (wdD tr), .int (dpD ly), .int (hdD ly)]))
        have sA := (same_new hR1 (o := .lst [.int (lenD t), .int (wdD tr), .int (dpD ly), .int (hdD ly)])).trans (same_new hR2 (o := .lst [u1, u2, u3, u4, u5, u6, u7, .ref R1]))
        refine q _ _ ?_ (s1.trans sA)
        unfold toldD
        rw [hno]
        obtain ⟨v1, v2, v3, v4, v5, v6, v7, ev, d1, d2, d3, d4, d5, d6, d7⟩ := dqAll7 (dN.sm sA).out
        cases ev
        exact dq_new ((al1.sm (same_new hR1)).no hR2) upd_same (.cons d1 (.cons d2 (.cons d3 (.cons d4 (.cons d5 (.cons d6 (.cons d7 (.cons (dq_new (al1.no hR1) eR1 (.cons (.int _) (.cons (.int _) (.cons (.int _) (.cons (.int _) .nil))))) .nil))))))))
      · have sH : Same H (upd H1 dd (.xd [(Str.ofString "part", .str z)])) := (sO.trans s1).trans (same_new hdd)
        refine ⟨true, T.xm_InvalidNet_InvalidError, fun _ ae hae => ?_, fun h => by cases h⟩
        have nda : dd ≠ ae := fun y => by rw [← y, upd_same] at hae; cases hae
        have hx2 : upd H1 dd (.xd [(Str.ofString "part", .str z)]) dd = some (.xd [(Str.ofString "part", .str z)]) := upd_same
        generalize upd H1 dd (.xd [(Str.ofString "part", .str z)]) = H2 at sH hae hx2 ⊢
        have alH := al.sm sH
        have qz : ∀ (R : Addr) (H' : Hp), H2 R = none → H' R = some (.lst [.str (Str.ofString "InvalidNet"), .str z]) → Same H2 H' → Q (.ref R) H' := fun R H' hR eR s5 => by
          refine q _ _ ?_ (sH.trans s5)
          unfold toldD
          rw [hz]
          exact dq_new (alH.no hR) eR (.cons (.str _) (.cons (.str _) .nil))
        walk_at "go"
        refine g_calZ ⟨.ref ae, rfl, fun oe hzc hf => ⟨fun na => ?_, fun hbase => ?_⟩⟩
        · refine ⟨ae, z, rfl, .inl ⟨exV_in hzc hf nda hx2, fun R H5 hR eR s5 => ?_⟩⟩
          have nR : R ≠ ae := fun y => by rw [y, upd_same] at hR; cases hR
          exact qz R _ (by rw [upd_ne nR] at hR; exact hR) (by rw [del_ne nR]; exact eR) (same_del na s5)
        · exact ⟨ae, z, rfl, .inl ⟨exV_base hzc hf hbase hx2, fun R H5 hR eR s5 => qz R _ hR eR s5⟩⟩
    · rw [decide_eq_false hway]
      walk_at "go"
      unfold tMakeKS
      walk_at "go"
      refine ⟨rfl, rfl, fun x dx hx hdx ne => ?_⟩
      show spNetX K [.ref x, t1, c1, tr1, pr1, ly1, ou1, b1] _ _ _
      have sO : Same H (upd (upd H dx (.own x)) x (.ins (NC K) dx [])) := same_own hx hdx ne
      refine ⟨SD S x, x, dx, _, t, c, tr, pr, ly, ou, b, rfl, upd_same, .inr rfl, al_sd (al.sm sO) (by rw [upd_same]; exact fun z => by cases z), ⟨hw.d.in hx fun b o _ _ e => sO b o e, hw.s, hw.z⟩, hdp, fun hno H1 hN cN => ⟨rfl, ?_⟩, fun z hz dd H1 s1 hdd => ?_⟩
      · have s1 : Same H H1 := fun b o e => cN b o (ne_of_none e hx) (sO b o e)
        have al1 := al.sm s1
        obtain ⟨dxn, sh, u1, u2, u3, u4, u5, u6, u7, eN, dN, ⟨dxs, eS⟩, nsh⟩ := hN.ex
        walk_at "go"
        rename_i R1 hR1 R2 hR2
        have eR1 := same_new hR2 (o := .lst [u1, u2, u3, u4, u5, u6, u7, .ref R1]) _ _ (upd_same (H := H1) (a := R1) (o := .lst [.int (lenD t), .int (wdD tr), .int (dpD ly), .int (hdD ly)]))
        have sA := (same_new hR1 (o := .lst [.int (lenD t), .int (wdD tr), .int (dpD ly), .int (hdD ly)])).trans (same_new hR2 (o := .lst [u1, u2, u3, u4, u5, u6, u7, .ref R1]))
        refine q _ _ ?_ (s1.trans sA)
        unfold toldD
        rw [hno]
        obtain ⟨v1, v2, v3, v4, v5, v6, v7, ev, d1, d2, d3, d4, d5, d6, d7⟩ := dqAll7 (dN.sm sA).out
        cases ev
        exact dq_new ((al1.sm (same_new hR1)).no hR2) upd_same (.cons d1 (.cons d2 (.cons d3 (.cons d4 (.cons d5 (.cons d6 (.cons d7 (.cons (dq_new (al1.no hR1) eR1 (.cons (.int _) (.cons (.int _) (.cons (.int _) (.cons (.int _) .nil))))) .nil))))))))
      · have sH : Same H (upd H1 dd (.xd [(Str.ofString "part", .str z)])) := (sO.trans s1).trans (same_new hdd)
        refine ⟨true, T.xm_InvalidNet_InvalidError, fun _ ae hae => ?_, fun h => by cases h⟩
        have nda : dd ≠ ae := fun y => by rw [← y, upd_same] at hae; cases hae
        have hx2 : upd H1 dd (.xd [(Str.ofString "part", .str z)]) dd = some (.xd [(Str.ofString "part", .str z)]) := upd_same
        generalize upd H1 dd (.xd [(Str.ofString "part", .str z)]) = H2 at sH hae hx2 ⊢
        have alH := al.sm sH
        have qz : ∀ (R : Addr) (H' : Hp), H2 R = none → H' R = some (.lst [.str (Str.ofString "InvalidNet"), .str z]) → Same H2 H' → Q (.ref R) H' := fun R H' hR eR s5 => by
          refine q _ _ ?_ (sH.trans s5)
          unfold toldD
          rw [hz]
          exact dq_new (alH.no hR) eR (.cons (.str _) (.cons (.str _) .nil))
        walk_at "go"
        refine g_calZ ⟨.ref ae, rfl, fun oe hzc hf => ⟨fun na => ?_, fun hbase => ?_⟩⟩
        · refine ⟨ae, z, rfl, .inl ⟨exV_in hzc hf nda hx2, fun R H5 hR eR s5 => ?_⟩⟩
          have nR : R ≠ ae := fun y => by rw [y, upd_same] at hR; cases hR
          exact qz R _ (by rw [upd_ne nR] at hR; exact hR) (by rw [del_ne nR]; exact eR) (same_del na s5)
        · exact ⟨ae, z, rfl, .inl ⟨exV_base hzc hf hbase hx2, fun R H5 hR eR s5 => qz R _ hR eR s5⟩⟩
theorem c_tn (T : Top K mg) : Cal P w K mg base "_law_told_net" 18 P__law_told_net (spTN K) := cal_mk T.f__law_told_net (ok_tn T) (fun F => F.bindsN fun _ _ _ _ _ _ us hl => match us, hl with | [_, _], _ => rfl)
end

set_option Elab.async false
set_option linter.all false
set_option maxRecDepth 100000
set_option maxHeartbeats 4000000
open PySem PySem.Spec L2





section
variable {P : Program} {w : World} {K : PySem.W.Frag} {mg : Str → Option Value} {base : Heap}
/-! _law_net_so -/
theorem DqAll.fs {S : Addr → Prop} {H : Hp} {xs : List V} {ds : List PyData} (h : DqAll K S H xs ds) : DqAll K (fun _ => False) H xs ds := h.tr fun _ c b o _ e => c b o (fun z => z) e
theorem Dq.fs {S : Addr → Prop} {H : Hp} {x : V} {d : PyData} (h : Dq K S H x d) : Dq K (fun _ => False) H x d := h.tr fun _ c b o _ e => c b o (fun z => z) e
abbrev FS : Addr → Prop := fun _ => False
theorem al_F {H : Hp} : Al FS H := fun _ z => z.elim
theorem dqAll5 {S : Addr → Prop} {H : Hp} {xs : List V} {a b c d e : PyData} (h : DqAll K S H xs (frzAll [a, b, c, d, e])) : ∃ a1 b1 c1 d1 e1, xs = [a1, b1, c1, d1, e1] ∧ Dq K S H a1 (frzD a) ∧ Dq K S H b1 (frzD b) ∧ Dq K S H c1 (frzD c) ∧ Dq K S H d1 (frzD d) ∧ Dq K S H e1 (frzD e) := by
  cases h with
  | cons h1 h => cases h with
    | cons h2 h => cases h with
      | cons h3 h => cases h with
        | cons h4 h => cases h with
          | cons h5 h => cases h; exact ⟨_, _, _, _, _, rfl, h1, h2, h3, h4, h5⟩
def spSo (K : PySem.W.Frag) : Sp := fun vs H Q _ => ∃ (P : Addr) (way : Int) (xs : List V) (t c tr pr ly ou b : PyData), vs = [.ref P, .int way] ∧ H P = some (.lst xs) ∧ DqAll K FS H xs [t, c, tr, pr, ly, ou, b] ∧ (∀ d ∈ [t, c, tr, pr, ly, ou, b], Sz 13 900 900 d) ∧
  ∀ (H' : Hp), Same H H' → Q (.bl true) H'
theorem ok_so (T : Top K mg) {f : Addr} {fd : FuncData} (F : FnP K "_law_net_so" s__law_net_so f fd) : FnOk P w K mg base CX0 20 f fd P__law_net_so (spSo K) := by
  have C__law_first_wrong := c_fw (P := P) (w := w) (base := base) T
  have C__law_told_net := c_tn (P := P) (w := w) (base := base) T
  have C__law_like := c_like (P := P) (w := w) (base := base) T 16
  have C__law_frozen := c_lfz (P := P) (w := w) (base := base) T 16
  refine F.ok sc__law_net_so (fun vs H Q E h => ?_) (fun cdv A outer s H vs Q E hr h => ?_)
  · obtain ⟨P', way, xs, t, c, tr, pr, ly, ou, b, rfl, _⟩ := h
    rfl
  · obtain ⟨P', way, xs, t, c, tr, pr, ly, ou, b, rfl, hP, hd, hsz, q⟩ := h
    refine ⟨_, PSs.nox (pss_cons (ps_set (i := 2) sc__law_net_so.nd rfl (by first | exact Or.inl rfl | exact Or.inr rfl) (pe_cal C__law_first_wrong (hr.mono (by first | decide | omega)) (by rfl) (pa_cons (pv 0) pa_nil)))
    (pss_cons (ps_if (pt_cmpR o_isN (pv 2) pe_non (nomark _))
    (pss_cons (ps_set (i := 3) sc__law_net_so.nd rfl (by first | exact Or.inl rfl | exact Or.inr rfl) (pe_lst (pa_cons (pe_callB call_len_str (by rfl) T.z_len (by decide +kernel) (pa_cons (pe_ix (k_ix (K := K) (by rfl)) (pv 0) pe_int (fun _ _ => rfl)) pa_nil)) (pa_cons (pe_callB (k_len (K := K) (by rfl)) (by rfl) T.z_len (by decide +kernel) (pa_cons (pe_ix (k_ix (K := K) (by rfl)) (pe_ix (k_ix (K := K) (by rfl)) (pv 0) pe_int (fun _ _ => rfl)) pe_int (fun _ _ => rfl)) pa_nil)) (pa_cons (pe_callB (k_len (K := K) (by rfl)) (by rfl) T.z_len (by decide +kernel) (pa_cons (pe_ix (k_ix (K := K) (by rfl)) (pv 0) pe_int (fun _ _ => rfl)) pa_nil)) (pa_cons (pe_callB (k_len (K := K) (by rfl)) (by rfl) T.z_len (by decide +kernel) (pa_cons (pe_ix (k_ix (K := K) (by rfl)) (pe_ix (k_ix (K := K) (by rfl)) (pe_ix (k_ix (K := K) (by rfl)) (pv 0) pe_int (fun _ _ => rfl)) pe_int (fun _ _ => rfl)) pe_int (fun _ _ => rfl)) pa_nil)) pa_nil))))))
    (pss_one (ps_ret (pe_cal C__law_like (hr.mono (by first | decide | omega)) (by rfl) (pa_cons (pe_cal C__law_told_net (hr.mono (by first | decide | omega)) (by rfl) (pa_cons (pv 0) (pa_cons (pv 1) pa_nil))) (pa_cons (pe_op op_cat (pe_op op_cat (pe_callTy (k_list (K := K) (by rfl)) (by rfl) T.z_list (by decide +kernel) (pa_cons (pe_slice (k_sl (K := K) (by rfl)) (pv 0) po_none (po_some pe_int)) pa_nil)) (pe_callTy (k_list (K := K) (by rfl)) (by rfl) T.z_list (by decide +kernel) (pa_cons (pe_cal C__law_frozen (hr.mono (by first | decide | omega)) (by rfl) (pa_cons (pe_slice (k_sl (K := K) (by rfl)) (pv 0) (po_some pe_int) po_none) pa_nil)) pa_nil))) (pe_lst (pa_cons (pv 3) pa_nil))) pa_nil))))))
    pss_nil)
    (pss_one (ps_ret (pe_cal C__law_like (hr.mono (by first | decide | omega)) (by rfl) (pa_cons (pe_cal C__law_told_net (hr.mono (by first | decide | omega)) (by rfl) (pa_cons (pv 0) (pa_cons (pv 1) pa_nil))) (pa_cons (pe_lst (pa_cons pe_str (pa_cons (pv 2) pa_nil))) pa_nil))))))), ?_⟩
    try simp only [cxK]
    rw [show L2.start N__law_net_so [.ref P', .int way] = some (.ref P') :: some (.int way) :: List.replicate (N__law_net_so.length - 2) none from rfl]
    simp only [N__law_net_so, List.length_cons, List.length_nil, List.replicate]
    have sml : ∀ d ∈ [t, c, tr, pr, ly, ou, b], smallD d = true := fun d h => bnd_small (hsz d h).b (by decide)
    have dep : ∀ d ∈ [t, c, tr, pr, ly, ou, b], d.depth ≤ 13 := fun d h => bnd_depth (hsz d h).b
    have strL : ∀ d ∈ [t, c, tr, pr, ly, ou, b], ∀ z, d = .str z → z.length ≤ 1000 := fun d h z e => by
      have := (hsz d h).s
      rw [e] at this
      exact Nat.le_trans (of_decide_eq_true this) (by decide)
    have wp : ∀ {H'}, Same H H' → WP K FS H' xs [t, c, tr, pr, ly, ou, b] := fun s => ⟨hd.sm s, sml, strL⟩
    have dep5 : ∀ d ∈ [tr, pr, ly, ou, b], d.depth ≤ 14 := fun d h => Nat.le_trans (dep d (List.mem_cons_of_mem _ (List.mem_cons_of_mem _ h))) (by decide)
    walk_at "go"
    refine ⟨FS, .ref P', t, c, tr, pr, ly, ou, b, rfl, dq_new (fun z => z) hP hd, al_F, sml, strL t (by simp), fun H1 s1 => ?_⟩
    have hP1 := s1 _ _ hP
    rcases wrong_cases t c tr pr ly ou b with hno | ⟨z, hz⟩
    · rw [hno]
      obtain ⟨w1, w2, w3, w4, w5, w6, w7⟩ := wrong_no hno
      obtain ⟨z, rfl, z2, z6⟩ := toks_len w1
      obtain ⟨y1, y2, y3⟩ := lays_no w5
      have w3' := w3
      unfold tokD at w3'
      rw [Bool.and_eq_true, Bool.and_eq_true] at w3'
      have e0 := fst_at w3'.1 (show (1 : Int) ≤ lenD (.str z) by show (1 : Int) ≤ (z.length : Int); omega)
      have e1 := fst_at y1 (Int.le_refl _)
      have e2 := fst_at y2 (by decide)
      obtain ⟨t1, c1, tr1, pr1, ly1, ou1, b1, rfl, ht, hc, htr, hpr, hly, hou, hb⟩ := dqAll7 (hd.sm s1)
      obtain rfl := ht.str_inv
      have zs : z.length ≤ sizeLine := Nat.le_of_lt (small1000 (by omega))
      walk_at "go"
      refine ⟨z, rfl, zs, ?_⟩
      walk_at "go"
      refine g_ixQ (i := 0) htr (listD_seq w3'.1) e0 fun u1 hu1 => ?_
      walk_at "go"
      refine g_lenQ hu1 (listD_seq w3'.2.1) ?_
      walk_at "go"
      refine g_lenQ hly (listD_seq y1) ?_
      walk_at "go"
      refine g_ixQ (i := 0) hly (listD_seq y1) e1 fun u2 hu2 => ?_
      walk_at "go"
      refine g_ixQ (i := 0) hu2 (listD_seq y2) e2 fun u3 hu3 => ?_
      walk_at "go"
      refine g_lenQ hu3 (listD_seq y3) ?_
      walk_at "go"
      rename_i R1 hR1
      have sR1 := same_new hR1 (o := .lst [.int (z.length : Nat), .int ((itsD (fstD tr)).length : Nat), .int ((itsD ly).length : Nat), .int ((itsD (fstD (fstD ly))).length : Nat)])
      have eR1 : upd H1 R1 (.lst [.int (z.length : Nat), .int ((itsD (fstD tr)).length : Nat), .int ((itsD ly).length : Nat), .int ((itsD (fstD (fstD ly))).length : Nat)]) R1 = some (.lst [.int (z.length : Nat), .int ((itsD (fstD tr)).length : Nat), .int ((itsD ly).length : Nat), .int ((itsD (fstD (fstD ly))).length : Nat)]) := upd_same
      have s2 := s1.trans sR1
      have hd2 := hd.sm s2
      generalize upd H1 R1 (.lst [.int (z.length : Nat), .int ((itsD (fstD tr)).length : Nat), .int ((itsD ly).length : Nat), .int ((itsD (fstD (fstD ly))).length : Nat)]) = H2 at eR1 s2 hd2 ⊢
      refine ⟨FS, P', way, _, .str z, c, tr, pr, ly, ou, b, rfl, s2 _ _ hP, al_F, wp s2, dep5, fun y H3 hy s3 => ?_⟩
      have s23 := s2.trans s3
      have hP3 := s23 _ _ hP
      walk_at "go"
      rename_i q1 hq1 q2 hq2 q3 hq3
      have cu1 : cutV [V.str z, c1, tr1, pr1, ly1, ou1, b1] none (some 2) = [V.str z, c1] := by rw [show (2 : Int) = ((2 : Nat) : Int) from rfl, cutV_to]; rfl
      have cu2 : cutV [V.str z, c1, tr1, pr1, ly1, ou1, b1] (some 2) none = [tr1, pr1, ly1, ou1, b1] := by rw [show (2 : Int) = ((2 : Nat) : Int) from rfl, cutV_from]; rfl
      rw [cu1] at hq2 hq3
      rw [cu1, cu2]
      have sQ := ((same_new hq1 (o := .lst [V.str z, c1])).trans (same_new hq2 (o := .lst [V.str z, c1]))).trans (same_new hq3 (o := .lst [tr1, pr1, ly1, ou1, b1]))
      have eq2 := same_new hq3 (o := .lst [tr1, pr1, ly1, ou1, b1]) _ _ (upd_same (H := upd H3 q1 (.lst [V.str z, c1])) (a := q2) (o := .lst [V.str z, c1]))
      have eq3 : upd (upd (upd H3 q1 (.lst [V.str z, c1])) q2 (.lst [V.str z, c1])) q3 (.lst [tr1, pr1, ly1, ou1, b1]) q3 = some (.lst [tr1, pr1, ly1, ou1, b1]) := upd_same
      generalize upd (upd (upd H3 q1 (.lst [V.str z, c1])) q2 (.lst [V.str z, c1])) q3 (.lst [tr1, pr1, ly1, ou1, b1]) = H4 at sQ eq2 eq3 ⊢
      obtain ⟨_, _, _, _, _, _, _, ev, _, hc4, htr4, hpr4, hly4, hou4, hb4⟩ := dqAll7 (hd.sm (s23.trans sQ))
      cases ev
      have dl : DqAll K FS H4 [tr1, pr1, ly1, ou1, b1] [tr, pr, ly, ou, b] := .cons htr4 (.cons hpr4 (.cons hly4 (.cons hou4 (.cons hb4 .nil))))
      have dpl : PyData.depthAll [tr, pr, ly, ou, b] ≤ 13 := by
        simp only [PyData.depthAll]
        have a1 := dep tr (by simp)
        have a2 := dep pr (by simp)
        have a3 := dep ly (by simp)
        have a4 := dep ou (by simp)
        have a5 := dep b (by simp)
        omega
      have sml5 : smallAll [tr, pr, ly, ou, b] = true := by
        simp only [smallAll, sml tr (by simp), sml pr (by simp), sml ly (by simp), sml ou (by simp), sml b (by simp), Bool.and_true]
      refine g_frz (dq_new (fun z => z) eq3 dl) al_F (by show PyData.depthAll _ + 1 ≤ 16; omega) (by show (decide (5 ≤ 1000) && smallAll [tr, pr, ly, ou, b]) = true; rw [sml5]; rfl) fun yf H5 hyf s5 => ?_
      obtain ⟨bf, zf, rfl, cf, hzf⟩ := (show Dq K FS H5 yf (.tuple (frzAll [tr, pr, ly, ou, b])) from hyf).tup_inv
      obtain ⟨f1, f2, f3, f4, f5, rfl, k1, k2, k3, k4, k5⟩ := dqAll5 hzf
      have eq25 := s5 _ _ eq2
      walk_at "go"
      rename_i q4 hq4 q5 hq5 q6 hq6 q7 hq7
      have sZ := ((same_new hq4 (o := .lst [f1, f2, f3, f4, f5])).trans (same_new hq5 (o := .lst ([V.str z, c1] ++ [f1, f2, f3, f4, f5])))).trans (same_new hq6 (o := .lst [.ref R1]))
      have sA := sZ.trans (same_new hq7 (o := .lst ([V.str z, c1] ++ [f1, f2, f3, f4, f5] ++ [.ref R1])))
      have eT : toldD (.str z) c tr pr ly ou b = .list [.str z, c, frzD tr, frzD pr, frzD ly, frzD ou, frzD b, .list [.int (lenD (.str z)), .int (wdD tr), .int (dpD ly), .int (hdD ly)]] := by
        unfold toldD
        rw [hno]
      have s35 := (sQ.trans s5).trans sA
      rw [eT] at hy
      have eR7 := (s3.trans s35) _ _ eR1
      refine g_likeD (hy.sm s35).dp (.lst (.of upd_same) ?_) ?_ ?_ fun H8 s8 => ?_
      · exact .cons (.str _) (.cons (hc4.sm (s5.trans sA)).dp (.cons (k1.sm sA).dp (.cons (k2.sm sA).dp (.cons (k3.sm sA).dp (.cons (k4.sm sA).dp (.cons (k5.sm sA).dp (.cons (.lst (.of eR7) (.cons (.int _) (.cons (.int _) (.cons (.int _) (.cons (.int _) .nil))))) .nil)))))))
      · simp only [PyData.depth, PyData.depthAll, depth_frz]
        have a0 := dep c (by simp)
        simp only [PyData.depthAll] at dpl
        omega
      · simp only [smallD, smallAll, small_frz, sml tr (by simp), sml pr (by simp), sml ly (by simp), sml ou (by simp), sml b (by simp), sml c (by simp), Bool.and_true, List.length_cons, List.length_nil]
        rfl
      · exact q _ ((s23.trans s35).trans s8)
    · rw [hz]
      walk_at "go"
      refine ⟨FS, P', way, _, t, c, tr, pr, ly, ou, b, rfl, hP1, al_F, wp s1, dep5, fun y H2 hy s2 => ?_⟩
      have e : toldD t c tr pr ly ou b = .list [.str (Str.ofString "InvalidNet"), .str z] := by
        unfold toldD
        rw [hz]
      rw [e] at hy
      walk_at "go"
      rename_i R hR
      refine g_likeD (hy.sm (same_new hR)).dp (.lst (.of upd_same) (.cons (.str _) (.cons (.str _) .nil))) (by simp [PyData.depth, PyData.depthAll]) (by rfl) fun H3 s3 => ?_
      exact q _ (((s1.trans s2).trans (same_new hR)).trans s3)
theorem c_so (T : Top K mg) : Cal P w K mg base "_law_net_so" 20 P__law_net_so (spSo K) := cal_mk T.f__law_net_so (ok_so T) (fun F => F.bindsN fun _ _ _ _ _ _ us hl => match us, hl with | [_, _], _ => rfl)
end

set_option Elab.async false
set_option linter.all false
set_option maxRecDepth 100000
set_option maxHeartbeats 4000000
open PySem PySem.Spec L2





section
variable {P : Program} {w : World} {K : PySem.W.Frag} {mg : Str → Option Value} {base : Heap}
/-! shapes told -/
def toldS (a b c d : PyData) : PyData := match shpW a b c d with
  | some z => .list [.str (Str.ofString "InvalidSetting"), .str z]
  | none => .list [a, b, c, d]
def spTS (K : PySem.W.Frag) : Sp := fun vs H Q _ => ∃ (Z : Addr) (way : Int) (x1 x2 x3 x4 : V) (a b c d : PyData), vs = [.ref Z, .int way] ∧ H Z = some (.lst [x1, x2, x3, x4]) ∧ Dq K FS H x1 a ∧ Dq K FS H x2 b ∧ Dq K FS H x3 c ∧ Dq K FS H x4 d ∧
  ∀ (y : V) (H' : Hp), Dq K FS H' y (toldS a b c d) → Same H H' → Q y H'
theorem ok_ts (T : Top K mg) {f : Addr} {fd : FuncData} (F : FnP K "_law_told_shape" s__law_told_shape f fd) : FnOk P w K mg base CX0 6 f fd P__law_told_shape (spTS K) := by
  have cl_Shape := T.cl_Shape; have na_Shape_tokens := T.na_Shape_tokens; have na_Shape_width := T.na_Shape_width; have na_Shape_layers := T.na_Shape_layers; have na_Shape_heads := T.na_Shape_heads; have in_Shape := T.in_Shape
  have CW__law_refusal := cw_ref (P := P) (w := w) (base := base) T
  have KX_Shape_4_ := kx_Shape_4_ (P := P) (w := w) (base := base) T
  have KX_Shape_0_heads_layers_tokens_width := kx_Shape_0_heads_layers_tokens_width (P := P) (w := w) (base := base) T
  refine F.ok sc__law_told_shape (fun vs H Q E h => ?_) (fun cdv A outer s H vs Q E hr h => ?_)
  · obtain ⟨Z, way, x1, x2, x3, x4, a, b, c, d, rfl, _⟩ := h
    rfl
  · obtain ⟨Z, way, x1, x2, x3, x4, a, b, c, d, rfl, hZ, h1, h2, h3, h4, q⟩ := h
    refine ⟨_, PSs.nox (pss_one (ps_try_as (i := 3) (Wout := fun _ _ _ _ => False) rfl rfl sc__law_told_shape.nd rfl rfl ⟨rfl, by decide, Or.inl T.g_InvalidError⟩ takes0
    (fun W pn xe tk _ => (pss_cons (ps_if (pt_cmpR op_eq (pv 1) pe_int (nomark _))
    (pss_one (ps_set (i := 2) sc__law_told_shape.nd rfl (by first | exact Or.inl rfl | exact Or.inr rfl) (pe_mkkX T.g_Shape KX_Shape_4_ (hr.mono (by first | decide | omega)) (fun σ => passAtN tk σ) (by rfl) (pa_cons (pe_ix (k_ix (K := K) (by rfl)) (pv 0) pe_int (fun _ _ => rfl)) (pa_cons (pe_ix (k_ix (K := K) (by rfl)) (pv 0) pe_int (fun _ _ => rfl)) (pa_cons (pe_ix (k_ix (K := K) (by rfl)) (pv 0) pe_int (fun _ _ => rfl)) (pa_cons (pe_ix (k_ix (K := K) (by rfl)) (pv 0) pe_int (fun _ _ => rfl)) pa_nil)))) pk_nil)))
    (pss_one (ps_set (i := 2) sc__law_told_shape.nd rfl (by first | exact Or.inl rfl | exact Or.inr rfl) (pe_mkkX0 T.g_Shape KX_Shape_0_heads_layers_tokens_width (hr.mono (by first | decide | omega)) (fun σ => passAtN tk σ) (by rfl) (pk_cons (pe_ix (k_ix (K := K) (by rfl)) (pv 0) pe_int (fun _ _ => rfl)) (pk_cons (pe_ix (k_ix (K := K) (by rfl)) (pv 0) pe_int (fun _ _ => rfl)) (pk_cons (pe_ix (k_ix (K := K) (by rfl)) (pv 0) pe_int (fun _ _ => rfl)) (pk_cons (pe_ix (k_ix (K := K) (by rfl)) (pv 0) pe_int (fun _ _ => rfl)) pk_nil))))))))
    (pss_one (ps_ret (pe_lst (pa_cons (k_fld (K := K) (by rfl) (pv 2) rfl) (pa_cons (k_fld (K := K) (by rfl) (pv 2) rfl) (pa_cons (k_fld (K := K) (by rfl) (pv 2) rfl) (pa_cons (k_fld (K := K) (by rfl) (pv 2) rfl) pa_nil)))))))))
    (fun a oe cls d pn hz hf => (pss_one (ps_ret (pe_calZ CW__law_refusal hz hf (roomS (hr.mono (by first | decide | omega)) _) (by rfl) (pa_cons (pv 3) pa_nil))))))), ?_⟩
    try simp only [cxK]
    rw [show L2.start N__law_told_shape [.ref Z, .int way] = some (.ref Z) :: some (.int way) :: List.replicate (N__law_told_shape.length - 2) none from rfl]
    simp only [N__law_told_shape, List.length_cons, List.length_nil, List.replicate]
    walk_at "go"
    by_cases hway : way = 0
    · rw [decide_eq_true hway]
      walk_at "go"
      unfold tMakeKS
      walk_at "go"
      refine ⟨rfl, rfl, fun x dx hx hdx ne => ?_⟩
      show spShX K [.ref x, x1, x2, x3, x4] _ _ _
      have sO : Same H (upd (upd H dx (.own x)) x (.ins (SC K) dx [])) := same_own hx hdx ne
      refine ⟨x, dx, x1, x2, x3, x4, a, b, c, d, rfl, upd_same, (h1.sm sO).dp, (h2.sm sO).dp, (h3.sm sO).dp, (h4.sm sO).dp, fun i1 i2 i3 i4 hno e1 e2 e3 e4 H1 hN cN => ⟨rfl, ?_⟩, fun z hz dd H1 s1 hdd => ?_⟩
      · subst e1
        subst e2
        subst e3
        subst e4
        have s1 : Same H H1 := fun b o e => cN b o (ne_of_none e hx) (sO b o e)
        walk_at "go"
        rename_i R1 hR1
        refine q _ _ ?_ (s1.trans (same_new hR1))
        unfold toldS
        rw [hno]
        exact dq_new (fun z => z) upd_same (.cons (.int _) (.cons (.int _) (.cons (.int _) (.cons (.int _) .nil))))
      · have sH : Same H (upd H1 dd (.xd [(Str.ofString "field", .str z)])) := (sO.trans s1).trans (same_new hdd)
        refine ⟨true, T.xm_InvalidSetting_InvalidError, fun _ ae hae => ?_, fun h => by cases h⟩
        have nda : dd ≠ ae := fun y => by rw [← y, upd_same] at hae; cases hae
        have hx2 : upd H1 dd (.xd [(Str.ofString "field", .str z)]) dd = some (.xd [(Str.ofString "field", .str z)]) := upd_same
        generalize upd H1 dd (.xd [(Str.ofString "field", .str z)]) = H2 at sH hae hx2 ⊢
        have qz : ∀ (R : Addr) (H' : Hp), H2 R = none → H' R = some (.lst [.str (Str.ofString "InvalidSetting"), .str z]) → Same H2 H' → Q (.ref R) H' := fun R H' hR eR s5 => by
          refine q _ _ ?_ (sH.trans s5)
          unfold toldS
          rw [hz]
          exact dq_new (fun z => z) eR (.cons (.str _) (.cons (.str _) .nil))
        walk_at "go"
        refine g_calZ ⟨.ref ae, rfl, fun oe hzc hf => ⟨fun na => ?_, fun hbase => ?_⟩⟩
        · refine ⟨ae, z, rfl, .inr ⟨exV_in hzc hf nda hx2, fun R H5 hR eR s5 => ?_⟩⟩
          have nR : R ≠ ae := fun y => by rw [y, upd_same] at hR; cases hR
          exact qz R _ (by rw [upd_ne nR] at hR; exact hR) (by rw [del_ne nR]; exact eR) (same_del na s5)
        · exact ⟨ae, z, rfl, .inr ⟨exV_base hzc hf hbase hx2, fun R H5 hR eR s5 => qz R _ hR eR s5⟩⟩
    · rw [decide_eq_false hway]
      walk_at "go"
      unfold tMakeKS
      walk_at "go"
      refine ⟨rfl, rfl, fun x dx hx hdx ne => ?_⟩
      show spShX K [.ref x, x1, x2, x3, x4] _ _ _
      have sO : Same H (upd (upd H dx (.own x)) x (.ins (SC K) dx [])) := same_own hx hdx ne
      refine ⟨x, dx, x1, x2, x3, x4, a, b, c, d, rfl, upd_same, (h1.sm sO).dp, (h2.sm sO).dp, (h3.sm sO).dp, (h4.sm sO).dp, fun i1 i2 i3 i4 hno e1 e2 e3 e4 H1 hN cN => ⟨rfl, ?_⟩, fun z hz dd H1 s1 hdd => ?_⟩
      · subst e1
        subst e2
        subst e3
        subst e4
        have s1 : Same H H1 := fun b o e => cN b o (ne_of_none e hx) (sO b o e)
        walk_at "go"
        rename_i R1 hR1
        refine q _ _ ?_ (s1.trans (same_new hR1))
        unfold toldS
        rw [hno]
        exact dq_new (fun z => z) upd_same (.cons (.int _) (.cons (.int _) (.cons (.int _) (.cons (.int _) .nil))))
      · have sH : Same H (upd H1 dd (.xd [(Str.ofString "field", .str z)])) := (sO.trans s1).trans (same_new hdd)
        refine ⟨true, T.xm_InvalidSetting_InvalidError, fun _ ae hae => ?_, fun h => by cases h⟩
        have nda : dd ≠ ae := fun y => by rw [← y, upd_same] at hae; cases hae
        have hx2 : upd H1 dd (.xd [(Str.ofString "field", .str z)]) dd = some (.xd [(Str.ofString "field", .str z)]) := upd_same
        generalize upd H1 dd (.xd [(Str.ofString "field", .str z)]) = H2 at sH hae hx2 ⊢
        have qz : ∀ (R : Addr) (H' : Hp), H2 R = none → H' R = some (.lst [.str (Str.ofString "InvalidSetting"), .str z]) → Same H2 H' → Q (.ref R) H' := fun R H' hR eR s5 => by
          refine q _ _ ?_ (sH.trans s5)
          unfold toldS
          rw [hz]
          exact dq_new (fun z => z) eR (.cons (.str _) (.cons (.str _) .nil))
        walk_at "go"
        refine g_calZ ⟨.ref ae, rfl, fun oe hzc hf => ⟨fun na => ?_, fun hbase => ?_⟩⟩
        · refine ⟨ae, z, rfl, .inr ⟨exV_in hzc hf nda hx2, fun R H5 hR eR s5 => ?_⟩⟩
          have nR : R ≠ ae := fun y => by rw [y, upd_same] at hR; cases hR
          exact qz R _ (by rw [upd_ne nR] at hR; exact hR) (by rw [del_ne nR]; exact eR) (same_del na s5)
        · exact ⟨ae, z, rfl, .inr ⟨exV_base hzc hf hbase hx2, fun R H5 hR eR s5 => qz R _ hR eR s5⟩⟩
theorem c_ts (T : Top K mg) : Cal P w K mg base "_law_told_shape" 6 P__law_told_shape (spTS K) := cal_mk T.f__law_told_shape (ok_ts T) (fun F => F.bindsN fun _ _ _ _ _ _ us hl => match us, hl with | [_, _], _ => rfl)
/-! _law_shapes_so -/
theorem dqAll4' {S : Addr → Prop} {H : Hp} {xs : List V} {ds : List PyData} (h : DqAll K S H xs ds) (l : xs.length = 4) : ∃ u v w z a b c d, xs = [u, v, w, z] ∧ ds = [a, b, c, d] ∧ Dq K S H u a ∧ Dq K S H v b ∧ Dq K S H w c ∧ Dq K S H z d := by
  cases h with
  | nil => cases l
  | cons h1 h => cases h with
    | nil => cases l
    | cons h2 h => cases h with
      | nil => cases l
      | cons h3 h => cases h with
        | nil => cases l
        | cons h4 h => cases h with
          | nil => exact ⟨_, _, _, _, _, _, _, _, rfl, rfl, h1, h2, h3, h4⟩
          | cons _ _ => cases l
/-- the places of the wrong sizes -/
def wlS (a b c d : PyData) : List Int := (if numD a 2 6 = true then [] else [0]) ++ ((if numD b 1 4 = true then [] else [1]) ++ ((if numD c 1 3 = true then [] else [2]) ++ (if numD d 1 2 = true then [] else [3])))
def osS (a b c d : PyData) : List (Option PyData) := [if numD a 2 6 = true then none else some (.int 0), if numD b 1 4 = true then none else some (.int 1), if numD c 1 3 = true then none else some (.int 2), if numD d 1 2 = true then none else some (.int 3)]
theorem os_wl (a b c d : PyData) : (osS a b c d).filterMap id = (wlS a b c d).map PyData.int := by
  unfold osS wlS
  cases numD a 2 6 <;> cases numD b 1 4 <;> cases numD c 1 3 <;> cases numD d 1 2 <;> rfl
theorem wl_shp (a b c d : PyData) : (wlS a b c d = [] ∧ shpW a b c d = none) ∨ ∃ (k : Int) (r : List Int) (z : Str), wlS a b c d = k :: r ∧ r.length ≤ 3 ∧ atI [V.str (Str.ofString "tokens"), V.str (Str.ofString "width"), V.str (Str.ofString "layers"), V.str (Str.ofString "heads")] k = some (.str z) ∧ shpW a b c d = some z := by
  unfold wlS shpW
  cases numD a 2 6 <;> cases numD b 1 4 <;> cases numD c 1 3 <;> cases numD d 1 2 <;> first | exact .inl ⟨rfl, rfl⟩ | exact .inr ⟨_, _, _, rfl, by decide, rfl, rfl⟩
def spSS (K : PySem.W.Frag) : Sp := fun vs H Q _ => ∃ (a l : Addr), vs = [.ref a] ∧ Bag H a l ∧ ∀ H', Bag H' a l → Chg a H H' → Q (.bl true) H'
theorem ok_ss (T : Top K mg) {f : Addr} {fd : FuncData} (F : FnP K "_law_shapes_so" s__law_shapes_so f fd) : FnOk P w K mg base CX0 8 f fd P__law_shapes_so (spSS K) := by
  have C__law_draw := c_draw1 (P := P) (w := w) (base := base) T
  have C__law_of := c_of (P := P) (w := w) (base := base) T
  have C__law_is_number := c_lnum (P := P) (w := w) (base := base) T
  have C__law_told_shape := c_ts (P := P) (w := w) (base := base) T
  have C__law_like := c_like (P := P) (w := w) (base := base) T 5
  refine F.ok sc__law_shapes_so (fun vs H Q E h => ?_) (fun cdv A outer s H vs Q E hr h => ?_)
  · obtain ⟨a, l, rfl, _⟩ := h
    rfl
  · obtain ⟨a, l, rfl, B, q⟩ := h
    refine ⟨_, PSs.nox (pss_cons (ps_asg (pe_tup (pa_cons (pe_lst (pa_cons pe_int (pa_cons pe_int (pa_cons pe_int (pa_cons pe_int pa_nil))))) (pa_cons (pe_lst (pa_cons pe_int (pa_cons pe_int (pa_cons pe_int (pa_cons pe_int pa_nil))))) (pa_cons (pe_lst (pa_cons pe_str (pa_cons pe_str (pa_cons pe_str (pa_cons pe_str pa_nil))))) pa_nil)))) (k_pgt (K := K) (n := 3) (by rfl) (by rfl) (pgs_cons (pg_name (i := 1) sc__law_shapes_so.nd rfl (by first | exact Or.inl rfl | exact Or.inr rfl)) (pgs_cons (pg_name (i := 2) sc__law_shapes_so.nd rfl (by first | exact Or.inl rfl | exact Or.inr rfl)) (pgs_cons (pg_name (i := 3) sc__law_shapes_so.nd rfl (by first | exact Or.inl rfl | exact Or.inr rfl)) pgs_nil))) (by rfl) (by rfl)))
    (pss_cons (ps_for PassesOwn.never rfl (pi_range1 (by rfl) T.z_range (pa_cons pe_int pa_nil)) (pg_name (i := 4) sc__law_shapes_so.nd rfl (by first | exact Or.inl rfl | exact Or.inr rfl))
    (pss_cons (ps_set (i := 5) sc__law_shapes_so.nd rfl (by first | exact Or.inl rfl | exact Or.inr rfl) (pe_lc (own := [("k", 6)]) (g := gName 6) (by rfl) sc__law_shapes_so.nd (pi_range1 (by rfl) T.z_range (pa_cons pe_int pa_nil)) (blkOk_by (own := [("k", 6)]) (N := N__law_shapes_so) (sc := defScope s__law_shapes_so) (by decide +kernel)) (fun _ _ _ _ _ => pg_name (i := 6) sc__law_shapes_so.nd rfl (by first | exact Or.inl rfl | exact Or.inr rfl)) (fun _ _ _ _ _ => pts_nil) (fun _ _ _ _ _ => (pe_op op_add (pe_ix (k_ix (K := K) (by rfl)) (pv 2) (pv 6) (fun _ _ => rfl)) (pe_cal C__law_draw (hr.mono (by first | decide | omega)) (by rfl) (pa_cons (pv 0) (pa_cons (pe_op op_add (pe_op op_sub (pe_ix (k_ix (K := K) (by rfl)) (pv 1) (pv 6) (fun _ _ => rfl)) (pe_ix (k_ix (K := K) (by rfl)) (pv 2) (pv 6) (fun _ _ => rfl))) pe_int) pa_nil)))))))
    (pss_cons (ps_for PassesOwn.never rfl (pi_range1 (by rfl) T.z_range (pa_cons (pe_cal C__law_draw (hr.mono (by first | decide | omega)) (by rfl) (pa_cons (pv 0) (pa_cons pe_int pa_nil))) pa_nil)) (pg_name (i := 6) sc__law_shapes_so.nd rfl (by first | exact Or.inl rfl | exact Or.inr rfl))
    (pss_cons (ps_set (i := 7) sc__law_shapes_so.nd rfl (by first | exact Or.inl rfl | exact Or.inr rfl) (pe_cal C__law_draw (hr.mono (by first | decide | omega)) (by rfl) (pa_cons (pv 0) (pa_cons pe_int pa_nil))))
    (pss_one (ps_asg (pe_cal C__law_of (hr.mono (by first | decide | omega)) (by rfl) (pa_cons (pv 0) (pa_cons (pe_lst (pa_cons (pe_op op_add (pe_ix (k_ix (K := K) (by rfl)) (pv 1) (pv 7) (fun _ _ => rfl)) pe_int) (pa_cons (pe_op op_sub (pe_ix (k_ix (K := K) (by rfl)) (pv 2) (pv 7) (fun _ _ => rfl)) pe_int) (pa_cons (pe_ix (k_ix (K := K) (by rfl)) (pv 1) (pv 7) (fun _ _ => rfl)) (pa_cons (pe_ix (k_ix (K := K) (by rfl)) (pv 2) (pv 7) (fun _ _ => rfl)) (pa_cons pe_bl (pa_cons pe_non (pa_cons (pe_lst (pa_cons pe_int pa_nil)) (pa_cons (pe_tup (pa_cons pe_int pa_nil)) (pa_cons pe_str (pa_cons (pe_op op_sub pe_int pe_int) (pa_cons pe_int pa_nil)))))))))))) pa_nil))) (pg_sub (pv 5) (pv 7) set_list)))))
    (pss_cons (ps_setLc (i := 8) (own := [("k", 6)]) (g := gName 6) (by rfl) sc__law_shapes_so.nd rfl rfl (sw_true rfl rfl rfl (by decide +kernel)) (pi_range1 (by rfl) T.z_range (pa_cons pe_int pa_nil)) (blkOk_by (own := [("k", 6)]) (N := N__law_shapes_so) (sc := defScope s__law_shapes_so) (by decide +kernel)) (fun _ _ _ _ _ => pg_name (i := 6) sc__law_shapes_so.nd rfl (by first | exact Or.inl rfl | exact Or.inr rfl)) (fun _ _ _ _ _ => (pts_one (pt_not (pt_val (pe_cal C__law_is_number (hr.mono (by first | decide | omega)) (by rfl) (pa_cons (pe_ix (k_ix (K := K) (by rfl)) (pv 5) (pv 6) (fun _ _ => rfl)) (pa_cons (pe_ix (k_ix (K := K) (by rfl)) (pv 2) (pv 6) (fun _ _ => rfl)) (pa_cons (pe_ix (k_ix (K := K) (by rfl)) (pv 1) (pv 6) (fun _ _ => rfl)) pa_nil)))))))) (fun _ _ _ _ _ => (pv 6)))
    (pss_cons (ps_set (i := 9) sc__law_shapes_so.nd rfl (by first | exact Or.inl rfl | exact Or.inr rfl) (pe_ifExp (pt_cmpR (k_eqD (K := K) (by rfl) hr.units) (pv 8) (pe_lst pa_nil) (nomark _)) (pe_callTy (k_list (K := K) (by rfl)) (by rfl) T.z_list (by decide +kernel) (pa_cons (pv 5) pa_nil)) (pe_lst (pa_cons pe_str (pa_cons (pe_ix (k_ix (K := K) (by rfl)) (pv 3) (pe_ix (k_ix (K := K) (by rfl)) (pv 8) pe_int (fun _ _ => rfl)) (fun _ _ => rfl)) pa_nil)))))
    (pss_one (ps_if (pt_not (pt_val (pe_cal C__law_like (hr.mono (by first | decide | omega)) (by rfl) (pa_cons (pe_cal C__law_told_shape (hr.mono (by first | decide | omega)) (by rfl) (pa_cons (pv 5) (pa_cons (pe_cal C__law_draw (hr.mono (by first | decide | omega)) (by rfl) (pa_cons (pv 0) (pa_cons pe_int pa_nil))) pa_nil))) (pa_cons (pv 9) pa_nil)))))
    (pss_one (ps_ret pe_bl))
    pss_nil)))))))
    (pss_one (ps_ret pe_bl)))), ?_⟩
    try simp only [cxK]
    rw [show L2.start N__law_shapes_so [.ref a] = some (.ref a) :: List.replicate (N__law_shapes_so.length - 1) none from rfl]
    simp only [N__law_shapes_so, List.length_cons, List.length_nil, List.replicate]
    walk_at "go"
    rename_i tp htp lo hlo wd hwd tt htt
    have sT := (((same_new htp (o := .lst [V.int 6, V.int 4, V.int 3, V.int 2])).trans (same_new hlo (o := .lst [V.int 2, V.int 1, V.int 1, V.int 1]))).trans (same_new hwd (o := .lst [V.str (Str.ofString "tokens"), V.str (Str.ofString "width"), V.str (Str.ofString "layers"), V.str (Str.ofString "heads")]))).trans (same_new htt (o := .tup [.ref tp, .ref lo, .ref wd]))
    have B4 := bag_sm B sT
    have ntp : tp ≠ a := ne_bag B htp
    have nlo : lo ≠ a := ne_bag (bag_new B htp) hlo
    have nwd : wd ≠ a := ne_bag (bag_new (bag_new B htp) hlo) hwd
    refine forR ⟨fun i σ' H' => ∃ y4 y5 y6 y7 y8 y9, σ' = [some (.ref a), some (.ref tp), some (.ref lo), some (.ref wd), y4, y5, y6, y7, y8, y9] ∧ Bag H' a l ∧ H' tp = some (.lst [V.int 6, V.int 4, V.int 3, V.int 2]) ∧ H' lo = some (.lst [V.int 2, V.int 1, V.int 1, V.int 1]) ∧ H' wd = some (.lst [V.str (Str.ofString "tokens"), V.str (Str.ofString "width"), V.str (Str.ofString "layers"), V.str (Str.ofString "heads")]) ∧ Chg a H H',
      ⟨_, _, _, _, _, _, rfl, B4, by walk_at "h", by walk_at "h", by walk_at "h", sm_chg sT⟩, ?_, ?_⟩
    · rintro i σ' H5 hi ⟨y4, y5, y6, y7, y8, y9, rfl, B5, eT, eL, eW, c5⟩
      walk_at "go"
      refine lcBR (K := K) (S := fun b => b = a) (n := 4) (R := fun _ e => ∃ v : Int, e = .int v ∧ True) B5 rfl (al_bag B5) (by decide) (σ0 := [some (.ref a), some (.ref tp), some (.ref lo), some (.ref wd), some (.int (0 + (i : Int))), y5, none, y7, y8, y9]) rfl (fun j hj => ?_) (fun Z ys es H6 hZ eZ dZ lz hR B6 c6 => ?_)
      · intro D H' N hD nDa nDl B' al' sa' keep tr k1
        have eT' := keep _ _ ntp eT
        have eL' := keep _ _ nlo eL
        obtain ⟨t, u, a1, a2, bd⟩ : ∃ t u : Int, atI [V.int 6, V.int 4, V.int 3, V.int 2] (0 + (j : Int)) = some (.int t) ∧ atI [V.int 2, V.int 1, V.int 1, V.int 1] (0 + (j : Int)) = some (.int u) ∧ 1 ≤ t - u + 1 ∧ t - u + 1 ≤ 10 := by
          rcases j with _ | _ | _ | _ | j
          · exact ⟨6, 2, rfl, rfl, by decide⟩
          · exact ⟨4, 1, rfl, rfl, by decide⟩
          · exact ⟨3, 1, rfl, rfl, by decide⟩
          · exact ⟨2, 1, rfl, rfl, by decide⟩
          · omega
        walk_at "go"
        refine g_drawB B' ⟨bd.1, by omega⟩ fun r H7 _ _ B7 c7 => ?_
        walk_at "go"
        exact k1 _ ⟨_, rfl, trivial⟩ _ _ (.int _) B7 c7
      · obtain ⟨ns, rfl, _⟩ := gather (enc := PyData.int) (R := fun _ => True) hR
        obtain rfl := dqAll_ints dZ
        rw [List.length_map] at lz
        have nZa : Z ≠ a := ne_bag B5 hZ
        have nZl : Z ≠ l := (bag_apart B5 hZ).2
        walk_at "go"
        refine g_drawB B6 ⟨by decide, by decide⟩ fun rr H7 _ _ B7 c7 => ?_
        walk_at "go"
        refine forR ⟨fun i' σ' H' => ∃ y6 y7 xs ds, σ' = [some (.ref a), some (.ref tp), some (.ref lo), some (.ref wd), some (.int (0 + (i : Int))), some (.ref Z), y6, y7, y8, y9] ∧ H' Z = some (.lst xs) ∧ xs.length = 4 ∧ DqAll K (SD (fun b => b = a) Z) H' xs ds ∧ (∀ d ∈ ds, Sz 1 2 20 d) ∧ Bag H' a l ∧ Chg a H5 H',
          ⟨_, _, _, _, rfl, c7 _ _ nZa eZ, by rw [List.length_map]; exact lz, dq_ints ns, fun d hd => by
            obtain ⟨v, _, rfl⟩ := List.mem_map.mp hd
            exact sz_int, B7, c6.trans c7⟩, ?_, ?_⟩
        · rintro i' σ' H8 hi' ⟨y6, y7', xs, ds, rfl, eZ8, l4, d8, sz8, B8, c8⟩
          walk_at "go"
          refine g_drawB B8 ⟨by decide, by decide⟩ fun rt H9 hr0 hr1 B9 c9 => ?_
          have c59 := c8.trans c9
          have eT9 := c59 _ _ ntp eT
          have eL9 := c59 _ _ nlo eL
          have eZ9 := c9 _ _ nZa eZ8
          obtain ⟨j, rfl⟩ : ∃ j : Nat, rt = (j : Int) := ⟨rt.toNat, by omega⟩
          obtain ⟨t, u, a1, a2⟩ : ∃ t u : Int, atI [V.int 6, V.int 4, V.int 3, V.int 2] (j : Int) = some (.int t) ∧ atI [V.int 2, V.int 1, V.int 1, V.int 1] (j : Int) = some (.int u) := by
            rcases j with _ | _ | _ | _ | j
            · exact ⟨6, 2, rfl, rfl⟩
            · exact ⟨4, 1, rfl, rfl⟩
            · exact ⟨3, 1, rfl, rfl⟩
            · exact ⟨2, 1, rfl, rfl⟩
            · omega
          walk_at "go"
          rename_i o1 ho1 o2 ho2 pp hpp
          have al9 : Al (SD (fun b => b = a) Z) H9 := al_sd (al_bag B9) (by rw [eZ9]; exact fun z => by cases z)
          have s12 := (same_new ho1 (o := .lst [V.int 1])).trans (same_new ho2 (o := .tup [V.int 2]))
          have n1 := al9.no ho1
          have n2 := (al9.sm (same_new ho1)).no ho2
          have B12 := bag_sm B9 s12
          refine g_of (bag_new B12 hpp) upd_same (ne_bag B12 hpp) ⟨by simp, by simp⟩ fun v H10 hv B10 c10 => ?_
          have c910 := ((sm_chg s12).trans (Chg.new (a := a) hpp)).trans c10
          have sza : SD (fun b => b = a) Z a := .inl rfl
          have no : ∀ {b : Addr}, ¬ SD (fun b => b = a) Z b → b ≠ a := fun h e => h (.inl e)
          obtain ⟨dv, hdv, szv⟩ : ∃ dv, Dq K (SD (fun b => b = a) Z) H10 v dv ∧ Sz 1 2 20 dv := by
            simp only [List.mem_cons, List.not_mem_nil, or_false] at hv
            rcases hv with rfl | rfl | rfl | rfl | rfl | rfl | rfl | rfl | rfl | rfl | rfl
            · exact ⟨_, .int _, sz_int⟩
            · exact ⟨_, .int _, sz_int⟩
            · exact ⟨_, .int _, sz_int⟩
            · exact ⟨_, .int _, sz_int⟩
            · exact ⟨_, .bl _, ⟨rfl, rfl⟩⟩
            · exact ⟨_, .non, ⟨rfl, rfl⟩⟩
            · exact ⟨_, dq_new n1 (c10 _ _ (no n1) (by walk_at "h")) (.cons (.int 1) .nil), ⟨rfl, rfl⟩⟩
            · exact ⟨_, dq_newT n2 (c10 _ _ (no n2) (by walk_at "h")) (.cons (.int 2) .nil), ⟨rfl, rfl⟩⟩
            · exact ⟨_, .str _, sz_str (by decide +kernel) (by decide +kernel)⟩
            · exact ⟨_, .int _, sz_int⟩
            · exact ⟨_, .int _, sz_int⟩
          have eZ10 := c910 _ _ nZa eZ9
          walk_at "go"
          refine g_setL eZ10 (show ixN xs.length (j : Int) = some j by unfold ixN; simp; omega) ?_
          have cS : ChgS (SD (fun b => b = a) Z) H10 (upd H10 Z (.lst (xs.set j v))) := fun b o n e => by rw [upd_ne (fun z => n (.inr z))]; exact e
          refine ⟨_, _, xs.set j v, ds.set j dv, rfl, upd_same, by rw [List.length_set]; exact l4, (((d8.chg (toS c9 sza)).chg (toS c910 sza)).chg cS).set (hdv.chg cS) j, fun d hd => ?_, bag_chg B10 nZa nZl, fun b o n e => ?_⟩
          · rcases List.mem_or_eq_of_mem_set hd with hd | rfl
            · exact sz8 d hd
            · exact szv
          · rw [upd_ne (ne_of_none e hZ)]
            exact c910 b o n (c59 b o n e)
        · rintro σ' H8 ⟨y6, y7', xs, ds, rfl, eZ8, l4, d8, sz8, B8, c8⟩
          obtain ⟨x1, x2, x3, x4, d1, d2, d3, d4, rfl, rfl, q1, q2, q3, q4⟩ := dqAll4' d8 l4
          have eT8 := c8 _ _ ntp eT
          have eL8 := c8 _ _ nlo eL
          have eW8 := c8 _ _ nwd eW
          walk_at "go"
          have atx : ∀ (j : Nat) (x : V) (dx : PyData) (lo' hi' : Int), True := fun _ _ _ _ _ => trivial
          have step1 : ∀ (j : Nat) (x : V) (dx : PyData) (u' t' : Int), atI [x1, x2, x3, x4] (0 + (j : Int)) = some x → atI [V.int 6, V.int 4, V.int 3, V.int 2] (0 + (j : Int)) = some (.int t') → atI [V.int 2, V.int 1, V.int 1, V.int 1] (0 + (j : Int)) = some (.int u') → Dq K FS H8 x dx →
              StepQ K FS H8 (gName 6) (tNot (tB (tCall (spIsN K) [] E0 (tCons (tOp (qIx K) (tVar 5) (tVar 6)) (tCons (tOp (qIx K) (tVar 2) (tVar 6)) (tCons (tOp (qIx K) (tVar 1) (tVar 6)) tNil)))))) (tVar 6) (List.map (fun x => x.snd) [(Str.ofString "k", 6)])
                [some (.ref a), some (.ref tp), some (.ref lo), some (.ref wd), some (.int (0 + (i : Int))), some (.ref Z), none, y7', y8, y9] (.int (0 + (j : Int))) (if numD dx u' t' = true then none else some (.int (0 + (j : Int)))) := by
            intro j x dx u' t' a0 a1 a2 hdx D H' N hD s' al' tr k1 k2
            have eZ' := s' _ _ eZ8
            have eT' := s' _ _ eT8
            have eL' := s' _ _ eL8
            walk_at "go"
            refine g_isNumQ (hdx.sm s').dp ?_
            cases hn : numD dx u' t' with
            | true =>
              rw [hn, if_pos rfl] at k2
              walk_at "go"
              exact k2 rfl _ fun _ _ e => e
            | false =>
              rw [hn, if_neg Bool.false_ne_true] at k1
              walk_at "go"
              refine g_turnCb (fun _ => ?_) (fun h => by cases h)
              walk_at "go"
              exact k1 _ rfl _ _ (.int _) fun _ _ e => e
          refine lcQR (K := K) (S := FS) (os := osS d1 d2 d3 d4) al_F (by show 4 ≤ 1000; decide) rfl (σ0 := [some (.ref a), some (.ref tp), some (.ref lo), some (.ref wd), some (.int (0 + (i : Int))), some (.ref Z), none, y7', y8, y9]) rfl (fun j o ho => ?_) (fun W ys H9 hW eW9 dW s9 => ?_)
          · rcases j with _ | _ | _ | _ | j
            · obtain rfl := Option.some.inj ho
              exact step1 0 x1 d1 2 6 rfl rfl rfl q1.fs
            · obtain rfl := Option.some.inj ho
              exact step1 1 x2 d2 1 4 rfl rfl rfl q2.fs
            · obtain rfl := Option.some.inj ho
              exact step1 2 x3 d3 1 3 rfl rfl rfl q3.fs
            · obtain rfl := Option.some.inj ho
              exact step1 3 x4 d4 1 2 rfl rfl rfl q4.fs
            · simp [osS] at ho
          · rw [os_wl] at dW
            obtain rfl := dqAll_ints dW
            have sz1 := sz8 d1 (by simp)
            have sz2 := sz8 d2 (by simp)
            have sz3 := sz8 d3 (by simp)
            have sz4 := sz8 d4 (by simp)
            have B9 := bag_sm B8 s9
            have c59 := c8.trans (sm_chg s9)
            have eZ9 := s9 _ _ eZ8
            have eW2 := s9 _ _ eW8
            walk_at "go"
            rename_i e1 he1
            have sE := same_new he1 (o := .lst [])
            refine g_eqDI (b := []) (.of (sE _ _ eW9)) (.of upd_same) ?_
            rcases wl_shp d1 d2 d3 d4 with ⟨w0, sh0⟩ | ⟨k', rs, z, w0, rs3, atz, sh0⟩
            · rw [w0, decide_eq_true rfl]
              have eZe := sE _ _ eZ9
              have Be := bag_new (o := .lst []) B9 he1
              have s9e := s9.trans sE
              have c5e := c59.trans (sm_chg sE)
              generalize upd H9 e1 (.lst []) = H10 at eZe Be s9e c5e ⊢
              walk_at "go"
              rename_i L hL
              have sL := same_new hL (o := .lst [x1, x2, x3, x4])
              refine g_drawB (bag_new Be hL) ⟨by decide, by decide⟩ fun wy H11 _ _ B11 c11 => ?_
              have nLa : L ≠ a := ne_bag Be hL
              have eL11 := c11 _ _ nLa (upd_same (H := H10) (a := L) (o := .lst [x1, x2, x3, x4]))
              have c10 := (sm_chg (a := a) sL).trans c11
              have eZ11 := c10 _ _ nZa eZe
              have k8 : ChgS (SD (fun b => b = a) Z) H8 H11 := (toS ((sm_chg s9e).trans c10) (.inl rfl))
              have p1 := (q1.chg k8).fs
              have p2 := (q2.chg k8).fs
              have p3 := (q3.chg k8).fs
              have p4 := (q4.chg k8).fs
              walk_at "go"
              refine ⟨Z, wy, x1, x2, x3, x4, d1, d2, d3, d4, rfl, eZ11, p1, p2, p3, p4, fun y H12 hy s12 => ?_⟩
              have eT2 : toldS d1 d2 d3 d4 = .list [d1, d2, d3, d4] := by
                unfold toldS
                rw [sh0]
              rw [eT2] at hy
              walk_at "go"
              refine g_likeD hy.dp (.lst (.of (s12 _ _ eL11)) (.cons (p1.sm s12).dp (.cons (p2.sm s12).dp (.cons (p3.sm s12).dp (.cons (p4.sm s12).dp .nil))))) ?_ ?_ fun H13 s13 => ?_
              · simp only [PyData.depth, PyData.depthAll]
                have b1 := bnd_depth sz1.b
                have b2 := bnd_depth sz2.b
                have b3 := bnd_depth sz3.b
                have b4 := bnd_depth sz4.b
                omega
              · simp only [smallD, smallAll, bnd_small sz1.b (by decide), bnd_small sz2.b (by decide), bnd_small sz3.b (by decide), bnd_small sz4.b (by decide), Bool.and_true, List.length_cons, List.length_nil]
                rfl
              · walk_at "go"
                have cZ := (c5e.trans c10).trans (sm_chg (s12.trans s13))
                exact ⟨_, _, _, _, _, _, rfl, bag_sm B11 (s12.trans s13), cZ _ _ ntp eT, cZ _ _ nlo eL, cZ _ _ nwd eW, c5.trans cZ⟩
            · rw [w0, decide_eq_false (by exact fun z => by cases z)]
              rw [w0] at eW9
              have eZe := sE _ _ eZ9
              have eWe := sE _ _ eW9
              have eW3 := sE _ _ eW2
              have Be := bag_new (o := .lst []) B9 he1
              have s9e := s9.trans sE
              have c5e := c59.trans (sm_chg sE)
              generalize upd H9 e1 (.lst []) = H10 at eZe eWe eW3 Be s9e c5e ⊢
              rw [List.map_cons] at eWe
              walk_at "go"
              rename_i L hL
              have sL := same_new hL (o := .lst [V.str (Str.ofString "InvalidSetting"), .str z])
              refine g_drawB (bag_new Be hL) ⟨by decide, by decide⟩ fun wy H11 _ _ B11 c11 => ?_
              have nLa : L ≠ a := ne_bag Be hL
              have eL11 := c11 _ _ nLa (upd_same (H := H10) (a := L) (o := .lst [V.str (Str.ofString "InvalidSetting"), .str z]))
              have c10 := (sm_chg (a := a) sL).trans c11
              have eZ11 := c10 _ _ nZa eZe
              have k8 : ChgS (SD (fun b => b = a) Z) H8 H11 := (toS ((sm_chg s9e).trans c10) (.inl rfl))
              have p1 := (q1.chg k8).fs
              have p2 := (q2.chg k8).fs
              have p3 := (q3.chg k8).fs
              have p4 := (q4.chg k8).fs
              walk_at "go"
              refine ⟨Z, wy, x1, x2, x3, x4, d1, d2, d3, d4, rfl, eZ11, p1, p2, p3, p4, fun y H12 hy s12 => ?_⟩
              have eT2 : toldS d1 d2 d3 d4 = .list [.str (Str.ofString "InvalidSetting"), .str z] := by
                unfold toldS
                rw [sh0]
              rw [eT2] at hy
              walk_at "go"
              refine g_likeD hy.dp (.lst (.of (s12 _ _ eL11)) (.cons (.str _) (.cons (.str _) .nil))) (by simp [PyData.depth, PyData.depthAll]) (by rfl) fun H13 s13 => ?_
              walk_at "go"
              have cZ := (c5e.trans c10).trans (sm_chg (s12.trans s13))
              exact ⟨_, _, _, _, _, _, rfl, bag_sm B11 (s12.trans s13), cZ _ _ ntp eT, cZ _ _ nlo eL, cZ _ _ nwd eW, c5.trans cZ⟩
    · rintro σ' H' ⟨y4, y5, y6, y7, y8, y9, rfl, B5, _, _, _, c5⟩
      walk_at "go"
      exact q _ B5 c5
theorem c_ss (T : Top K mg) : Cal P w K mg base "_law_shapes_so" 8 P__law_shapes_so (spSS K) := cal_mk T.f__law_shapes_so (ok_ss T) (fun F => F.bindsN fun _ _ _ _ _ _ us hl => match us, hl with | [_], _ => rfl)
end

set_option Elab.async false
set_option linter.all false
set_option maxRecDepth 100000
set_option maxHeartbeats 4000000
open PySem PySem.Spec L2





section
variable {P : Program} {w : World} {K : PySem.W.Frag} {mg : Str → Option Value} {base : Heap}
/-! law -/
def Lf : Nat → Nat
  | 0 => 20
  | i + 1 => 2 * Lf i + 2
theorem lf_le : ∀ i : Nat, i ≤ 3 → 3 ≤ Lf i ∧ Lf i ≤ 300 := by decide
theorem sz_pt {n k : Nat} {pt : Pt} (ok : PtOk n k pt) : ∀ d ∈ [.str pt.tk, .int pt.cap, dG pt.tr, dG pt.pr, .list (pt.ly.map dLL), dG pt.ou, dI pt.ba], Sz 7 20 20 d := by
  have n4 := ok.n4.2
  have k2 := ok.k2.2
  have tk6 := (tk_len ok).2
  have tkok : Sz 7 20 20 (.str pt.tk) := by
    refine sz_str ?_ (by omega)
    have ez : sOf pt.tk.cps.toList = pt.tk := by cases pt.tk; rfl
    rw [← ez, strOk_s]
    intro c hc
    have := ok.tk
    rw [toks_law, Bool.and_eq_true, Bool.and_eq_true, List.all_eq_true] at this
    have z : (decide (c ∈ sgn) && decide (pt.tk.cps.toList.count c = 1)) = true := this.2.2 _ (List.mem_map.mpr ⟨c, hc, rfl⟩)
    rw [Bool.and_eq_true] at z
    have fin : ∀ c ∈ sgn, c < 0x110000 := by decide +kernel
    exact fin c (of_decide_eq_true z.1)
  have zt : Sz 7 20 20 (dG pt.tr) := (sz_dG (m := 8) (fun r hr => by rw [(ok.tr.2 r hr).1]; omega) (by rw [ok.tr.1]; omega)).mono (by decide) (by decide) (by decide)
  have zp : Sz 7 20 20 (dG pt.pr) := (sz_dG (m := 8) (fun r hr => by rw [(ok.pr.2.2 r hr).1]; omega) (by have := ok.pr.2.1; omega)).mono (by decide) (by decide) (by decide)
  have zl : Sz 7 20 20 (.list (pt.ly.map dLL)) := (sz_map (fun y hy => sz_dLL (ok.ly.2.2 y hy) n4 k2) (by have := ok.ly.2.1; omega)).mono (by decide) (by decide) (by decide)
  have zo : Sz 7 20 20 (dG pt.ou) := (sz_dG (m := 8) (fun r hr => by rw [(ok.ou.2 r hr).1]; omega) (by rw [ok.ou.1]; omega)).mono (by decide) (by decide) (by decide)
  have zb : Sz 7 20 20 (dI pt.ba) := (sz_dI (m := 8) (by rw [ok.ba.1]; omega)).mono (by decide) (by decide) (by decide)
  intro d hd
  simp only [List.mem_cons, List.not_mem_nil, or_false] at hd
  rcases hd with rfl | rfl | rfl | rfl | rfl | rfl | rfl
  · exact tkok
  · exact sz_int
  · exact zt
  · exact zp
  · exact zl
  · exact zo
  · exact zb
theorem len7 {ds : List PyData} (h : ds.length = 7) : ∃ t c tr pr ly ou b, ds = [t, c, tr, pr, ly, ou, b] := by
  match ds, h with
  | [t, c, tr, pr, ly, ou, b], _ => exact ⟨t, c, tr, pr, ly, ou, b, rfl⟩
mutual
theorem bnd_frz : ∀ {d : PyData} {n m : Nat}, bndD n m d = true → bndD n m (frzD d) = true
  | .list ds, n, m, h => by
    obtain ⟨h1, h2, h3⟩ := bnd_list.mp h
    refine (show bndD n m (.tuple (frzAll ds)) = true from bnd_tup.mpr ⟨h1, by rw [frzAll_map, List.length_map]; exact h2, ?_⟩)
    exact bnd_frzs h3
  | .tuple ds, n, m, h => by
    obtain ⟨h1, h2, h3⟩ := bnd_tup.mp h
    refine (show bndD n m (.tuple (frzAll ds)) = true from bnd_tup.mpr ⟨h1, by rw [frzAll_map, List.length_map]; exact h2, ?_⟩)
    exact bnd_frzs h3
  | .none, _, _, h => h
  | .bool _, _, _, h => h
  | .int _, _, _, h => h
  | .str _, _, _, h => h
  | .dict _, _, _, h => h
theorem bnd_frzs : ∀ {ds : List PyData} {n m : Nat}, (∀ d ∈ ds, bndD n m d = true) → ∀ d ∈ frzAll ds, bndD n m d = true
  | [], _, _, _, d, hd => absurd hd List.not_mem_nil
  | e :: ds, n, m, h, d, hd => by
    rcases List.mem_cons.mp (show d ∈ frzD e :: frzAll ds from hd) with hd | hd
    · rw [hd]
      exact bnd_frz (h e List.mem_cons_self)
    · exact bnd_frzs (fun d hd => h d (List.mem_cons_of_mem _ hd)) d hd
end
mutual
theorem strB_frz {L : Nat} : ∀ {d : PyData}, strB L d = true → strB L (frzD d) = true
  | .list ds, h => strBs_frz (ds := ds) h
  | .tuple ds, h => strBs_frz (ds := ds) h
  | .none, h => h
  | .bool _, h => h
  | .int _, h => h
  | .str _, h => h
  | .dict _, h => h
theorem strBs_frz {L : Nat} : ∀ {ds : List PyData}, strBs L ds = true → strBs L (frzAll ds) = true
  | [], _ => rfl
  | d :: ds, h => by
    have h : (strB L d && strBs L ds) = true := h
    rw [Bool.and_eq_true] at h
    show (strB L (frzD d) && strBs L (frzAll ds)) = true
    rw [strB_frz h.1, strBs_frz h.2]
    rfl
end
theorem sz_frz {N m L : Nat} {d : PyData} (h : Sz N m L d) : Sz N m L (frzD d) := ⟨bnd_frz h.b, strB_frz h.s⟩
def spLaw (K : PySem.W.Frag) : Sp := fun vs H Q _ => ∃ (a : Addr) (ns : List Int), vs = [.ref a] ∧ SqL K H a (ns.map V.int) ∧ ns.length ≤ 63 ∧ ∀ H', Q (.bl true) H'
theorem ok_law (T : Top K mg) {f : Addr} {fd : FuncData} (F : FnP K "law" s_law f fd) : FnOk P w K mg base CX0 22 f fd P_law (spLaw K) := by
  have C__law_bag := c_bag (P := P) (w := w) (base := base) T
  have C__law_draw := c_draw1 (P := P) (w := w) (base := base) T
  have C__law_of := c_of (P := P) (w := w) (base := base) T
  have C__law_shapes_so := c_ss (P := P) (w := w) (base := base) T
  have C__law_parts := c_partsL (P := P) (w := w) (base := base) T
  have C__law_lists := c_lst (P := P) (w := w) (base := base) T 8
  have C__law_frozen := c_lfz (P := P) (w := w) (base := base) T 16
  have C__law_unfit := c_unfit (P := P) (w := w) (base := base) T
  have C__law_bend := c_bend (P := P) (w := w) (base := base) T 7
  have C__law_deep := c_deep (P := P) (w := w) (base := base) T 12
  have C__law_free := c_free (P := P) (w := w) (base := base) T
  have C__law_net_so := c_so (P := P) (w := w) (base := base) T
  refine F.ok sc_law (fun vs H Q E h => ?_) (fun cdv A outer s H vs Q E hr h => ?_)
  · obtain ⟨a, ns, rfl, _⟩ := h
    rfl
  · obtain ⟨s0, ns, rfl, hS, hlen, q⟩ := h
    refine ⟨_, PSs.nox (pss_cons (ps_set (i := 1) sc_law.nd rfl (by first | exact Or.inl rfl | exact Or.inr rfl) (pe_cal C__law_bag (hr.mono (by first | decide | omega)) (by rfl) (pa_cons (pv 0) pa_nil)))
    (pss_cons (ps_for PassesOwn.never rfl (pi_range1 (by rfl) T.z_range (pa_cons pe_int pa_nil)) (pg_name (i := 2) sc_law.nd rfl (by first | exact Or.inl rfl | exact Or.inr rfl))
    (pss_cons (ps_set (i := 3) sc_law.nd rfl (by first | exact Or.inl rfl | exact Or.inr rfl) (pe_cal C__law_parts (hr.mono (by first | decide | omega)) (by rfl) (pa_cons (pv 1) pa_nil)))
    (pss_cons (ps_for PassesOwn.never rfl (pi_range1 (by rfl) T.z_range (pa_cons pe_int pa_nil)) (pg_name (i := 4) sc_law.nd rfl (by first | exact Or.inl rfl | exact Or.inr rfl))
    (pss_cons (ps_set (i := 5) sc_law.nd rfl (by first | exact Or.inl rfl | exact Or.inr rfl) (pe_cal C__law_lists (hr.mono (by first | decide | omega)) (by rfl) (pa_cons (pv 3) pa_nil)))
    (C8.pss_cut (ps_if (pt_cmpR op_eq (pe_cal C__law_draw (hr.mono (by first | decide | omega)) (by rfl) (pa_cons (pv 1) (pa_cons pe_int pa_nil))) pe_int (nomark _))
    (pss_one (ps_expr (pe_cal C__law_unfit (hr.mono (by first | decide | omega)) (by rfl) (pa_cons (pv 1) (pa_cons (pv 5) pa_nil)))))
    pss_nil)
    (pss_cons (ps_for PassesOwn.never rfl (pi_range1 (by rfl) T.z_range (pa_cons (pe_cal C__law_of (hr.mono (by first | decide | omega)) (by rfl) (pa_cons (pv 1) (pa_cons (pe_lst (pa_cons pe_int (pa_cons pe_int (pa_cons pe_int (pa_cons pe_int (pa_cons pe_int (pa_cons pe_int pa_nil))))))) pa_nil))) pa_nil)) (pg_name (i := 6) sc_law.nd rfl (by first | exact Or.inl rfl | exact Or.inr rfl))
    (pss_cons (ps_set (i := 7) sc_law.nd rfl (by first | exact Or.inl rfl | exact Or.inr rfl) (pe_cal C__law_of (hr.mono (by first | decide | omega)) (by rfl) (pa_cons (pv 1) (pa_cons (pe_lst (pa_cons pe_int (pa_cons pe_int (pa_cons pe_int (pa_cons pe_int (pa_cons pe_int (pa_cons pe_int (pa_cons pe_int (pa_cons pe_int pa_nil))))))))) pa_nil))))
    (pss_one (ps_asg (pe_ifExp (PW.pt (pw_and (pt_cmpR op_gt (pv 7) pe_int (nomark _)) (pw_and1 (pt_val (pe_cal C__law_free (hr.mono (by first | decide | omega)) (by rfl) (pa_cons (pv 1) (pa_cons pe_int pa_nil))))))) (pe_cal C__law_deep (hr.mono (by first | decide | omega)) (by rfl) (pa_cons (pv 1) (pa_cons (pe_ix (k_ix (K := K) (by rfl)) (pv 5) (pv 7) (fun _ _ => rfl)) pa_nil))) (pe_cal C__law_bend (hr.mono (by first | decide | omega)) (by rfl) (pa_cons (pv 1) (pa_cons (pe_ix (k_ix (K := K) (by rfl)) (pv 5) (pv 7) (fun _ _ => rfl)) (pa_cons pe_int pa_nil))))) (pg_sub (pv 5) (pv 7) set_list)))))
    (pss_cons (ps_par (i := 8) (j := 9) (by rfl) sc_law.nd rfl rfl (by decide) rfl rfl (pa_cons (pe_cal C__law_frozen (hr.mono (by first | decide | omega)) (by rfl) (pa_cons (pv 5) pa_nil)) (pa_cons (pe_cal C__law_draw (hr.mono (by first | decide | omega)) (by rfl) (pa_cons (pv 1) (pa_cons pe_int pa_nil))) pa_nil)) (by rfl))
    (pss_one (ps_if (PW.pt (pw_or (pt_not (pt_val (pe_cal C__law_net_so (hr.mono (by first | decide | omega)) (by rfl) (pa_cons (pv 5) (pa_cons (pv 9) pa_nil))))) (pw_or (pt_cmpR (k_neD (K := K) (by rfl) hr.units) (pe_cal C__law_frozen (hr.mono (by first | decide | omega)) (by rfl) (pa_cons (pv 5) pa_nil)) (pv 8) (nomark _)) (pw_or1 (pt_not (pt_val (pe_cal C__law_net_so (hr.mono (by first | decide | omega)) (by rfl) (pa_cons (pe_callTy (k_list (K := K) (by rfl)) (by rfl) T.z_list (by decide +kernel) (pa_cons (pv 8) pa_nil)) (pa_cons (pv 9) pa_nil)))))))))
    (pss_one (ps_ret pe_bl))
    pss_nil)))))))
    (pss_one (ps_if (PW.pt (pw_or (pt_not (pt_val (pe_cal C__law_net_so (hr.mono (by first | decide | omega)) (by rfl) (pa_cons (pv 3) (pa_cons pe_int pa_nil))))) (pw_or1 (pt_not (pt_val (pe_cal C__law_shapes_so (hr.mono (by first | decide | omega)) (by rfl) (pa_cons (pv 1) pa_nil)))))))
    (pss_one (ps_ret pe_bl))
    pss_nil)))))
    (pss_one (ps_ret pe_bl)))), ?_⟩
    try simp only [cxK]
    rw [show L2.start N_law [V.ref s0] = some (.ref s0) :: List.replicate (N_law.length - 1) none from rfl]
    simp only [N_law, List.length_cons, List.length_nil, List.replicate]
    walk_at "go"
    refine ⟨s0, ns, rfl, hS, fun a l H1 B1 _ s1 => ?_⟩
    walk_at "go"
    refine forR ⟨fun i σ' H' => ∃ y2 y3 y4 y5 y6 y7 y8 y9, σ' = [some (.ref s0), some (.ref a), y2, y3, y4, y5, y6, y7, y8, y9] ∧ Bag H' a l, ⟨_, _, _, _, _, _, _, _, rfl, B1⟩, ?_, ?_⟩
    · rintro i σ' H2 hi ⟨y2, y3, y4, y5, y6, y7, y8, y9, rfl, B2⟩
      walk_at "go"
      refine g_partsX B2 fun py pt n k A H3 dxP nwP ok B3 c3 => ?_
      have hv3 : Dq K (fun b => b = a) H3 py (dPt pt) := dxP.dq fun z hz e => nwP.ne B2 z hz e
      have szp := sz_pt ok
      have szP : Sz 8 20 20 (dPt pt) := sz_list.mpr ⟨by decide, by simp, szp⟩
      walk_at "go"
      refine forR ⟨fun j σ' H' => ∃ y4 y5 y6 y7 y8 y9, σ' = [some (.ref s0), some (.ref a), some (.int (0 + (i : Int))), some py, y4, y5, y6, y7, y8, y9] ∧ Bag H' a l ∧ Chg a H3 H', ⟨_, _, _, _, _, _, rfl, B3, Chg.refl⟩, ?_, ?_⟩
      · rintro j σ' H4 hj ⟨y4, y5, y6, y7, y8, y9, rfl, B4, c4⟩
        have hv4 := hv3.chg (toS (S := fun b => b = a) c4 rfl)
        walk_at "go"
        refine g_lstX hv4 (al_bag B4) (bnd_depth szP.b) (small_dPt ok) fun p0 H5 A2 dx5 nw5 s5 => ?_
        rw [lst_dPt] at dx5
        obtain ⟨P', xs0, C0, rfl, rfl, eP5, hA5, nPC⟩ := dx5.list_inv
        have naA : a ∉ P' :: C0 := fun z => bag_some B4 (nw5 _ z)
        have nlA : l ∉ P' :: C0 := fun z => by
          obtain ⟨_, _, _, _, _, _, e, _⟩ := B4
          rw [nw5 _ z] at e
          cases e
        have nPa : P' ≠ a := fun z => naA (by rw [← z]; exact List.mem_cons_self)
        have nPl : P' ≠ l := fun z => nlA (by rw [← z]; exact List.mem_cons_self)
        have nP4 : H4 P' = none := nw5 _ List.mem_cons_self
        have B5 := bag_sm B4 s5
        have sza : Ps a P' a := .inl rfl
        have nS5 : ∀ z ∈ C0, ¬ Ps a P' z := fun z hz q => q.elim (fun e => naA (by rw [← show z = a from e]; exact List.mem_cons_of_mem _ hz)) (fun e => nPC (by rw [← e]; exact hz))
        walk_at "go"
        refine g_cut (fun σ' H' => σ' = [some (.ref s0), some (.ref a), some (.int (0 + (i : Int))), some py, some (.int (0 + (j : Int))), some (.ref P'), y6, y7, y8, y9] ∧ ∃ xs ds, H' P' = some (.lst xs) ∧ DqAll K (Ps a P') H' xs ds ∧ ds.length = 7 ∧ (∀ d ∈ ds, Sz 7 20 20 d) ∧ Bag H' a l ∧ Chg a H4 H') ?_ ?_
        · walk_at "go"
          refine g_drawB B5 ⟨by decide, by decide⟩ fun r6 H6 _ _ B6 c6 => ?_
          have dx6 : Dx H6 (.ref P') (dPt pt) (P' :: C0) := dx5.chg (fun z hz e => naA (by rw [← e]; exact hz)) c6
          have c46 : Chg a H4 H6 := (sm_chg s5).trans c6
          walk_at "go"
          by_cases r60 : r6 = 0
          · rw [decide_eq_true r60]
            walk_at "go"
            refine ⟨a, l, P', pt, n, k, P' :: C0, rfl, B6, dx6, naA, nlA, ok, fun xs ds H7 h1 h2 h3 h4 _ B7 fr => ?_⟩
            refine ⟨rfl, xs, ds, h1, h2, h3, h4, B7, fun b o nb e => fr b o nb (fun z => ?_) (c46 b o nb e)⟩
            rw [nw5 b z] at e
            cases e
          · rw [decide_eq_false r60]
            walk_at "go"
            have hA6 := hA5.keep fun z hz o e => c6 z o (fun y => naA (by rw [← y]; exact List.mem_cons_of_mem _ hz)) e
            exact ⟨rfl, xs0, _, c6 _ _ nPa eP5, hA6.dq nS5, rfl, szp, B6, c46⟩
        rintro σ' H7 ⟨rfl, xs, ds, eP7, d7, l7, sz7, B7, c7⟩
        walk_at "go"
        rename_i pl hpl
        refine g_of (bag_new B7 hpl) upd_same (ne_bag B7 hpl) ⟨by simp, by simp⟩ fun v H8 hv B8 c8 => ?_
        have c78 := (Chg.new (a := a) (o := .lst [V.int 0, V.int 1, V.int 1, V.int 1, V.int 2, V.int 3]) hpl).trans c8
        obtain ⟨cn, rfl, cn3⟩ : ∃ cn : Nat, v = .int (cn : Nat) ∧ cn ≤ 3 := by
          simp only [List.mem_cons, List.not_mem_nil, or_false] at hv
          rcases hv with rfl | rfl | rfl | rfl | rfl | rfl
          · exact ⟨0, rfl, by decide⟩
          · exact ⟨1, rfl, by decide⟩
          · exact ⟨1, rfl, by decide⟩
          · exact ⟨1, rfl, by decide⟩
          · exact ⟨2, rfl, by decide⟩
          · exact ⟨3, rfl, by decide⟩
        walk_at "go"
        rw [Int.toNat_natCast]
        refine forR ⟨fun e σ' H' => ∃ y6 y7, σ' = [some (.ref s0), some (.ref a), some (.int (0 + (i : Int))), some py, some (.int (0 + (j : Int))), some (.ref P'), y6, y7, y8, y9] ∧ e ≤ 3 ∧ ∃ xs ds, H' P' = some (.lst xs) ∧ DqAll K (Ps a P') H' xs ds ∧ ds.length = 7 ∧ (∀ d ∈ ds, Sz (7 + e) (20 + e) (Lf e) d) ∧ Bag H' a l ∧ Chg a H4 H',
          ⟨_, _, rfl, Nat.zero_le _, xs, ds, c78 _ _ nPa eP7, d7.chg (toS c78 sza), l7, sz7, B8, c7.trans c78⟩, ?_, ?_⟩
        · rintro e σ' H9 he ⟨y6', y7', rfl, e3, xs9, ds9, eP9, d9, l9, sz9, B9, c9⟩
          have lf := lf_le e e3
          have lx9 := d9.len
          walk_at "go"
          rename_i pm hpm
          refine g_of (bag_new B9 hpm) upd_same (ne_bag B9 hpm) ⟨by simp, by simp⟩ fun v H10 hv B10 c10 => ?_
          have c910 := (Chg.new (a := a) (o := .lst [V.int 0, V.int 1, V.int 2, V.int 3, V.int 4, V.int 4, V.int 5, V.int 6]) hpm).trans c10
          obtain ⟨m, rfl, m6⟩ : ∃ m : Nat, v = .int (m : Nat) ∧ m ≤ 6 := by
            simp only [List.mem_cons, List.not_mem_nil, or_false] at hv
            rcases hv with rfl | rfl | rfl | rfl | rfl | rfl | rfl | rfl
            · exact ⟨0, rfl, by decide⟩
            · exact ⟨1, rfl, by decide⟩
            · exact ⟨2, rfl, by decide⟩
            · exact ⟨3, rfl, by decide⟩
            · exact ⟨4, rfl, by decide⟩
            · exact ⟨4, rfl, by decide⟩
            · exact ⟨5, rfl, by decide⟩
            · exact ⟨6, rfl, by decide⟩
          have eP10 := c910 _ _ nPa eP9
          have d10 := d9.chg (toS c910 sza)
          have ml : m < xs9.length := by omega
          have hm : xs9[m]? = some xs9[m] := List.getElem?_eq_getElem ml
          have at1 : atI xs9 (m : Int) = some xs9[m] := at_pos (by omega) (by rw [Int.toNat_natCast]; exact hm)
          obtain ⟨dm, hdm, qm⟩ := d10.at hm
          have szm := sz9 dm (List.mem_of_getElem? hdm)
          have al10 : Al (Ps a P') H10 := al_sd (al_bag B10) (by rw [eP10]; exact fun z => by cases z)
          have put : ∀ (y : V) (d' : PyData) (H11 : Hp), Dq K (Ps a P') H11 y d' → Sz (7 + (e + 1)) (20 + (e + 1)) (Lf (e + 1)) d' → Bag H11 a l → Chg a H10 H11 →
              ∃ xs ds, (upd H11 P' (.lst (xs9.set m y))) P' = some (.lst xs) ∧ DqAll K (Ps a P') (upd H11 P' (.lst (xs9.set m y))) xs ds ∧ ds.length = 7 ∧ (∀ d ∈ ds, Sz (7 + (e + 1)) (20 + (e + 1)) (Lf (e + 1)) d) ∧ Bag (upd H11 P' (.lst (xs9.set m y))) a l ∧ Chg a H4 (upd H11 P' (.lst (xs9.set m y))) := by
            intro y d' H11 hy hz B11 c11
            have cS : ChgS (Ps a P') H11 (upd H11 P' (.lst (xs9.set m y))) := fun b o nb q => by rw [upd_ne (fun z => nb (.inr z))]; exact q
            refine ⟨_, ds9.set m d', upd_same, ((d10.chg (toS c11 sza)).chg cS).set (hy.chg cS) m, by rw [List.length_set]; exact l9, fun d hd => ?_, bag_chg B11 nPa nPl, fun b o nb q => ?_⟩
            · rcases List.mem_or_eq_of_mem_set hd with hd | rfl
              · exact (sz9 d hd).mono (by omega) (by omega) (by show Lf e ≤ 2 * Lf e + 2; omega)
              · exact hz
            · rw [upd_ne (ne_of_none q nP4)]
              exact c11 b o nb (c910 b o nb (c9 b o nb q))
          have bend : ∀ (Q2 : VK), (∀ (y : V) (H11 : Hp), (∃ d', Dq K (Ps a P') H11 y d' ∧ Sz (7 + (e + 1)) (20 + (e + 1)) (Lf (e + 1)) d') → Bag H11 a l → Chg a H10 H11 → Q2 y H11) → spBend K 7 [.ref a, xs9[m], .int 6] H10 Q2 E0 := by
            intro Q2 k2
            exact g_bend (k := 6) (by decide) B10 sza al10 qm szm (by omega) (by omega) (by omega) lf.1 lf.2 fun y d' H11 h1 h2 h3 h4 => k2 y H11 ⟨d', h1, h2⟩ h3 h4
          walk_at "go"
          by_cases hm1 : (1 : Int) < (m : Int)
          · rw [decide_eq_true hm1]
            walk_at "go"
            refine ⟨a, l, 3, rfl, B10, by decide, fun bb => ?_⟩
            cases bb with
            | true =>
              walk_at "go"
              refine g_deep (N := 7 + e) (m := 20 + e) (L := Lf e) (by omega) B10 sza al10 qm szm (by omega) (by omega) lf.1 fun y d' H11 h1 h2 B11 c11 => ?_
              have eP11 := c11 _ _ nPa eP10
              walk_at "go"
              refine g_setL eP11 (show ixN xs9.length (m : Int) = some m by unfold ixN; simp; omega) ?_
              exact ⟨_, _, rfl, by omega, put y d' H11 h1 (h2.mono (by omega) (by omega) (by show Lf e ≤ 2 * Lf e + 2; omega)) B11 c11⟩
            | false =>
              walk_at "go"
              refine bend _ fun y H11 ⟨d', h1, h2⟩ B11 c11 => ?_
              have eP11 := c11 _ _ nPa eP10
              walk_at "go"
              refine g_setL eP11 (show ixN xs9.length (m : Int) = some m by unfold ixN; simp; omega) ?_
              exact ⟨_, _, rfl, by omega, put y d' H11 h1 h2 B11 c11⟩
          · rw [decide_eq_false hm1]
            walk_at "go"
            refine bend _ fun y H11 ⟨d', h1, h2⟩ B11 c11 => ?_
            have eP11 := c11 _ _ nPa eP10
            walk_at "go"
            refine g_setL eP11 (show ixN xs9.length (m : Int) = some m by unfold ixN; simp; omega) ?_
            exact ⟨_, _, rfl, by omega, put y d' H11 h1 h2 B11 c11⟩
        · rintro σ' H9 ⟨y6', y7', rfl, _, xs9, ds9, eP9, d9, l9, sz9, B9, c9⟩
          have lf := lf_le cn cn3
          obtain ⟨t, c, tr, pr, ly, ou, b, rfl⟩ := len7 l9
          have szA : ∀ d ∈ [t, c, tr, pr, ly, ou, b], Sz 13 900 900 d := fun d hd => (sz9 d hd).mono (by omega) (by omega) (by omega)
          have da : DqAll K (fun b => b = a) H9 xs9 [t, c, tr, pr, ly, ou, b] := d9.out
          have szl : Sz 14 900 900 (.list [t, c, tr, pr, ly, ou, b]) := sz_list.mpr ⟨by decide, by simp, szA⟩
          have hp9 : Dq K (fun b => b = a) H9 (.ref P') (.list [t, c, tr, pr, ly, ou, b]) := dq_new nPa eP9 da
          walk_at "go"
          refine g_frz hp9 (al_bag B9) (Nat.le_trans (bnd_depth szl.b) (by decide)) (bnd_small szl.b (by decide)) fun kv H10 hkv s10 => ?_
          have B10 := bag_sm B9 s10
          walk_at "go"
          refine g_drawB B10 ⟨by decide, by decide⟩ fun way H11 _ _ B11 c11 => ?_
          have c911 := (sm_chg (a := a) s10).trans c11
          have hkv11 := hkv.chg (toS (S := fun b => b = a) c11 rfl)
          have hp11 := hp9.chg (toS (S := fun b => b = a) c911 rfl)
          have eP11 := c911 _ _ nPa eP9
          have da11 := da.chg (toS (S := fun b => b = a) c911 rfl)
          obtain ⟨bk, zk, rfl, ck, hzk⟩ := (show Dq K (fun b => b = a) H11 kv (.tuple (frzAll [t, c, tr, pr, ly, ou, b])) from hkv11).tup_inv
          walk_at "go"
          refine ⟨P', way, xs9, t, c, tr, pr, ly, ou, b, rfl, eP11, da11.fs, szA, fun H12 s12 => ?_⟩
          walk_at "go"
          refine g_frz (hp11.sm s12) (al_bag (bag_sm B11 s12)) (Nat.le_trans (bnd_depth szl.b) (by decide)) (bnd_small szl.b (by decide)) fun kv2 H13 hkv2 s13 => ?_
          have s1113 := s12.trans s13
          walk_at "go"
          have bf := bnd_frz szl.b
          refine ⟨_, _, hkv2.dp, (hkv11.sm s1113).dp, bnd_shaped bf (by decide), bnd_shaped bf (by decide), ?_⟩
          rw [SeqAt.eqv_refl _ (bnd_can bf)]
          have ck13 := seqT_same s1113 ck
          walk_at "go"
          rename_i L1 hL1
          have sL := same_new hL1 (o := .lst zk)
          refine ⟨L1, way, zk, frzD t, frzD c, frzD tr, frzD pr, frzD ly, frzD ou, frzD b, rfl, upd_same, (hzk.sm (s1113.trans sL)).fs, fun d hd => ?_, fun H14 s14 => ?_⟩
          · obtain ⟨d0, hd0, rfl⟩ : ∃ d0 ∈ [t, c, tr, pr, ly, ou, b], d = frzD d0 := by
              simp only [List.mem_cons, List.not_mem_nil, or_false] at hd
              rcases hd with rfl | rfl | rfl | rfl | rfl | rfl | rfl
              · exact ⟨t, by simp, rfl⟩
              · exact ⟨c, by simp, rfl⟩
              · exact ⟨tr, by simp, rfl⟩
              · exact ⟨pr, by simp, rfl⟩
              · exact ⟨ly, by simp, rfl⟩
              · exact ⟨ou, by simp, rfl⟩
              · exact ⟨b, by simp, rfl⟩
            exact sz_frz (szA d0 hd0)
          · walk_at "go"
            have sZ := (s1113.trans sL).trans s14
            exact ⟨_, _, _, _, _, _, rfl, bag_sm B11 sZ, (c4.trans c9).trans (c911.trans (sm_chg sZ))⟩
      · rintro σ' H4 ⟨y4, y5, y6, y7, y8, y9, rfl, B4, c4⟩
        have hv4 := hv3.chg (toS (S := fun b => b = a) c4 rfl)
        obtain ⟨b5, xs5, rfl, e5, h5, _⟩ := (show Dq K (fun b => b = a) H4 py (.list [.str pt.tk, .int pt.cap, dG pt.tr, dG pt.pr, .list (pt.ly.map dLL), dG pt.ou, dI pt.ba]) from hv4).list_inv
        walk_at "go"
        refine ⟨b5, 1, xs5, _, _, _, _, _, _, _, rfl, e5, h5.fs, fun d hd => (szp d hd).mono (by decide) (by decide) (by decide), fun H5 s5 => ?_⟩
        walk_at "go"
        refine ⟨a, l, rfl, bag_sm B4 s5, fun H6 B6 c6 => ?_⟩
        walk_at "go"
        exact ⟨_, _, _, _, _, _, _, _, rfl, B6⟩
    · rintro σ' H' ⟨y2, y3, y4, y5, y6, y7, y8, y9, rfl, _⟩
      walk_at "go"
      exact q _
end

set_option Elab.async false
set_option linter.all false
set_option maxRecDepth 100000
set_option maxHeartbeats 4000000
open PySem PySem.Spec L2

theorem factsR {P : Program} {w : World} {K : PySem.W.Frag} {h : Heap} {mg : Str → Option Value} {f : Addr} (X : K.In h) (G : h.Ns mainGlobals mg) (hfa : mg ("law" : Str) = some (.ref f)) (c : SaysX faL fnL prL tsL K) :
    ∃ fd : FuncData, (∀ (s : Shared) (v : Value), BindsTo s fd ⟨[v], []⟩ [("script", v)]) ∧ ∀ base : Heap, K.In base → base.Ns mainGlobals mg → FnOk P w K mg base CX0 22 f fd ["script"] (spLaw K) := by
  obtain ⟨fd_as_tuples, F_as_tuples⟩ := c.p.d.def_ 0 (d := d_as_tuples) rfl
  obtain ⟨fd_is_number, F_is_number⟩ := c.p.d.def_ 1 (d := d_is_number) rfl
  obtain ⟨fd_is_tokens, F_is_tokens⟩ := c.p.d.def_ 2 (d := d_is_tokens) rfl
  obtain ⟨fd__can_be_token, F__can_be_token⟩ := c.p.d.def_ 3 (d := d__can_be_token) rfl
  obtain ⟨fd_wrong_part, F_wrong_part⟩ := c.p.d.def_ 4 (d := d_wrong_part) rfl
  obtain ⟨fd__is_list, F__is_list⟩ := c.p.d.def_ 5 (d := d__is_list) rfl
  obtain ⟨fd__is_row, F__is_row⟩ := c.p.d.def_ 6 (d := d__is_row) rfl
  obtain ⟨fd__are_rows, F__are_rows⟩ := c.p.d.def_ 7 (d := d__are_rows) rfl
  obtain ⟨fd__are_token_rows, F__are_token_rows⟩ := c.p.d.def_ 8 (d := d__are_token_rows) rfl
  obtain ⟨fd__are_layers, F__are_layers⟩ := c.p.d.def_ 9 (d := d__are_layers) rfl
  obtain ⟨fd__is_layer, F__is_layer⟩ := c.p.d.def_ 10 (d := d__is_layer) rfl
  obtain ⟨fd__is_head, F__is_head⟩ := c.p.d.def_ 11 (d := d__is_head) rfl
  obtain ⟨fd__is_table, F__is_table⟩ := c.p.d.def_ 12 (d := d__is_table) rfl
  obtain ⟨fd__law_bag, F__law_bag⟩ := c.p.d.def_ 13 (d := d__law_bag) rfl
  obtain ⟨fd__law_draw, F__law_draw⟩ := c.p.d.def_ 14 (d := d__law_draw) rfl
  obtain ⟨fd__law_of, F__law_of⟩ := c.p.d.def_ 15 (d := d__law_of) rfl
  obtain ⟨fd__law_like, F__law_like⟩ := c.p.d.def_ 16 (d := d__law_like) rfl
  obtain ⟨fd__law_frozen, F__law_frozen⟩ := c.p.d.def_ 17 (d := d__law_frozen) rfl
  obtain ⟨fd__law_lists, F__law_lists⟩ := c.p.d.def_ 18 (d := d__law_lists) rfl
  obtain ⟨fd__law_signs, F__law_signs⟩ := c.p.d.def_ 19 (d := d__law_signs) rfl
  obtain ⟨fd__law_string, F__law_string⟩ := c.p.d.def_ 20 (d := d__law_string) rfl
  obtain ⟨fd__law_is_number, F__law_is_number⟩ := c.p.d.def_ 21 (d := d__law_is_number) rfl
  obtain ⟨fd__law_row, F__law_row⟩ := c.p.d.def_ 22 (d := d__law_row) rfl
  obtain ⟨fd__law_grid, F__law_grid⟩ := c.p.d.def_ 23 (d := d__law_grid) rfl
  obtain ⟨fd__law_head, F__law_head⟩ := c.p.d.def_ 24 (d := d__law_head) rfl
  obtain ⟨fd__law_parts, F__law_parts⟩ := c.p.d.def_ 25 (d := d__law_parts) rfl
  obtain ⟨fd__law_is_row, F__law_is_row⟩ := c.p.d.def_ 26 (d := d__law_is_row) rfl
  obtain ⟨fd__law_is_rows, F__law_is_rows⟩ := c.p.d.def_ 27 (d := d__law_is_rows) rfl
  obtain ⟨fd__law_is_floor, F__law_is_floor⟩ := c.p.d.def_ 28 (d := d__law_is_floor) rfl
  obtain ⟨fd__law_is_floors, F__law_is_floors⟩ := c.p.d.def_ 29 (d := d__law_is_floors) rfl
  obtain ⟨fd__law_first_wrong, F__law_first_wrong⟩ := c.p.d.def_ 30 (d := d__law_first_wrong) rfl
  obtain ⟨fd__law_odd, F__law_odd⟩ := c.p.d.def_ 31 (d := d__law_odd) rfl
  obtain ⟨fd__law_bend, F__law_bend⟩ := c.p.d.def_ 32 (d := d__law_bend) rfl
  obtain ⟨fd__law_free, F__law_free⟩ := c.p.d.def_ 33 (d := d__law_free) rfl
  obtain ⟨fd__law_deep, F__law_deep⟩ := c.p.d.def_ 34 (d := d__law_deep) rfl
  obtain ⟨fd__law_unfit, F__law_unfit⟩ := c.p.d.def_ 35 (d := d__law_unfit) rfl
  obtain ⟨fd__law_refusal, F__law_refusal⟩ := c.p.d.def_ 36 (d := d__law_refusal) rfl
  obtain ⟨fd__law_told_net, F__law_told_net⟩ := c.p.d.def_ 37 (d := d__law_told_net) rfl
  obtain ⟨fd__law_net_so, F__law_net_so⟩ := c.p.d.def_ 38 (d := d__law_net_so) rfl
  obtain ⟨fd__law_told_shape, F__law_told_shape⟩ := c.p.d.def_ 39 (d := d__law_told_shape) rfl
  obtain ⟨fd__law_shapes_so, F__law_shapes_so⟩ := c.p.d.def_ 40 (d := d__law_shapes_so) rfl
  obtain ⟨fd_law, F_law⟩ := c.p.d.def_ 41 (d := d_law) rfl
  obtain ⟨fd_Shape___init__, F_Shape___init__⟩ := c.p.d.def_ 42 (d := d_Shape___init__) rfl
  obtain ⟨fd_Net___init__, F_Net___init__⟩ := c.p.d.def_ 43 (d := d_Net___init__) rfl
  obtain ⟨fd_InvalidNet___init__, F_InvalidNet___init__⟩ := c.p.d.def_ 44 (d := d_InvalidNet___init__) rfl
  obtain ⟨fd_InvalidSetting___init__, F_InvalidSetting___init__⟩ := c.p.d.def_ 45 (d := d_InvalidSetting___init__) rfl
  have T : Top K mg := ⟨⟨_, _, F_as_tuples, He.glo_ok X G (c.p.d.fact 0 (f := .glo "as_tuples") rfl)⟩,
    ⟨_, _, F_is_number, He.glo_ok X G (c.p.d.fact 1 (f := .glo "is_number") rfl)⟩,
    ⟨_, _, F_is_tokens, He.glo_ok X G (c.p.d.fact 2 (f := .glo "is_tokens") rfl)⟩,
    ⟨_, _, F__can_be_token, He.glo_ok X G (c.p.d.fact 3 (f := .glo "_can_be_token") rfl)⟩,
    ⟨_, _, F_wrong_part, He.glo_ok X G (c.p.d.fact 4 (f := .glo "wrong_part") rfl)⟩,
    ⟨_, _, F__is_list, He.glo_ok X G (c.p.d.fact 5 (f := .glo "_is_list") rfl)⟩,
    ⟨_, _, F__is_row, He.glo_ok X G (c.p.d.fact 6 (f := .glo "_is_row") rfl)⟩,
    ⟨_, _, F__are_rows, He.glo_ok X G (c.p.d.fact 7 (f := .glo "_are_rows") rfl)⟩,
    ⟨_, _, F__are_token_rows, He.glo_ok X G (c.p.d.fact 8 (f := .glo "_are_token_rows") rfl)⟩,
    ⟨_, _, F__are_layers, He.glo_ok X G (c.p.d.fact 9 (f := .glo "_are_layers") rfl)⟩,
    ⟨_, _, F__is_layer, He.glo_ok X G (c.p.d.fact 10 (f := .glo "_is_layer") rfl)⟩,
    ⟨_, _, F__is_head, He.glo_ok X G (c.p.d.fact 11 (f := .glo "_is_head") rfl)⟩,
    ⟨_, _, F__is_table, He.glo_ok X G (c.p.d.fact 12 (f := .glo "_is_table") rfl)⟩,
    ⟨_, _, F__law_bag, He.glo_ok X G (c.p.d.fact 13 (f := .glo "_law_bag") rfl)⟩,
    ⟨_, _, F__law_draw, He.glo_ok X G (c.p.d.fact 14 (f := .glo "_law_draw") rfl)⟩,
    ⟨_, _, F__law_of, He.glo_ok X G (c.p.d.fact 15 (f := .glo "_law_of") rfl)⟩,
    ⟨_, _, F__law_like, He.glo_ok X G (c.p.d.fact 16 (f := .glo "_law_like") rfl)⟩,
    ⟨_, _, F__law_frozen, He.glo_ok X G (c.p.d.fact 17 (f := .glo "_law_frozen") rfl)⟩,
    ⟨_, _, F__law_lists, He.glo_ok X G (c.p.d.fact 18 (f := .glo "_law_lists") rfl)⟩,
    ⟨_, _, F__law_signs, He.glo_ok X G (c.p.d.fact 19 (f := .glo "_law_signs") rfl)⟩,
    ⟨_, _, F__law_string, He.glo_ok X G (c.p.d.fact 20 (f := .glo "_law_string") rfl)⟩,
    ⟨_, _, F__law_is_number, He.glo_ok X G (c.p.d.fact 21 (f := .glo "_law_is_number") rfl)⟩,
    ⟨_, _, F__law_row, He.glo_ok X G (c.p.d.fact 22 (f := .glo "_law_row") rfl)⟩,
    ⟨_, _, F__law_grid, He.glo_ok X G (c.p.d.fact 23 (f := .glo "_law_grid") rfl)⟩,
    ⟨_, _, F__law_head, He.glo_ok X G (c.p.d.fact 24 (f := .glo "_law_head") rfl)⟩,
    ⟨_, _, F__law_parts, He.glo_ok X G (c.p.d.fact 25 (f := .glo "_law_parts") rfl)⟩,
    ⟨_, _, F__law_is_row, He.glo_ok X G (c.p.d.fact 26 (f := .glo "_law_is_row") rfl)⟩,
    ⟨_, _, F__law_is_rows, He.glo_ok X G (c.p.d.fact 27 (f := .glo "_law_is_rows") rfl)⟩,
    ⟨_, _, F__law_is_floor, He.glo_ok X G (c.p.d.fact 28 (f := .glo "_law_is_floor") rfl)⟩,
    ⟨_, _, F__law_is_floors, He.glo_ok X G (c.p.d.fact 29 (f := .glo "_law_is_floors") rfl)⟩,
    ⟨_, _, F__law_first_wrong, He.glo_ok X G (c.p.d.fact 30 (f := .glo "_law_first_wrong") rfl)⟩,
    ⟨_, _, F__law_odd, He.glo_ok X G (c.p.d.fact 31 (f := .glo "_law_odd") rfl)⟩,
    ⟨_, _, F__law_bend, He.glo_ok X G (c.p.d.fact 32 (f := .glo "_law_bend") rfl)⟩,
    ⟨_, _, F__law_free, He.glo_ok X G (c.p.d.fact 33 (f := .glo "_law_free") rfl)⟩,
    ⟨_, _, F__law_deep, He.glo_ok X G (c.p.d.fact 34 (f := .glo "_law_deep") rfl)⟩,
    ⟨_, _, F__law_unfit, He.glo_ok X G (c.p.d.fact 35 (f := .glo "_law_unfit") rfl)⟩,
    ⟨_, _, F__law_refusal, He.glo_ok X G (c.p.d.fact 36 (f := .glo "_law_refusal") rfl)⟩,
    ⟨_, _, F__law_told_net, He.glo_ok X G (c.p.d.fact 37 (f := .glo "_law_told_net") rfl)⟩,
    ⟨_, _, F__law_net_so, He.glo_ok X G (c.p.d.fact 38 (f := .glo "_law_net_so") rfl)⟩,
    ⟨_, _, F__law_told_shape, He.glo_ok X G (c.p.d.fact 39 (f := .glo "_law_told_shape") rfl)⟩,
    ⟨_, _, F__law_shapes_so, He.glo_ok X G (c.p.d.fact 40 (f := .glo "_law_shapes_so") rfl)⟩,
    He.glo_ok X G (c.p.d.fact 54 (f := .glo "Shape") rfl),
    He.cls_ok (c.p.d.fact 55 (f := .cls "Shape") rfl),
    He.noat_ok (c.p.d.fact 56 (f := .noat "Shape" "tokens") rfl),
    He.noat_ok (c.p.d.fact 57 (f := .noat "Shape" "width") rfl),
    He.noat_ok (c.p.d.fact 58 (f := .noat "Shape" "layers") rfl),
    He.noat_ok (c.p.d.fact 59 (f := .noat "Shape" "heads") rfl),
    He.mkr_ok (c.p.d.fact 60 (f := .mkr "Shape") rfl),
    ⟨_, F_Shape___init__⟩,
    He.glo_ok X G (c.p.d.fact 61 (f := .glo "Net") rfl),
    He.cls_ok (c.p.d.fact 62 (f := .cls "Net") rfl),
    He.noat_ok (c.p.d.fact 63 (f := .noat "Net" "tokens") rfl),
    He.noat_ok (c.p.d.fact 64 (f := .noat "Net" "cap") rfl),
    He.noat_ok (c.p.d.fact 65 (f := .noat "Net" "token_rows") rfl),
    He.noat_ok (c.p.d.fact 66 (f := .noat "Net" "place_rows") rfl),
    He.noat_ok (c.p.d.fact 67 (f := .noat "Net" "layers") rfl),
    He.noat_ok (c.p.d.fact 68 (f := .noat "Net" "out_rows") rfl),
    He.noat_ok (c.p.d.fact 69 (f := .noat "Net" "base") rfl),
    He.noat_ok (c.p.d.fact 70 (f := .noat "Net" "shape") rfl),
    He.mkr_ok (c.p.d.fact 71 (f := .mkr "Net") rfl),
    ⟨_, F_Net___init__⟩,
    He.glo_ok X G (c.p.d.fact 72 (f := .glo "InvalidNet") rfl),
    oxB_ok (c.test 18 rfl),
    ⟨_, F_InvalidNet___init__⟩,
    He.glo_ok X G (c.p.d.fact 73 (f := .glo "InvalidSetting") rfl),
    oxB_ok (c.test 19 rfl),
    ⟨_, F_InvalidSetting___init__⟩,
    (match He.int_ok X G (c.p.d.fact 74 (f := .int "PERCENT" 37) rfl) with | ⟨t, e⟩ => ⟨_, e, t, rfl⟩),
    (match He.int_ok X G (c.p.d.fact 75 (f := .int "LEAST_TOKENS" 2) rfl) with | ⟨t, e⟩ => ⟨_, e, t, rfl⟩),
    (match He.int_ok X G (c.p.d.fact 76 (f := .int "MOST_TOKENS" 6) rfl) with | ⟨t, e⟩ => ⟨_, e, t, rfl⟩),
    (match He.int_ok X G (c.p.d.fact 77 (f := .int "MOST_WIDTH" 4) rfl) with | ⟨t, e⟩ => ⟨_, e, t, rfl⟩),
    (match He.int_ok X G (c.p.d.fact 78 (f := .int "MOST_LAYERS" 3) rfl) with | ⟨t, e⟩ => ⟨_, e, t, rfl⟩),
    (match He.int_ok X G (c.p.d.fact 79 (f := .int "MOST_HEADS" 2) rfl) with | ⟨t, e⟩ => ⟨_, e, t, rfl⟩),
    (match He.int_ok X G (c.p.d.fact 80 (f := .int "GREATEST_ENTRY" 9) rfl) with | ⟨t, e⟩ => ⟨_, e, t, rfl⟩),
    (match He.int_ok X G (c.p.d.fact 81 (f := .int "GREATEST_CAP" 99) rfl) with | ⟨t, e⟩ => ⟨_, e, t, rfl⟩),
    (match He.int_ok X G (c.p.d.fact 82 (f := .int "MOST_PLACE_ROWS" 6) rfl) with | ⟨t, e⟩ => ⟨_, e, t, rfl⟩),
    (match He.int_ok X G (c.p.d.fact 83 (f := .int "LAYER_PARTS" 3) rfl) with | ⟨t, e⟩ => ⟨_, e, t, rfl⟩),
    (match He.int_ok X G (c.p.d.fact 84 (f := .int "HEAD_TABLES" 3) rfl) with | ⟨t, e⟩ => ⟨_, e, t, rfl⟩),
    He.free_ok X G (c.p.d.fact 42 (f := .free "tuple") rfl),
    He.free_ok X G (c.p.d.fact 43 (f := .free "zip") rfl),
    He.free_ok X G (c.p.d.fact 44 (f := .free "isinstance") rfl),
    He.free_ok X G (c.p.d.fact 45 (f := .free "list") rfl),
    He.free_ok X G (c.p.d.fact 46 (f := .free "int") rfl),
    He.free_ok X G (c.p.d.fact 47 (f := .free "bool") rfl),
    He.free_ok X G (c.p.d.fact 48 (f := .free "all") rfl),
    He.free_ok X G (c.p.d.fact 49 (f := .free "str") rfl),
    He.free_ok X G (c.p.d.fact 50 (f := .free "len") rfl),
    He.free_ok X G (c.p.d.fact 51 (f := .free "set") rfl),
    He.free_ok X G (c.p.d.fact 52 (f := .free "ord") rfl),
    He.free_ok X G (c.p.d.fact 53 (f := .free "range") rfl),
    insB_ok (c.test 0 rfl),
    insB_ok (c.test 1 rfl),
    of_decide_eq_true (c.test 2 rfl),
    of_decide_eq_true (c.test 3 rfl),
    of_decide_eq_true (c.test 4 rfl),
    of_decide_eq_true (c.test 5 rfl),
    of_decide_eq_true (c.test 6 rfl),
    of_decide_eq_true (c.test 7 rfl),
    of_decide_eq_true (c.test 8 rfl),
    of_decide_eq_true (c.test 9 rfl),
    of_decide_eq_true (c.test 10 rfl),
    of_decide_eq_true (c.test 11 rfl),
    of_decide_eq_true (c.test 12 rfl),
    of_decide_eq_true (c.test 13 rfl),
    He.glo_ok X G (c.test 14 rfl),
    He.glo_ok X G (c.test 15 rfl),
    He.glo_ok X G (c.test 16 rfl),
    He.glo_ok X G (c.test 17 rfl)⟩
  have e := hfa.symm.trans (He.glo_ok X G (c.p.d.fact 41 (f := .glo "law") rfl))
  cases e
  have b := FunD.bindsA (ps := ["script"]) F_law fun _ _ _ _ _ _ us hl => match us, hl with | [_], _ => rfl
  exact ⟨fd_law, fun s v => b s [v] rfl, fun base _ _ => ok_law T F_law⟩
end Q
open PySem PySem.W PySem.Calls PyProof.Rows
set_option maxRecDepth 100000 in
set_option maxHeartbeats 0 in
theorem PySem.Challenge.cw_answersalone_k03_nets_refused_holds : PySem.Challenge.rw_answersalone_k03_nets_refused.Holds := by
  w_on; o_law
  refine HandSHeadRun.head_any (r := OpenLaw.row PySem.Challenge.rw_answersalone_k03_nets_refused) (q := view (OpenLaw.row PySem.Challenge.rw_answersalone_k03_nets_refused).prog [93]) (H := Q.hkR) (ob := Q.obR) (M := 6000) (loose := Q.looseR)
    (d := HandSHeadRun.topDef (OpenLaw.row PySem.Challenge.rw_answersalone_k03_nets_refused).prog 93) (kwd := []) Q.obR_eq
    (by kernel_rfl) (fun s => by kernel_rfl) Q.runR (by kernel_rfl) (by kernel_rfl) (by kernel_rfl) (by rfl) (by first | assumption | decide +kernel) (by decide +kernel) ⟨rfl, rfl, rfl, rfl, rfl, by decide +kernel⟩ ?hw ?hc
  case hw => w_witness2
  case hc =>
    refine L2.walk_ofE (l := PySem.Challenge.rw_answersalone_k03_nets_refused) (n := 63) (k := 22) (x := "script") (CX := L2.CX0) rfl (by decide) (by kernel_rfl) ⟨rfl, by decide, by decide⟩ ?F (fun _ _ _ _ z => z)
    intro w mg fa h Y G hmg0
    obtain ⟨K, KX, c⟩ := Y
    have hmg : mg ("law" : PySem.Str) = some (.ref fa) := by
      have e : (HandSHeadRun.topDef (OpenLaw.row PySem.Challenge.rw_answersalone_k03_nets_refused).prog 93).name = ("law" : PySem.Str) := by kernel_rfl
      rw [← e]
      exact hmg0
    obtain ⟨fd, hb, hF⟩ := Q.factsR (P := (PySem.Challenge.rw_answersalone_k03_nets_refused).prog) (w := w) KX G hmg c
    exact ⟨K, fd, Q.spLaw K, KX, hb, fun H a ns hl _ hS => ⟨a, ns, rfl, hS, hl, fun _ => rfl⟩, hF⟩
