import PyProof.Rows.All
import Wide.All
import OpenK.AllK
import Wide.FinOn
import HandS.Wide
import HandS.ForMost
import HandS.Defaults
import HandS.MakeKwOnly
import HandS.IsInst
import HandS.Conv
import HandS.Style
import HandS.Flow
import HandS.Codes
import HandS.Head0
import HandS.Head1
import HandS.Head2
import HandS.HeadEnd
import HandS.HeadHook1
import HandS.HeadHook2
import KE.GoesMore
import HandS.Zip
import KE.GoesEnum
import HandS.Property
import HandS.OwnEq
import HandS.MakeKw
import HandS.FStr
import HandS.StrMore
import HandS.StrSplit
import HandS.TryOnly
import PyProof.Conv_bool
import PyProof.MeetsIn
import PyProof.StrLawsIn
import PyProof.StrBlockL
import HandS.Gcd
import HandS.WideBits
import HandS.Exc
import HandS.ExcOwn
import HandS.ExcIs
import HandS.ForExc
import HandS.Small
import PySem.Challenge.RW_answersalone_k25_shares_by_hand
import HandS.Head3
set_option Elab.async false
set_option linter.all false
set_option maxRecDepth 100000
namespace Q
open PySem PySem.Spec L2

/-- what a caller needs of a def that has no defaults -/
structure Cal (P : Program) (w : World) (K : PySem.W.Frag) (mg : Str → Option Value) (base : Heap)
    (x : Str) (k : Nat) (ps : List Str) (sp : Sp) : Prop where
  ex : ∃ (f : Addr) (fd : FuncData), FnOk P w K mg base CX0 k f fd ps sp ∧
    mg x = some (.ref f) ∧ PySem.W.keepIn K (.ref f) = true ∧ Binds K fd ps []

section
variable {X : Cx} {x : Str} {k : Nat} {ps : List Str} {sp : Sp} {e : Expr} {es : List Expr} {t : TA} {p pos : Pos}
theorem pe_cal (C : Cal X.prog X.w X.K X.mg X.base x k ps sp) (hr : Room k X.A) (hg : Gl X x) (ha : PA X (e :: es) t)
    (hd : (x == ("__debug__" : Str)) = false := by decide)
    (he : starEach (e :: es) X.env = (false, eval e X.env) :: starEach es X.env := by rfl)
    (hl : (backTo pos (starEach es X.env)).any (·.1) = false := by rfl) :
    PE X (.Call (.Name x p) (e :: es) [] pos) (tCall sp [] E0 t) := by
  obtain ⟨f, fd, F, hm, hk, hb⟩ := C.ex
  exact pe_call F hr hg hm hk hb .nil pass0 ha hd he hl
end

theorem cal_mk {P : Program} {w : World} {K : PySem.W.Frag} {mg : Str → Option Value} {base : Heap} {x q : Str} {pa : Arguments} {bd : List Stmt} {sc : Scope} {dv : List V} {kw : List (Str × V)} {k : Nat} {ps : List Str} {sp : Sp}
    (h : ∃ (f : Addr) (fd : FuncData), FunD K x q pa bd sc dv kw f fd ∧ mg x = some (.ref f))
    (ok : ∀ {f : Addr} {fd : FuncData}, FunD K x q pa bd sc dv kw f fd → FnOk P w K mg base CX0 k f fd ps sp)
    (b : ∀ {f : Addr} {fd : FuncData}, FunD K x q pa bd sc dv kw f fd → Binds K fd ps []) : Cal P w K mg base x k ps sp := by
  obtain ⟨f, fd, F, m⟩ := h
  exact ⟨f, fd, ok F, m, F.kp, b F⟩
theorem cal_mono {P : Program} {w : World} {K : PySem.W.Frag} {mg : Str → Option Value} {base : Heap} {x : Str} {j k : Nat} {ps : List Str} {sp : Sp} (C : Cal P w K mg base x j ps sp) (h : j ≤ k) : Cal P w K mg base x k ps sp := by
  obtain ⟨f, fd, F, m, kp, b⟩ := C.ex
  exact ⟨f, fd, F.mono h, m, kp, b⟩
/-- what a caller with keywords needs of a def: n values by position, the keywords ks; gV puts them (and the defaults) in the parameters' order -/
structure KCal (P : Program) (w : World) (K : PySem.W.Frag) (mg : Str → Option Value) (base : Heap) (x : Str) (k n : Nat) (ks : List Str) (gV : List V → List V → List V) (sp : Sp) : Prop where
  ex : ∃ (f : Addr) (fd : FuncData) (ps : List Str) (g : List Value → List Value → List Value), FnOk P w K mg base CX0 k f fd ps sp ∧ mg x = some (.ref f) ∧ PySem.W.keepIn K (.ref f) = true ∧ KBn K fd ps n ks g gV
theorem kcal_mk {P : Program} {w : World} {K : PySem.W.Frag} {mg : Str → Option Value} {base : Heap} {x q : Str} {pa : Arguments} {bd : List Stmt} {sc : Scope} {dv : List V} {kw : List (Str × V)} {k n : Nat} {ks ps : List Str} {sp : Sp} {gV : List V → List V → List V}
    (h : ∃ (f : Addr) (fd : FuncData), FunD K x q pa bd sc dv kw f fd ∧ mg x = some (.ref f))
    (ok : ∀ {f : Addr} {fd : FuncData}, FunD K x q pa bd sc dv kw f fd → FnOk P w K mg base CX0 k f fd ps sp)
    (b : ∀ {f : Addr} {fd : FuncData}, FunD K x q pa bd sc dv kw f fd → ∃ g, KBn K fd ps n ks g gV) : KCal P w K mg base x k n ks gV sp := by
  obtain ⟨f, fd, F, m⟩ := h
  obtain ⟨g, kb⟩ := b F
  exact ⟨f, fd, ps, g, ok F, m, F.kp, kb⟩
section
variable {X : Cx} {x : Str} {k n : Nat} {ks : List Str} {gV : List V → List V → List V} {sp : Sp} {e : Expr} {es : List Expr} {kws : List Keyword} {t tk : TA} {p pos : Pos}
theorem pe_kcal (C : KCal X.prog X.w X.K X.mg X.base x k n ks gV sp) (hr : Room k X.A) (hg : Gl X x) (ha : PA X (e :: es) t) (hkw : PK X kws tk)
    (hall : (backToKw pos (keywordEach kws X.env)).all (·.1.isSome) = true := by rfl) (hks : (backToKw pos (keywordEach kws X.env)).filterMap (·.1) = ks := by rfl)
    (hd : (x == ("__debug__" : Str)) = false := by decide) (he : starEach (e :: es) X.env = (false, eval e X.env) :: starEach es X.env := by rfl)
    (hl : ((backTo pos (starEach (e :: es) X.env)).any (·.1) || (backToKw pos (keywordEach kws X.env)).any (·.1.isNone)) = false := by rfl) :
    PE X (.Call (.Name x p) (e :: es) kws pos) (tCallN n ks.length sp gV E0 t tk) := by
  obtain ⟨f, fd, ps, g, F, hm, hk, hb⟩ := C.ex
  exact pe_callN F hr hg hm hk hb pass0 ha hkw hall hks hd he hl
theorem pe_kcal0 (C : KCal X.prog X.w X.K X.mg X.base x k 0 ks gV sp) (hr : Room k X.A) (hg : Gl X x) (hkw : PK X kws tk)
    (hall : (backToKw pos (keywordEach kws X.env)).all (·.1.isSome) = true := by rfl) (hks : (backToKw pos (keywordEach kws X.env)).filterMap (·.1) = ks := by rfl)
    (hd : (x == ("__debug__" : Str)) = false := by decide)
    (hl : ((backTo pos (starEach [] X.env)).any (·.1) || (backToKw pos (keywordEach kws X.env)).any (·.1.isNone)) = false := by rfl) :
    PE X (.Call (.Name x p) [] kws pos) (tCallN 0 ks.length sp gV E0 tNil tk) := by
  obtain ⟨f, fd, ps, g, F, hm, hk, hb⟩ := C.ex
  refine ⟨fun pins s σ H Q I h => ?_⟩
  refine wpAny_Call_Name_kw (ld_glob I hg hm ?_ hd)
  refine PySem.W.callWith_KW0 (h₀ := X.base) I.ok.mod.kin hk hall ?_ hl
  refine thn (hkw.run pos pins s σ H _ I h) fun ws s2 ⟨zs, H2, I2, rz, l1, l2, q2⟩ => ⟨I2.kIn, ?_⟩
  rw [hks]
  exact run_fnN (us := []) (vs := []) F hr hb pass0 I2 .nil rz l1 l2 q2
end
/-- what a caller needs of a method of the class at C -/
structure MCal (P : Program) (w : World) (K : PySem.W.Frag) (mg : Str → Option Value) (base : Heap) (C : Addr) (m : Str) (k : Nat) (ps : List Str) (sp : Sp) : Prop where
  ex : ∃ (f : Addr) (fd : FuncData), Meth K C m f ∧ FnOk P w K mg base CX0 k f fd ps sp ∧ Binds K fd ps []
theorem mcal_mk {P : Program} {w : World} {K : PySem.W.Frag} {mg : Str → Option Value} {base : Heap} {C : Addr} {m : Str} {x q : Str} {pa : Arguments} {bd : List Stmt} {sc : Scope} {dv : List V} {kw : List (Str × V)} {k : Nat} {ps : List Str} {sp : Sp} {f : Addr}
    (me : Meth K C m f) (h : ∃ (fd : FuncData), FunD K x q pa bd sc dv kw f fd)
    (ok : ∀ {f : Addr} {fd : FuncData}, FunD K x q pa bd sc dv kw f fd → FnOk P w K mg base CX0 k f fd ps sp)
    (b : ∀ {f : Addr} {fd : FuncData}, FunD K x q pa bd sc dv kw f fd → Binds K fd ps []) : MCal P w K mg base C m k ps sp := by
  obtain ⟨fd, F⟩ := h
  exact ⟨f, fd, me, ok F, b F⟩
/-- what a caller needs of a class that is made by its __init__ -/
structure MkC (P : Program) (w : World) (K : PySem.W.Frag) (mg : Str → Option Value) (base : Heap) (C : Addr) (k : Nat) (ps : List Str) (sp : Sp) : Prop where
  ex : ∃ (f : Addr) (fd : FuncData), Mk K C f ∧ FnOk P w K mg base CX0 k f fd ps sp ∧ Binds K fd ps []
section
variable {X : Cx} {K : PySem.W.Frag} {C : Addr} {k : Nat} {ps : List Str} {sp : Sp} {e o value : Expr} {es : List Expr} {t : TA} {ta tv : TE} {x m f : Str} {p pos pos' apos : Pos}
theorem pe_mcal {pl : Sem Bool} (he : PE X o ta) (c : Cls X.K C) (M : MCal X.prog X.w X.K X.mg X.base C m k ps sp) (hr : Room k X.A) (ha : PA X (e :: es) t)
    (hst : starEach (e :: es) X.env = (false, eval e X.env) :: starEach es X.env := by rfl) (hl : (backTo pos (starEach es X.env)).any (·.1) = false := by rfl)
    (ht : eval (.Call (.Attribute o m apos) (e :: es) [] pos) X.env = (do
      let self_ ← eval o X.env
      standAt apos.atName
      let (fn, first) ← holding [self_] (getMethod self_ m pl)
      callWith pos fn first (backTo pos (starEach (e :: es) X.env)) (backToKw pos (keywordEach [] X.env))) := by rfl) :
    PE X (.Call (.Attribute o m apos) (e :: es) [] pos) (tMeth C m sp [] E0 ta t) := by
  obtain ⟨f, fd, hm, F, hb⟩ := M.ex
  exact pe_meth he c hm F hr hb .nil pass0 ha hst hl ht
theorem pe_mcal0 {pl : Sem Bool} (he : PE X o ta) (c : Cls X.K C) (M : MCal X.prog X.w X.K X.mg X.base C m k ps sp) (hr : Room k X.A)
    (ht : eval (.Call (.Attribute o m apos) [] [] pos) X.env = (do
      let self_ ← eval o X.env
      standAt apos.atName
      let (fn, first) ← holding [self_] (getMethod self_ m pl)
      callWith pos fn first (backTo pos (starEach [] X.env)) (backToKw pos (keywordEach [] X.env))) := by rfl) :
    PE X (.Call (.Attribute o m apos) [] [] pos) (tMeth C m sp [] E0 ta tNil) := by
  obtain ⟨f, fd, hm, F, hb⟩ := M.ex
  exact pe_meth0 he c hm F hr hb .nil pass0 ht
theorem pe_mk (hm : X.mg x = some (.ref C)) (M : MkC X.prog X.w X.K X.mg X.base C k ps sp) (hr : Room (k + 1) X.A) (hg : Gl X x) (ha : PA X (e :: es) t)
    (hd : (x == ("__debug__" : Str)) = false := by decide) (he : starEach (e :: es) X.env = (false, eval e X.env) :: starEach es X.env := by rfl) (hl : (backTo pos (starEach es X.env)).any (·.1) = false := by rfl) :
    PE X (.Call (.Name x p) (e :: es) [] pos) (tMake C sp [] E0 t) := by
  obtain ⟨f, fd, hmk, F, hb⟩ := M.ex
  exact pe_make hmk F hr hg hm hb .nil pass0 ha hd he hl
theorem k_fld (ek : X.K = K) (he : PE X e ta) (hb : attributeBase e f X.env (eval e X.env) = eval e X.env) : PE X (.Attribute e f pos) (tFld K ta f) := by subst ek; exact pe_fld he hb
theorem k_sfld (ek : X.K = K) (ha : PE X o ta) (hv : PE X value tv) (hs : swapsWith value (some (.Attribute o f pos')) pos.line X.env = pure false) : PS X (.Assign [.Attribute o f pos'] value pos) (sFld K ta tv f) := by subst ek; exact ps_fld ha hv hs
end
/-- the parameters' order: the i-th of the values by position (0), of the defaults that lack (1), of the keywords (2) -/
def pick {α : Type} : List (Nat × Nat) → List α → List α → List α → List α
  | [], _, _, _ => []
  | (k, i) :: r, us, mv, ws => match (match k with | 0 => us | 1 => mv | _ => ws)[i]? with
    | some x => x :: pick r us mv ws
    | none => pick r us mv ws
theorem vals_pick : ∀ (ix : List (Nat × Nat)) {vs mz zs : List V} {us mv ws : List Value}, Vals vs us → Vals mz mv → Vals zs ws → Vals (pick ix vs mz zs) (pick ix us mv ws)
  | [], _, _, _, _, _, _, _, _, _ => .nil
  | (k, i) :: r, vs, mz, zs, us, mv, ws, h1, h2, h3 => by
    have hsel : Vals (match k with | 0 => vs | 1 => mz | _ => zs) (match k with | 0 => us | 1 => mv | _ => ws) := by
      match k with
      | 0 => exact h1
      | 1 => exact h2
      | _ + 2 => exact h3
    have ih := vals_pick r h1 h2 h3
    unfold pick
    cases e : (match k with | 0 => vs | 1 => mz | _ => zs)[i]? with
    | none =>
      rw [hsel.none_of e]
      exact ih
    | some x =>
      obtain ⟨u, hu, ru⟩ := hsel.get e
      rw [hu]
      exact .cons ru ih
theorem kbindsN {K : PySem.W.Frag} {x qual : Str} {params : Arguments} {body : List Stmt} {scope : Scope} {f : Addr} {fd : FuncData} {ps : List Str} (F : FunD K x qual params body scope [] [] f fd) (n : Nat) (ks : List Str) (ix : List (Nat × Nat))
    (h : ∀ (kV doc pm : Value) (an : Option Addr) (cdv ct : Value) (us ws : List Value), us.length = n → ws.length = ks.length →
      bindArgs (PySem.W.fnOf x qual params body scope .none kV doc pm an cdv ct) ⟨us, ks.zip ws⟩ = pure (ps.zip (pick ix us [] ws))) : ∃ g, KBn K fd ps n ks g (fun vs zs => pick ix vs [] zs) := by
  obtain ⟨oc, od, dV, kV, doc, pm, an, cdv, ct, osl, rfl, lk, hcd, hD, hK⟩ := F.ex
  rcases hD with ⟨_, rfl⟩ | ⟨e, _⟩
  · exact ⟨fun us ws => pick ix us [] ws, fun s us ws X l1 l2 => .of_eq (h kV doc pm an cdv ct us ws l1 l2), fun r1 r2 => vals_pick ix r1 .nil r2⟩
  · exact absurd rfl e
theorem kbindsK {K : PySem.W.Frag} {x qual : Str} {params : Arguments} {body : List Stmt} {scope : Scope} {kws : List (Str × V)} {f : Addr} {fd : FuncData} {ps : List Str} (F : FunD K x qual params body scope [] kws f fd) (n : Nat) (ks : List Str) (ms : List (Str × V)) (ix : List (Nat × Nat)) (hk : kws ≠ []) (hms : ∀ q ∈ ms, q ∈ kws)
    (h : ∀ (D : Addr) (doc pm : Value) (an : Option Addr) (cdv ct : Value) (us mv ws : List Value), us.length = n → mv.length = ms.length → ws.length = ks.length →
      KwChain D ((ms.map (·.1)).zip mv) (bindArgs (PySem.W.fnOf x qual params body scope .none (.ref D) doc pm an cdv ct) ⟨us, ks.zip ws⟩) (ps.zip (pick ix us mv ws))) : ∃ g, KBn K fd ps n ks g (fun vs zs => pick ix vs (ms.map (·.2)) zs) := by
  obtain ⟨mv, hb⟩ := F.kbinds0 n ks ms (fun us mv ws => pick ix us mv ws) hk hms (fun h1 h2 h3 => vals_pick ix h1 h2 h3) h
  exact ⟨_, hb⟩
/-- all but a stays -/
def Chg (a : Addr) (H H' : Hp) : Prop := ∀ b o, b ≠ a → H b = some o → H' b = some o
theorem Chg.refl {a : Addr} {H : Hp} : Chg a H H := fun _ _ _ h => h
theorem Chg.trans {a : Addr} {H H1 H2 : Hp} (x : Chg a H H1) (y : Chg a H1 H2) : Chg a H H2 := fun b o n h => y b o n (x b o n h)
theorem Chg.upd {a : Addr} {H : Hp} {o : HO} : Chg a H (upd H a o) := fun b _ n h => by rw [upd_ne n]; exact h
theorem Chg.new {a p : Addr} {H : Hp} {o : HO} (hp : H p = none) : Chg a H (L2.upd H p o) := fun b u _ h => by
  rw [upd_ne (ne_of_none h hp)]; exact h
theorem Same.chg {a : Addr} {H H' : Hp} (s : Same H H') : Chg a H H' := fun b o _ h => s b o h
theorem sm_chg {a : Addr} {H H' : Hp} (s : L2.Same H H') : Chg a H H' := fun b o _ h => s b o h
theorem same_new {H : Hp} {p : Addr} {o : HO} (hp : H p = none) : Same H (L2.upd H p o) := fun b u h => by
  rw [upd_ne (ne_of_none h hp)]; exact h

/-! ### readings, step by step: each g_.. takes one head away -/
section
variable {D : Ends} {σ : L2.St} {H : Hp} {Q : VK} {QB : Bool → Hp → Prop} {QL : List V → Hp → Prop}
theorem g_seq {t u : TS} (h : t { D with nx := u D } σ H) : tSeq t u D σ H := h
theorem g_asg {te : TE} {g : TG} (h : te σ H fun x H1 => g x σ H1 D.nx) : tAsg te g D σ H := h
def ParR (i j : Nat) (D : Ends) (σ : L2.St) (vs : List V) (H1 : Hp) : Prop := ∃ v w, vs = [v, w] ∧ D.nx ((σ.set i (some v)).set j (some w)) H1
theorem g_par {i j : Nat} {ta : TA} (h : ta σ H (ParR i j D σ)) : tPar i j ta D σ H := h
theorem g_parR {i j : Nat} {v w : V} (h : gName i v σ H fun σ1 H1 => gName j w σ1 H1 D.nx) : ParR i j D σ [v, w] H := ⟨v, w, rfl, h⟩
def ParR3 (i j l : Nat) (D : Ends) (σ : L2.St) (vs : List V) (H1 : Hp) : Prop := ∃ v w u, vs = [v, w, u] ∧ D.nx (((σ.set i (some v)).set j (some w)).set l (some u)) H1
theorem g_par3 {i j l : Nat} {ta : TA} (h : ta σ H (ParR3 i j l D σ)) : tPar3 i j l ta D σ H := h
theorem g_parR3 {i j l : Nat} {v w u : V} (h : gName i v σ H fun σ1 H1 => gName j w σ1 H1 fun σ2 H2 => gName l u σ2 H2 D.nx) : ParR3 i j l D σ [v, w, u] H := ⟨v, w, u, rfl, h⟩
theorem g_aug {i : Nat} {te : TE} {ti : TIp} (h : tVar i σ H fun x _ => te σ H fun y H1 => ti x y H1 fun z H2 => gName i z σ H2 D.nx) : tAug i te ti D σ H := h
theorem g_ipI {f : Int → Int → Int} {i j : Int} (h : Q (.int (f i j)) H) : ipI f (.int i) (.int j) H Q := ⟨i, j, rfl, rfl, h⟩
theorem g_ifS {c : TT} {t u : TS} (h : c σ H fun b H1 => if b = true then t D σ H1 else u D σ H1) : tIfS c t u D σ H := h
theorem g_ret {te : TE} (h : te σ H D.rt) : tRet te D σ H := h
theorem g_retN (h : D.rt .non H) : tRetN D σ H := h
theorem g_drop {te : TE} (h : te σ H fun _ H1 => D.nx σ H1) : tDrop te D σ H := h
theorem g_next (h : D.nx σ H) : tNext D σ H := h
theorem g_brk (h : D.bk σ H) : tBreak D σ H := h
theorem g_cont (h : D.ct σ H) : tCont D σ H := h
theorem g_c {v : V} (h : Q v H) : tC v σ H Q := h
theorem g_op {r : R2} {ta tb : TE} (h : ta σ H fun x H1 => tb σ H1 fun y H2 => r x y H2 Q) : tOp r ta tb σ H Q := h
theorem g_un {r : V → Hp → VK → Prop} {ta : TE} (h : ta σ H fun x H1 => r x H1 Q) : tUn r ta σ H Q := h
theorem g_cb {r : List V → Hp → VK → Prop} {t : TA} (h : t σ H fun vs H1 => r vs H1 Q) : tCB r t σ H Q := h
theorem g_nil (h : QL [] H) : tNil σ H QL := h
theorem g_cons {ta : TE} {t : TA} (h : ta σ H fun x H1 => t σ H1 fun xs H2 => QL (x :: xs) H2) : tCons ta t σ H QL := h
def NewL (Q : VK) (xs : List V) (H1 : Hp) : Prop := xs.length ≤ sizeLine ∧ ∀ p, H1 p = none → Q (.ref p) (upd H1 p (.lst xs))
def NewT (Q : VK) (xs : List V) (H1 : Hp) : Prop := xs.length ≤ sizeLine ∧ ∀ p, H1 p = none → Q (.ref p) (upd H1 p (.tup xs))
theorem g_lst {t : TA} (h : t σ H fun xs H1 => NewL Q xs H1) : tLst t σ H Q := h
theorem g_tup {t : TA} (h : t σ H fun xs H1 => NewT Q xs H1) : tTup t σ H Q := h
theorem g_newL {xs : List V} (l : xs.length ≤ 1000) (h : ∀ p, H p = none → Q (.ref p) (upd H p (.lst xs))) : NewL Q xs H := ⟨Nat.le_of_lt (small1000 l), h⟩
theorem g_newT {xs : List V} (l : xs.length ≤ 1000) (h : ∀ p, H p = none → Q (.ref p) (upd H p (.tup xs))) : NewT Q xs H := ⟨Nat.le_of_lt (small1000 l), h⟩
theorem g_call {sp : Sp} {E : XK} {t : TA} (h : t σ H fun vs H1 => sp vs H1 Q E) : tCall sp [] E t σ H Q := by
  show t σ H fun vs H1 => sp (vs ++ []) H1 Q E
  simp only [List.append_nil]
  exact h
theorem g_if {t : TT} {ta tb : TE} (h : t σ H fun c H1 => if c = true then ta σ H1 Q else tb σ H1 Q) : tIf t ta tb σ H Q := h
theorem g_andV {ta tb : TE} (h : ta σ H fun x H1 => ∃ c, x = .bl c ∧ if c = true then tb σ H1 Q else Q (.bl false) H1) : tAndV ta tb σ H Q := h
theorem g_orV {ta tb : TE} (h : ta σ H fun x H1 => ∃ c, x = .bl c ∧ if c = true then Q (.bl true) H1 else tb σ H1 Q) : tOrV ta tb σ H Q := h
def ChR (r : R2) (tc : TE) (σ : L2.St) (Q : VK) (y z : V) (H3 : Hp) : Prop := ∃ k, z = .bl k ∧ (if k = true then tc σ H3 fun w H4 => r y w H4 Q else Q (.bl false) H3)
theorem g_chain {r r' : R2} {ta tb tc : TE} (h : ta σ H fun x H1 => tb σ H1 fun y H2 => r x y H2 (ChR r' tc σ Q y)) : tChain r r' ta tb tc σ H Q := h
theorem g_chR {r : R2} {tc : TE} {y : V} {b : Bool} (h : if b = true then tc σ H fun w H4 => r y w H4 Q else Q (.bl false) H) : ChR r tc σ Q y (.bl b) H := ⟨b, rfl, h⟩
theorem g_notV {ta : TE} (h : ta σ H fun x H1 => ∃ c, x = .bl c ∧ Q (.bl (!c)) H1) : tNotV ta σ H Q := h
theorem g_b {t : TE} (h : t σ H fun x H1 => ∃ c, x = .bl c ∧ QB c H1) : tB t σ H QB := h
theorem g_test {t : TE} (h : t σ H fun x H1 => ∃ c, x = .bl c ∧ QB c H1) : tTest t σ H QB := h
theorem g_and {t u : TT} (h : t σ H fun c H1 => if c = true then u σ H1 QB else QB false H1) : tAnd t u σ H QB := h
theorem g_or {t u : TT} (h : t σ H fun c H1 => if c = true then QB true H1 else u σ H1 QB) : tOr t u σ H QB := h
theorem g_not {t : TT} (h : t σ H fun c H1 => QB (!c) H1) : tNot t σ H QB := h
theorem g_yes (h : QB true H) : tYes σ H QB := h
theorem g_bl {b : Bool} {R : Bool → Prop} (h : R b) : ∃ c, V.bl b = V.bl c ∧ R c := ⟨b, rfl, h⟩
theorem g_sub {to ti : TE} {t : TSet} {v : V} {N : L2.St → Hp → Prop} (h : to σ H fun o H1 => ti σ H1 fun i H2 => t o i v H2 fun H3 => N σ H3) : gSub to ti t v σ H N := h
def KArg (n m : Nat) (sp : Sp) (gV : List V → List V → List V) (E : XK) (Q : VK) (vs zs : List V) (H : Hp) : Prop := vs.length = n ∧ zs.length = m ∧ sp (gV vs zs) H Q E
theorem g_callN {n m : Nat} {sp : Sp} {gV : List V → List V → List V} {E : XK} {t tk : TA} (h : t σ H fun vs H1 => tk σ H1 fun zs H2 => KArg n m sp gV E Q vs zs H2) : tCallN n m sp gV E t tk σ H Q := h
theorem g_kArg {n m : Nat} {sp : Sp} {gV : List V → List V → List V} {E : XK} {vs zs ws : List V} (h1 : vs.length = n) (h2 : zs.length = m) (e : gV vs zs = ws) (h : sp ws H Q E) : KArg n m sp gV E Q vs zs H := ⟨h1, h2, by rw [e]; exact h⟩
def BmR (K : PySem.W.Frag) (T : String) (r : V → List V → Hp → VK → Prop) (t : TA) (σ : L2.St) (Q : VK) (x : V) (H1 : Hp) : Prop := tyV K T x H1 ∧ t σ H1 fun xs H2 => r x xs H2 Q
theorem g_bm {K : PySem.W.Frag} {T : String} {r : V → List V → Hp → VK → Prop} {to : TE} {t : TA} (h : to σ H (BmR K T r t σ Q)) : tBM K T r to t σ H Q := h
theorem g_bmL {K : PySem.W.Frag} {r : V → List V → Hp → VK → Prop} {t : TA} {p : Addr} {xs : List V} (h : SqL K H p xs) (q : t σ H fun ys H2 => r (.ref p) ys H2 Q) : BmR K "list" r t σ Q (.ref p) H := ⟨.inl ⟨rfl, xs, h⟩, q⟩
def FldR (K : PySem.W.Frag) (f : Str) (Q : VK) (x : V) (H1 : Hp) : Prop := ∃ a C dx fs v, x = .ref a ∧ H1 a = some (.ins C dx fs) ∧ Cls K C ∧ NoAttr K C f ∧ fs.lookup f = some v ∧ Q v H1
theorem g_fld {K : PySem.W.Frag} {ta : TE} {f : Str} (h : ta σ H (FldR K f Q)) : tFld K ta f σ H Q := h
theorem g_fldR {K : PySem.W.Frag} {f : Str} {a C dx : Addr} {fs : List (Str × V)} {v : V} (h : H a = some (.ins C dx fs)) (c : Cls K C) (n : NoAttr K C f) (l : fs.lookup f = some v) (q : Q v H) : FldR K f Q (.ref a) H := ⟨a, C, dx, fs, v, rfl, h, c, n, l, q⟩
def MethR (C : Addr) (m : Str) (sp : Sp) (E : XK) (t : TA) (σ : L2.St) (Q : VK) (x : V) (H1 : Hp) : Prop := ∃ a dx fs, x = .ref a ∧ H1 a = some (.ins C dx fs) ∧ fs.lookup m = none ∧ t σ H1 fun vs H2 => sp (x :: vs) H2 Q E
theorem g_meth {C : Addr} {m : Str} {sp : Sp} {E : XK} {ta : TE} {t : TA} (h : ta σ H (MethR C m sp E t σ Q)) : tMeth C m sp [] E ta t σ H Q := by
  show ta σ H fun x H1 => ∃ a dx fs, x = .ref a ∧ H1 a = some (.ins C dx fs) ∧ fs.lookup m = none ∧ t σ H1 fun vs H2 => sp (x :: (vs ++ [])) H2 Q E
  simp only [List.append_nil]
  exact h
theorem g_methR {C : Addr} {m : Str} {sp : Sp} {E : XK} {t : TA} {a dx : Addr} {fs : List (Str × V)} (h : H a = some (.ins C dx fs)) (l : fs.lookup m = none) (q : t σ H fun vs H2 => sp (.ref a :: vs) H2 Q E) : MethR C m sp E t σ Q (.ref a) H := ⟨a, dx, fs, rfl, h, l, q⟩
def SFldR (K : PySem.W.Frag) (f : Str) (D : Ends) (σ : L2.St) (y x : V) (H2 : Hp) : Prop := ∃ a C dx fs, x = .ref a ∧ H2 a = some (.ins C dx fs) ∧ Cls K C ∧ NoAttr K C f ∧ fs.length < 1000 ∧ D.nx σ (upd H2 a (.ins C dx (putF f y fs)))
theorem g_sfld {K : PySem.W.Frag} {ta tv : TE} {f : Str} (h : tv σ H fun y H1 => ta σ H1 (SFldR K f D σ y)) : sFld K ta tv f D σ H := h
theorem g_sfldR {K : PySem.W.Frag} {f : Str} {a C dx : Addr} {fs : List (Str × V)} {y : V} (h : H a = some (.ins C dx fs)) (c : Cls K C) (n : NoAttr K C f) (l : fs.length < 1000) (q : D.nx σ (upd H a (.ins C dx (putF f y fs)))) : SFldR K f D σ y (.ref a) H := ⟨a, C, dx, fs, rfl, h, c, n, l, q⟩
/-! values -/
theorem g_rI0 {g : Int → Int → V} {i j : Int} (h : Q (g i j) H) : rI0 g (.int i) (.int j) H Q := ⟨i, j, rfl, rfl, h⟩
theorem g_rI {C : Int → Int → Prop} {g : Int → Int → V} {i j : Int} (c : C i j) (h : Q (g i j) H) : rI C g (.int i) (.int j) H Q := ⟨i, j, rfl, rfl, c, h⟩
theorem g_rU {g : Int → V} {i : Int} (h : Q (g i) H) : rU g (.int i) H Q := ⟨i, rfl, h⟩
theorem g_eqI {i j : Int} (h : Q (.bl (decide (i = j))) H) : rEq (.int i) (.int j) H Q :=
  ⟨rfl, by rw [show decide (V.int i = V.int j) = decide (i = j) from by simp only [V.int.injEq]]; exact h⟩
theorem g_neI {i j : Int} (h : Q (.bl (!decide (i = j))) H) : rNe (.int i) (.int j) H Q :=
  ⟨rfl, by rw [show decide (V.int i = V.int j) = decide (i = j) from by simp only [V.int.injEq]]; exact h⟩
theorem g_eqS {i j : Str} (h : Q (.bl (decide (i = j))) H) : rEq (.str i) (.str j) H Q :=
  ⟨rfl, by rw [show decide (V.str i = V.str j) = decide (i = j) from by simp only [V.str.injEq]]; exact h⟩
theorem g_eqB {i j : Bool} (h : Q (.bl (decide (i = j))) H) : rEq (.bl i) (.bl j) H Q :=
  ⟨rfl, by rw [show decide (V.bl i = V.bl j) = decide (i = j) from by simp only [V.bl.injEq]]; exact h⟩
theorem g_neB {i j : Bool} (h : Q (.bl (!decide (i = j))) H) : rNe (.bl i) (.bl j) H Q :=
  ⟨rfl, by rw [show decide (V.bl i = V.bl j) = decide (i = j) from by simp only [V.bl.injEq]]; exact h⟩
theorem g_isN {x : V} (h : Q (.bl (decide (x = .non))) H) : (∃ _ : Unit, True) ∧ Q (.bl (decide (x = .non))) H := ⟨⟨(), trivial⟩, h⟩
theorem g_ixL {K : PySem.W.Frag} {p : Addr} {xs : List V} {i : Int} {v : V} (h : SqL K H p xs) (e : atI xs i = some v) (q : Q v H) : rIxL K (.ref p) (.int i) H Q := ⟨p, xs, i, v, rfl, rfl, h, e, q⟩
theorem g_setL {p : Addr} {xs : List V} {k : Int} {j : Nat} {v : V} {N : Hp → Prop} (h : H p = some (.lst xs)) (e : ixN xs.length k = some j) (q : N (upd H p (.lst (xs.set j v)))) : rSetL (.ref p) (.int k) v H N := ⟨p, xs, k, j, rfl, rfl, h, e, q⟩
theorem g_p6 (h : Q (.int 1000000) H) : rI CPow (fun i j => V.int (i ^ j.toNat)) (.int 10) (.int 6) H Q := ⟨10, 6, rfl, rfl, ⟨by decide, by decide, by decide⟩, h⟩
theorem g_p18 (h : Q (.int 1000000000000000000) H) : rI CPow (fun i j => V.int (i ^ j.toNat)) (.int 10) (.int 18) H Q := ⟨10, 18, rfl, rfl, ⟨by decide, by decide, by decide⟩, h⟩
theorem g_sl {r : V → Option Int → Option Int → Hp → VK → Prop} {te : TE} {tl th : TO} (h : te σ H fun x H1 => tl σ H1 fun l H2 => th σ H2 fun u H3 => r x l u H3 Q) : tSl r te tl th σ H Q := h
def PartR (x : V) (R : Option Int → Hp → Prop) (H : Hp) : Prop := ∃ i, x = .int i ∧ R (some i) H
theorem g_part {te : TE} {R : Option Int → Hp → Prop} (h : te σ H fun x H1 => PartR x R H1) : tPart te σ H R := h
theorem g_partI {i : Int} {R : Option Int → Hp → Prop} (h : R (some i) H) : PartR (.int i) R H := ⟨i, rfl, h⟩
theorem g_cat {l b : Addr} {xs zs : List V} (h1 : H l = some (.lst xs)) (h2 : H b = some (.lst zs)) (hl : xs.length + zs.length ≤ 1000) (q : ∀ p, H p = none → Q (.ref p) (upd H p (.lst (xs ++ zs)))) : rCat (.ref l) (.ref b) H Q :=
  ⟨l, b, xs, zs, rfl, rfl, h1, h2, Nat.le_of_lt (small1000 hl), q⟩
theorem g_ixS {K : PySem.W.Frag} {p : Addr} {xs : List V} {i : Int} {v : V} (h : SqL K H p xs) (e : atI xs i = some v) (q : Q v H) : rIxL K (.ref p) (.int i) H Q := g_ixL h e q
theorem g_noPart {R : Option Int → Hp → Prop} (h : R none H) : tNoPart σ H R := h
theorem g_slL {K : PySem.W.Frag} {a : Addr} {xs : List V} {lo hi : Option Int} (h : SqL K H a xs) (q : ∀ p, H p = none → Q (.ref p) (upd H p (.lst (cutV xs lo hi)))) : rSlL K (.ref a) lo hi H Q := ⟨a, xs, rfl, h, q⟩
theorem g_in {K : PySem.W.Frag} {p : Addr} {x : V} {xs : List V} (h : SqL K H p xs ∨ SqT K H p xs) (fx : flatV x = true) (fs : xs.all flatV = true) (q : Q (.bl (inV x xs)) H) : rIn K false x (.ref p) H Q := ⟨p, xs, rfl, h, fx, fs, q⟩
theorem g_notin {K : PySem.W.Frag} {p : Addr} {x : V} {xs : List V} (h : SqL K H p xs ∨ SqT K H p xs) (fx : flatV x = true) (fs : xs.all flatV = true) (q : Q (.bl (!inV x xs)) H) : rIn K true x (.ref p) H Q := ⟨p, xs, rfl, h, fx, fs, q⟩
theorem flat_ints (ns : List Int) : (ns.map V.int).all flatV = true := by
  induction ns with
  | nil => rfl
  | cons n r ih => rw [List.map_cons, List.all_cons, ih]; rfl
theorem in_ints (i : Int) (ns : List Int) : inV (.int i) (ns.map V.int) = decide (i ∈ ns) := by
  unfold inV
  induction ns with
  | nil => rfl
  | cons n r ih =>
    rw [List.map_cons, List.any_cons, ih]
    show (n == i || decide (i ∈ r)) = decide (i ∈ n :: r)
    by_cases e : n = i
    · subst e; simp
    · have e2 : ¬ i = n := fun z => e z.symm
      simp [e, e2]
theorem g_inI {K : PySem.W.Frag} {p : Addr} {i : Int} {ns : List Int} (h : SqL K H p (ns.map V.int) ∨ SqT K H p (ns.map V.int)) (q : Q (.bl (decide (i ∈ ns))) H) : rIn K false (.int i) (.ref p) H Q :=
  g_in h rfl (flat_ints ns) (by rw [in_ints]; exact q)
theorem g_notinI {K : PySem.W.Frag} {p : Addr} {i : Int} {ns : List Int} (h : SqL K H p (ns.map V.int) ∨ SqT K H p (ns.map V.int)) (q : Q (.bl (!decide (i ∈ ns))) H) : rIn K true (.int i) (.ref p) H Q :=
  g_notin h rfl (flat_ints ns) (by rw [in_ints]; exact q)
/-! tests known and open -/
theorem g_iteD {p A B : Prop} [Decidable p] (h1 : p → A) (h2 : ¬ p → B) : if decide p = true then A else B := by
  by_cases h : p
  · rw [if_pos (decide_eq_true h)]; exact h1 h
  · rw [if_neg (by simp [h])]; exact h2 h
theorem g_iteN {p A B : Prop} [Decidable p] (h1 : ¬ p → A) (h2 : p → B) : if (!decide p) = true then A else B := by
  by_cases h : p
  · rw [if_neg (by simp [h])]; exact h2 h
  · rw [if_pos (by simp [h])]; exact h1 h
theorem g_iteY {p A B : Prop} [Decidable p] (h : p) (h1 : A) : if decide p = true then A else B := by
  rw [if_pos (decide_eq_true h)]; exact h1
theorem g_iteX {p A B : Prop} [Decidable p] (h : ¬ p) (h1 : B) : if decide p = true then A else B := by
  rw [if_neg (by simp [h])]; exact h1
theorem g_iteNY {p A B : Prop} [Decidable p] (h : ¬ p) (h1 : A) : if (!decide p) = true then A else B := by
  rw [if_pos (by simp [h])]; exact h1
theorem g_iteNX {p A B : Prop} [Decidable p] (h : p) (h1 : B) : if (!decide p) = true then A else B := by
  rw [if_neg (by simp [h])]; exact h1
theorem g_iteCT {b : Bool} {A B : Prop} (h : b = true) (q : A) : if b = true then A else B := by rw [if_pos h]; exact q
theorem g_iteCF {b : Bool} {A B : Prop} (h : b = false) (q : B) : if b = true then A else B := by rw [h, if_neg Bool.false_ne_true]; exact q
theorem g_iteBB {b : Bool} {A B : Prop} (h1 : b = true → A) (h2 : b = false → B) : if b = true then A else B := by
  cases b
  · rw [if_neg Bool.false_ne_true]; exact h2 rfl
  · rw [if_pos rfl]; exact h1 rfl
end
/-! ### built-ins, named -/
section
variable {X : Cx} {σ : L2.St} {H : Hp} {Q : VK}
def qInt : List V → Hp → VK → Prop := fun xs H Q => ∃ i, xs = [.int i] ∧ Q (.int i) H
theorem c_int : CallR X (.type "int") qInt := fun pins s σ H xs us Q I r h => call_int1 pins s σ H xs us Q I r (.inl h)
theorem g_int {i : Int} (h : Q (.int i) H) : qInt [.int i] H Q := ⟨i, rfl, h⟩
def qLen (K : PySem.W.Frag) : List V → Hp → VK → Prop := fun xs H Q => ∃ p ys, xs = [.ref p] ∧ (SqL K H p ys ∨ SqT K H p ys) ∧ Q (.int ys.length) H
theorem c_len : CallR X (.builtin "len") (qLen X.K) := call_len_seq
theorem g_len {K : PySem.W.Frag} {p : Addr} {ys : List V} (h : SqL K H p ys ∨ SqT K H p ys) (q : Q (.int ys.length) H) : qLen K [.ref p] H Q := ⟨p, ys, rfl, h, q⟩
def qList (K : PySem.W.Frag) : List V → Hp → VK → Prop := fun xs H Q => ∃ p ys, xs = [.ref p] ∧ (SqL K H p ys ∨ SqT K H p ys) ∧ ∀ l, H l = none → Q (.ref l) (upd H l (.lst ys))
theorem c_list : CallR X (.type "list") (qList X.K) := call_list_of
theorem g_list {K : PySem.W.Frag} {p : Addr} {ys : List V} (h : SqL K H p ys ∨ SqT K H p ys) (q : ∀ l, H l = none → Q (.ref l) (upd H l (.lst ys))) : qList K [.ref p] H Q := ⟨p, ys, rfl, h, q⟩
def qTuple (K : PySem.W.Frag) : List V → Hp → VK → Prop := fun xs H Q => ∃ p ys, xs = [.ref p] ∧ SqL K H p ys ∧ ∀ l, H l = none → Q (.ref l) (upd H l (.tup ys))
theorem c_tuple : CallR X (.type "tuple") (qTuple X.K) := fun pins s σ H xs us Q I r ⟨p, ys, e, h, q⟩ => call_tuple_of pins s σ H xs us Q I r ⟨p, ys, e, .inl ⟨h, q⟩⟩
theorem g_tuple {K : PySem.W.Frag} {p : Addr} {ys : List V} (h : SqL K H p ys) (q : ∀ l, H l = none → Q (.ref l) (upd H l (.tup ys))) : qTuple K [.ref p] H Q := ⟨p, ys, rfl, h, q⟩
theorem g_sum {K : PySem.W.Frag} {a : Addr} {ns : List Int} (h : SqL K H a (ns.map V.int)) (q : Q (.int ns.sum) H) : rSum K [.ref a] H Q := ⟨a, ns, rfl, h, q⟩
theorem g_max {K : PySem.W.Frag} {a : Addr} {ns : List Int} (h : SqL K H a (ns.map V.int)) (l : 0 < ns.length) (q : ∀ m, m ∈ ns → (∀ y, y ∈ ns → y ≤ m) → Q (.int m) H) : rMax K [.ref a] H Q := ⟨a, ns, rfl, h, l, q⟩
theorem g_any {K : PySem.W.Frag} {a : Addr} {bs : List Bool} (h : SqL K H a (bs.map V.bl)) (q : Q (.bl (bs.any id)) H) : rAny K [.ref a] H Q := ⟨a, bs, rfl, h, q⟩
theorem g_all {K : PySem.W.Frag} {a : Addr} {bs : List Bool} (h : SqL K H a (bs.map V.bl)) (q : Q (.bl (bs.all id)) H) : rAll K [.ref a] H Q := ⟨a, bs, rfl, h, q⟩
def qIsN : R2 := fun x y H Q => y = .non ∧ Q (.bl (decide (x = .non))) H
theorem o_isN : OpR X (compareOp .Is) qIsN := op_isN
theorem g_isNr {r : Addr} (h : Q (.bl false) H) : qIsN (.ref r) .non H Q := ⟨rfl, by rw [decide_eq_false (by intro e; cases e)]; exact h⟩
theorem g_isNn (h : Q (.bl true) H) : qIsN .non .non H Q := ⟨rfl, h⟩
theorem g_isNb {b : Bool} (h : Q (.bl false) H) : qIsN (.bl b) .non H Q := ⟨rfl, by rw [decide_eq_false (by intro e; cases e)]; exact h⟩
theorem g_isNs {z : Str} (h : Q (.bl false) H) : qIsN (.str z) .non H Q := ⟨rfl, by rw [decide_eq_false (by intro e; cases e)]; exact h⟩
theorem g_isNi {i : Int} (h : Q (.bl false) H) : qIsN (.int i) .non H Q := ⟨rfl, by rw [decide_eq_false (by intro e; cases e)]; exact h⟩
end

theorem g_v0 {v : V} {r : L2.St} {H : Hp} {Q : VK} (h : Q v H) : tVar 0 (some v :: r) H Q := ⟨v, rfl, h⟩
theorem g_n0 {y : Option V} {v : V} {r : L2.St} {H : Hp} {N : L2.St → Hp → Prop} (h : N (some v :: r) H) : gName 0 v (y :: r) H N := h
theorem g_v1 {x0 : Option V} {v : V} {r : L2.St} {H : Hp} {Q : VK} (h : Q v H) : tVar 1 (x0 :: some v :: r) H Q := ⟨v, rfl, h⟩
theorem g_n1 {x0 y : Option V} {v : V} {r : L2.St} {H : Hp} {N : L2.St → Hp → Prop} (h : N (x0 :: some v :: r) H) : gName 1 v (x0 :: y :: r) H N := h
theorem g_v2 {x0 x1 : Option V} {v : V} {r : L2.St} {H : Hp} {Q : VK} (h : Q v H) : tVar 2 (x0 :: x1 :: some v :: r) H Q := ⟨v, rfl, h⟩
theorem g_n2 {x0 x1 y : Option V} {v : V} {r : L2.St} {H : Hp} {N : L2.St → Hp → Prop} (h : N (x0 :: x1 :: some v :: r) H) : gName 2 v (x0 :: x1 :: y :: r) H N := h
theorem g_v3 {x0 x1 x2 : Option V} {v : V} {r : L2.St} {H : Hp} {Q : VK} (h : Q v H) : tVar 3 (x0 :: x1 :: x2 :: some v :: r) H Q := ⟨v, rfl, h⟩
theorem g_n3 {x0 x1 x2 y : Option V} {v : V} {r : L2.St} {H : Hp} {N : L2.St → Hp → Prop} (h : N (x0 :: x1 :: x2 :: some v :: r) H) : gName 3 v (x0 :: x1 :: x2 :: y :: r) H N := h
theorem g_v4 {x0 x1 x2 x3 : Option V} {v : V} {r : L2.St} {H : Hp} {Q : VK} (h : Q v H) : tVar 4 (x0 :: x1 :: x2 :: x3 :: some v :: r) H Q := ⟨v, rfl, h⟩
theorem g_n4 {x0 x1 x2 x3 y : Option V} {v : V} {r : L2.St} {H : Hp} {N : L2.St → Hp → Prop} (h : N (x0 :: x1 :: x2 :: x3 :: some v :: r) H) : gName 4 v (x0 :: x1 :: x2 :: x3 :: y :: r) H N := h
theorem g_v5 {x0 x1 x2 x3 x4 : Option V} {v : V} {r : L2.St} {H : Hp} {Q : VK} (h : Q v H) : tVar 5 (x0 :: x1 :: x2 :: x3 :: x4 :: some v :: r) H Q := ⟨v, rfl, h⟩
theorem g_n5 {x0 x1 x2 x3 x4 y : Option V} {v : V} {r : L2.St} {H : Hp} {N : L2.St → Hp → Prop} (h : N (x0 :: x1 :: x2 :: x3 :: x4 :: some v :: r) H) : gName 5 v (x0 :: x1 :: x2 :: x3 :: x4 :: y :: r) H N := h
theorem g_v6 {x0 x1 x2 x3 x4 x5 : Option V} {v : V} {r : L2.St} {H : Hp} {Q : VK} (h : Q v H) : tVar 6 (x0 :: x1 :: x2 :: x3 :: x4 :: x5 :: some v :: r) H Q := ⟨v, rfl, h⟩
theorem g_n6 {x0 x1 x2 x3 x4 x5 y : Option V} {v : V} {r : L2.St} {H : Hp} {N : L2.St → Hp → Prop} (h : N (x0 :: x1 :: x2 :: x3 :: x4 :: x5 :: some v :: r) H) : gName 6 v (x0 :: x1 :: x2 :: x3 :: x4 :: x5 :: y :: r) H N := h
theorem g_v7 {x0 x1 x2 x3 x4 x5 x6 : Option V} {v : V} {r : L2.St} {H : Hp} {Q : VK} (h : Q v H) : tVar 7 (x0 :: x1 :: x2 :: x3 :: x4 :: x5 :: x6 :: some v :: r) H Q := ⟨v, rfl, h⟩
theorem g_n7 {x0 x1 x2 x3 x4 x5 x6 y : Option V} {v : V} {r : L2.St} {H : Hp} {N : L2.St → Hp → Prop} (h : N (x0 :: x1 :: x2 :: x3 :: x4 :: x5 :: x6 :: some v :: r) H) : gName 7 v (x0 :: x1 :: x2 :: x3 :: x4 :: x5 :: x6 :: y :: r) H N := h
theorem g_v8 {x0 x1 x2 x3 x4 x5 x6 x7 : Option V} {v : V} {r : L2.St} {H : Hp} {Q : VK} (h : Q v H) : tVar 8 (x0 :: x1 :: x2 :: x3 :: x4 :: x5 :: x6 :: x7 :: some v :: r) H Q := ⟨v, rfl, h⟩
theorem g_n8 {x0 x1 x2 x3 x4 x5 x6 x7 y : Option V} {v : V} {r : L2.St} {H : Hp} {N : L2.St → Hp → Prop} (h : N (x0 :: x1 :: x2 :: x3 :: x4 :: x5 :: x6 :: x7 :: some v :: r) H) : gName 8 v (x0 :: x1 :: x2 :: x3 :: x4 :: x5 :: x6 :: x7 :: y :: r) H N := h
theorem g_v9 {x0 x1 x2 x3 x4 x5 x6 x7 x8 : Option V} {v : V} {r : L2.St} {H : Hp} {Q : VK} (h : Q v H) : tVar 9 (x0 :: x1 :: x2 :: x3 :: x4 :: x5 :: x6 :: x7 :: x8 :: some v :: r) H Q := ⟨v, rfl, h⟩
theorem g_n9 {x0 x1 x2 x3 x4 x5 x6 x7 x8 y : Option V} {v : V} {r : L2.St} {H : Hp} {N : L2.St → Hp → Prop} (h : N (x0 :: x1 :: x2 :: x3 :: x4 :: x5 :: x6 :: x7 :: x8 :: some v :: r) H) : gName 9 v (x0 :: x1 :: x2 :: x3 :: x4 :: x5 :: x6 :: x7 :: x8 :: y :: r) H N := h
theorem g_v10 {x0 x1 x2 x3 x4 x5 x6 x7 x8 x9 : Option V} {v : V} {r : L2.St} {H : Hp} {Q : VK} (h : Q v H) : tVar 10 (x0 :: x1 :: x2 :: x3 :: x4 :: x5 :: x6 :: x7 :: x8 :: x9 :: some v :: r) H Q := ⟨v, rfl, h⟩
theorem g_n10 {x0 x1 x2 x3 x4 x5 x6 x7 x8 x9 y : Option V} {v : V} {r : L2.St} {H : Hp} {N : L2.St → Hp → Prop} (h : N (x0 :: x1 :: x2 :: x3 :: x4 :: x5 :: x6 :: x7 :: x8 :: x9 :: some v :: r) H) : gName 10 v (x0 :: x1 :: x2 :: x3 :: x4 :: x5 :: x6 :: x7 :: x8 :: x9 :: y :: r) H N := h
theorem g_v11 {x0 x1 x2 x3 x4 x5 x6 x7 x8 x9 x10 : Option V} {v : V} {r : L2.St} {H : Hp} {Q : VK} (h : Q v H) : tVar 11 (x0 :: x1 :: x2 :: x3 :: x4 :: x5 :: x6 :: x7 :: x8 :: x9 :: x10 :: some v :: r) H Q := ⟨v, rfl, h⟩
theorem g_n11 {x0 x1 x2 x3 x4 x5 x6 x7 x8 x9 x10 y : Option V} {v : V} {r : L2.St} {H : Hp} {N : L2.St → Hp → Prop} (h : N (x0 :: x1 :: x2 :: x3 :: x4 :: x5 :: x6 :: x7 :: x8 :: x9 :: x10 :: some v :: r) H) : gName 11 v (x0 :: x1 :: x2 :: x3 :: x4 :: x5 :: x6 :: x7 :: x8 :: x9 :: x10 :: y :: r) H N := h
theorem g_v12 {x0 x1 x2 x3 x4 x5 x6 x7 x8 x9 x10 x11 : Option V} {v : V} {r : L2.St} {H : Hp} {Q : VK} (h : Q v H) : tVar 12 (x0 :: x1 :: x2 :: x3 :: x4 :: x5 :: x6 :: x7 :: x8 :: x9 :: x10 :: x11 :: some v :: r) H Q := ⟨v, rfl, h⟩
theorem g_n12 {x0 x1 x2 x3 x4 x5 x6 x7 x8 x9 x10 x11 y : Option V} {v : V} {r : L2.St} {H : Hp} {N : L2.St → Hp → Prop} (h : N (x0 :: x1 :: x2 :: x3 :: x4 :: x5 :: x6 :: x7 :: x8 :: x9 :: x10 :: x11 :: some v :: r) H) : gName 12 v (x0 :: x1 :: x2 :: x3 :: x4 :: x5 :: x6 :: x7 :: x8 :: x9 :: x10 :: x11 :: y :: r) H N := h
theorem g_v13 {x0 x1 x2 x3 x4 x5 x6 x7 x8 x9 x10 x11 x12 : Option V} {v : V} {r : L2.St} {H : Hp} {Q : VK} (h : Q v H) : tVar 13 (x0 :: x1 :: x2 :: x3 :: x4 :: x5 :: x6 :: x7 :: x8 :: x9 :: x10 :: x11 :: x12 :: some v :: r) H Q := ⟨v, rfl, h⟩
theorem g_n13 {x0 x1 x2 x3 x4 x5 x6 x7 x8 x9 x10 x11 x12 y : Option V} {v : V} {r : L2.St} {H : Hp} {N : L2.St → Hp → Prop} (h : N (x0 :: x1 :: x2 :: x3 :: x4 :: x5 :: x6 :: x7 :: x8 :: x9 :: x10 :: x11 :: x12 :: some v :: r) H) : gName 13 v (x0 :: x1 :: x2 :: x3 :: x4 :: x5 :: x6 :: x7 :: x8 :: x9 :: x10 :: x11 :: x12 :: y :: r) H N := h
theorem g_v14 {x0 x1 x2 x3 x4 x5 x6 x7 x8 x9 x10 x11 x12 x13 : Option V} {v : V} {r : L2.St} {H : Hp} {Q : VK} (h : Q v H) : tVar 14 (x0 :: x1 :: x2 :: x3 :: x4 :: x5 :: x6 :: x7 :: x8 :: x9 :: x10 :: x11 :: x12 :: x13 :: some v :: r) H Q := ⟨v, rfl, h⟩
theorem g_n14 {x0 x1 x2 x3 x4 x5 x6 x7 x8 x9 x10 x11 x12 x13 y : Option V} {v : V} {r : L2.St} {H : Hp} {N : L2.St → Hp → Prop} (h : N (x0 :: x1 :: x2 :: x3 :: x4 :: x5 :: x6 :: x7 :: x8 :: x9 :: x10 :: x11 :: x12 :: x13 :: some v :: r) H) : gName 14 v (x0 :: x1 :: x2 :: x3 :: x4 :: x5 :: x6 :: x7 :: x8 :: x9 :: x10 :: x11 :: x12 :: x13 :: y :: r) H N := h
theorem g_v15 {x0 x1 x2 x3 x4 x5 x6 x7 x8 x9 x10 x11 x12 x13 x14 : Option V} {v : V} {r : L2.St} {H : Hp} {Q : VK} (h : Q v H) : tVar 15 (x0 :: x1 :: x2 :: x3 :: x4 :: x5 :: x6 :: x7 :: x8 :: x9 :: x10 :: x11 :: x12 :: x13 :: x14 :: some v :: r) H Q := ⟨v, rfl, h⟩
theorem g_n15 {x0 x1 x2 x3 x4 x5 x6 x7 x8 x9 x10 x11 x12 x13 x14 y : Option V} {v : V} {r : L2.St} {H : Hp} {N : L2.St → Hp → Prop} (h : N (x0 :: x1 :: x2 :: x3 :: x4 :: x5 :: x6 :: x7 :: x8 :: x9 :: x10 :: x11 :: x12 :: x13 :: x14 :: some v :: r) H) : gName 15 v (x0 :: x1 :: x2 :: x3 :: x4 :: x5 :: x6 :: x7 :: x8 :: x9 :: x10 :: x11 :: x12 :: x13 :: x14 :: y :: r) H N := h

theorem g_ixL0 {K : PySem.W.Frag} {p : Addr} {H : Hp} {Q : VK} {v : V} {r : List V} (h : SqL K H p (v :: r)) (q : Q v H) : rIxL K (.ref p) (.int 0) H Q := g_ixL h (atI_nat (j := 0) rfl) q
theorem g_setL0 {p : Addr} {H : Hp} {N : Hp → Prop} {y : V} {v : V} {r : List V} (h : H p = some (.lst (y :: r))) (q : N (upd H p (.lst (v :: r)))) : rSetL (.ref p) (.int 0) v H N :=
  ⟨p, _, 0, 0, rfl, rfl, h, by unfold ixN; rw [if_pos (by omega), if_pos (by simp only [List.length_cons]; omega)]; rfl, q⟩
theorem g_ixL1 {K : PySem.W.Frag} {p : Addr} {H : Hp} {Q : VK} {x0 : V} {v : V} {r : List V} (h : SqL K H p (x0 :: v :: r)) (q : Q v H) : rIxL K (.ref p) (.int 1) H Q := g_ixL h (atI_nat (j := 1) rfl) q
theorem g_setL1 {p : Addr} {H : Hp} {N : Hp → Prop} {x0 y : V} {v : V} {r : List V} (h : H p = some (.lst (x0 :: y :: r))) (q : N (upd H p (.lst (x0 :: v :: r)))) : rSetL (.ref p) (.int 1) v H N :=
  ⟨p, _, 1, 1, rfl, rfl, h, by unfold ixN; rw [if_pos (by omega), if_pos (by simp only [List.length_cons]; omega)]; rfl, q⟩
theorem g_ixL2 {K : PySem.W.Frag} {p : Addr} {H : Hp} {Q : VK} {x0 x1 : V} {v : V} {r : List V} (h : SqL K H p (x0 :: x1 :: v :: r)) (q : Q v H) : rIxL K (.ref p) (.int 2) H Q := g_ixL h (atI_nat (j := 2) rfl) q
theorem g_setL2 {p : Addr} {H : Hp} {N : Hp → Prop} {x0 x1 y : V} {v : V} {r : List V} (h : H p = some (.lst (x0 :: x1 :: y :: r))) (q : N (upd H p (.lst (x0 :: x1 :: v :: r)))) : rSetL (.ref p) (.int 2) v H N :=
  ⟨p, _, 2, 2, rfl, rfl, h, by unfold ixN; rw [if_pos (by omega), if_pos (by simp only [List.length_cons]; omega)]; rfl, q⟩
theorem g_ixL3 {K : PySem.W.Frag} {p : Addr} {H : Hp} {Q : VK} {x0 x1 x2 : V} {v : V} {r : List V} (h : SqL K H p (x0 :: x1 :: x2 :: v :: r)) (q : Q v H) : rIxL K (.ref p) (.int 3) H Q := g_ixL h (atI_nat (j := 3) rfl) q
theorem g_setL3 {p : Addr} {H : Hp} {N : Hp → Prop} {x0 x1 x2 y : V} {v : V} {r : List V} (h : H p = some (.lst (x0 :: x1 :: x2 :: y :: r))) (q : N (upd H p (.lst (x0 :: x1 :: x2 :: v :: r)))) : rSetL (.ref p) (.int 3) v H N :=
  ⟨p, _, 3, 3, rfl, rfl, h, by unfold ixN; rw [if_pos (by omega), if_pos (by simp only [List.length_cons]; omega)]; rfl, q⟩
theorem g_ixL4 {K : PySem.W.Frag} {p : Addr} {H : Hp} {Q : VK} {x0 x1 x2 x3 : V} {v : V} {r : List V} (h : SqL K H p (x0 :: x1 :: x2 :: x3 :: v :: r)) (q : Q v H) : rIxL K (.ref p) (.int 4) H Q := g_ixL h (atI_nat (j := 4) rfl) q
theorem g_setL4 {p : Addr} {H : Hp} {N : Hp → Prop} {x0 x1 x2 x3 y : V} {v : V} {r : List V} (h : H p = some (.lst (x0 :: x1 :: x2 :: x3 :: y :: r))) (q : N (upd H p (.lst (x0 :: x1 :: x2 :: x3 :: v :: r)))) : rSetL (.ref p) (.int 4) v H N :=
  ⟨p, _, 4, 4, rfl, rfl, h, by unfold ixN; rw [if_pos (by omega), if_pos (by simp only [List.length_cons]; omega)]; rfl, q⟩
theorem g_ixL5 {K : PySem.W.Frag} {p : Addr} {H : Hp} {Q : VK} {x0 x1 x2 x3 x4 : V} {v : V} {r : List V} (h : SqL K H p (x0 :: x1 :: x2 :: x3 :: x4 :: v :: r)) (q : Q v H) : rIxL K (.ref p) (.int 5) H Q := g_ixL h (atI_nat (j := 5) rfl) q
theorem g_setL5 {p : Addr} {H : Hp} {N : Hp → Prop} {x0 x1 x2 x3 x4 y : V} {v : V} {r : List V} (h : H p = some (.lst (x0 :: x1 :: x2 :: x3 :: x4 :: y :: r))) (q : N (upd H p (.lst (x0 :: x1 :: x2 :: x3 :: x4 :: v :: r)))) : rSetL (.ref p) (.int 5) v H N :=
  ⟨p, _, 5, 5, rfl, rfl, h, by unfold ixN; rw [if_pos (by omega), if_pos (by simp only [List.length_cons]; omega)]; rfl, q⟩
theorem g_ixL6 {K : PySem.W.Frag} {p : Addr} {H : Hp} {Q : VK} {x0 x1 x2 x3 x4 x5 : V} {v : V} {r : List V} (h : SqL K H p (x0 :: x1 :: x2 :: x3 :: x4 :: x5 :: v :: r)) (q : Q v H) : rIxL K (.ref p) (.int 6) H Q := g_ixL h (atI_nat (j := 6) rfl) q
theorem g_setL6 {p : Addr} {H : Hp} {N : Hp → Prop} {x0 x1 x2 x3 x4 x5 y : V} {v : V} {r : List V} (h : H p = some (.lst (x0 :: x1 :: x2 :: x3 :: x4 :: x5 :: y :: r))) (q : N (upd H p (.lst (x0 :: x1 :: x2 :: x3 :: x4 :: x5 :: v :: r)))) : rSetL (.ref p) (.int 6) v H N :=
  ⟨p, _, 6, 6, rfl, rfl, h, by unfold ixN; rw [if_pos (by omega), if_pos (by simp only [List.length_cons]; omega)]; rfl, q⟩
theorem g_ixL7 {K : PySem.W.Frag} {p : Addr} {H : Hp} {Q : VK} {x0 x1 x2 x3 x4 x5 x6 : V} {v : V} {r : List V} (h : SqL K H p (x0 :: x1 :: x2 :: x3 :: x4 :: x5 :: x6 :: v :: r)) (q : Q v H) : rIxL K (.ref p) (.int 7) H Q := g_ixL h (atI_nat (j := 7) rfl) q
theorem g_setL7 {p : Addr} {H : Hp} {N : Hp → Prop} {x0 x1 x2 x3 x4 x5 x6 y : V} {v : V} {r : List V} (h : H p = some (.lst (x0 :: x1 :: x2 :: x3 :: x4 :: x5 :: x6 :: y :: r))) (q : N (upd H p (.lst (x0 :: x1 :: x2 :: x3 :: x4 :: x5 :: x6 :: v :: r)))) : rSetL (.ref p) (.int 7) v H N :=
  ⟨p, _, 7, 7, rfl, rfl, h, by unfold ixN; rw [if_pos (by omega), if_pos (by simp only [List.length_cons]; omega)]; rfl, q⟩
theorem g_ixL8 {K : PySem.W.Frag} {p : Addr} {H : Hp} {Q : VK} {x0 x1 x2 x3 x4 x5 x6 x7 : V} {v : V} {r : List V} (h : SqL K H p (x0 :: x1 :: x2 :: x3 :: x4 :: x5 :: x6 :: x7 :: v :: r)) (q : Q v H) : rIxL K (.ref p) (.int 8) H Q := g_ixL h (atI_nat (j := 8) rfl) q
theorem g_setL8 {p : Addr} {H : Hp} {N : Hp → Prop} {x0 x1 x2 x3 x4 x5 x6 x7 y : V} {v : V} {r : List V} (h : H p = some (.lst (x0 :: x1 :: x2 :: x3 :: x4 :: x5 :: x6 :: x7 :: y :: r))) (q : N (upd H p (.lst (x0 :: x1 :: x2 :: x3 :: x4 :: x5 :: x6 :: x7 :: v :: r)))) : rSetL (.ref p) (.int 8) v H N :=
  ⟨p, _, 8, 8, rfl, rfl, h, by unfold ixN; rw [if_pos (by omega), if_pos (by simp only [List.length_cons]; omega)]; rfl, q⟩
theorem g_ixL9 {K : PySem.W.Frag} {p : Addr} {H : Hp} {Q : VK} {x0 x1 x2 x3 x4 x5 x6 x7 x8 : V} {v : V} {r : List V} (h : SqL K H p (x0 :: x1 :: x2 :: x3 :: x4 :: x5 :: x6 :: x7 :: x8 :: v :: r)) (q : Q v H) : rIxL K (.ref p) (.int 9) H Q := g_ixL h (atI_nat (j := 9) rfl) q
theorem g_setL9 {p : Addr} {H : Hp} {N : Hp → Prop} {x0 x1 x2 x3 x4 x5 x6 x7 x8 y : V} {v : V} {r : List V} (h : H p = some (.lst (x0 :: x1 :: x2 :: x3 :: x4 :: x5 :: x6 :: x7 :: x8 :: y :: r))) (q : N (upd H p (.lst (x0 :: x1 :: x2 :: x3 :: x4 :: x5 :: x6 :: x7 :: x8 :: v :: r)))) : rSetL (.ref p) (.int 9) v H N :=
  ⟨p, _, 9, 9, rfl, rfl, h, by unfold ixN; rw [if_pos (by omega), if_pos (by simp only [List.length_cons]; omega)]; rfl, q⟩

theorem Chg.put {a : Addr} {H H1 : Hp} {o : HO} (h : Chg a H H1) : Chg a H (L2.upd H1 a o) := h.trans Chg.upd
theorem Chg.lay {a p : Addr} {H H1 : Hp} {o : HO} (h : Chg a H H1) (hp : H1 p = none) : Chg a H (L2.upd H1 p o) := h.trans (Chg.new hp)
theorem Chg.putn {a D : Addr} {H H1 : Hp} {o : HO} (h : Chg a H H1) (hD : H D = none) : Chg a H (L2.upd H1 D o) := fun b u n e => by
  rw [upd_ne (ne_of_none e hD)]
  exact h b u n e
theorem Same.lay {p : Addr} {H H1 : Hp} {o : HO} (h : Same H H1) (hp : H1 p = none) : Same H (L2.upd H1 p o) := h.trans (same_new hp)

theorem g_cut {t u : TS} {D : Ends} {σ : L2.St} {H : Hp} (Mid : L2.St → Hp → Prop) (h1 : t { D with nx := Mid } σ H) (h2 : ∀ σ' H', Mid σ' H' → u D σ' H') : C8.tCut t u D σ H := ⟨Mid, h1, h2⟩
/-! ### heaps -/
theorem h_same {H : Hp} {a : Addr} {o u : HO} (e : o = u) : upd H a o a = some u := by rw [upd_same, e]
theorem h_ne {H : Hp} {a b : Addr} {o u : HO} (n : b ≠ a) (h : H b = some u) : upd H a o b = some u := by rw [upd_ne n]; exact h
theorem h_chg {H H' : Hp} {a b : Addr} {u : HO} (c : Chg a H H') (n : b ≠ a) (h : H b = some u) : H' b = some u := c b u n h
theorem h_sm {H H' : Hp} {b : Addr} {u : HO} (c : Same H H') (h : H b = some u) : H' b = some u := c b u h
/-! ### the rules that speak of the written part, with that part as a letter -/
section
variable {X : Cx} {K : PySem.W.Frag}
def qIx (K : PySem.W.Frag) : R2 := fun x y H Q => ∃ p xs i v, x = .ref p ∧ y = .int i ∧ (SqL K H p xs ∨ SqT K H p xs) ∧ atI xs i = some v ∧ Q v H
theorem k_ix (e : X.K = K) : IxR X (qIx K) := by
  subst e
  intro value slice pins s σ H x y v u Q I rx ry h hs
  obtain ⟨p, xs, i, z, e1, e2, h1 | h1, h2, h3⟩ := h
  · exact ix_list value slice pins s σ H x y v u Q I rx ry ⟨p, xs, i, z, e1, e2, h1, h2, h3⟩ hs
  · exact ix_tup value slice pins s σ H x y v u Q I rx ry ⟨p, xs, i, z, e1, e2, h1, h2, h3⟩ hs
theorem g_qix {H : Hp} {Q : VK} {p : Addr} {xs : List V} {i : Int} {v : V} (h : SqL K H p xs ∨ SqT K H p xs) (e : atI xs i = some v) (q : Q v H) : qIx K (.ref p) (.int i) H Q := ⟨p, xs, i, v, rfl, rfl, h, e, q⟩
theorem k_in (e : X.K = K) : OpR X (compareOp .In) (rIn K false) := by subst e; exact op_in_seq
theorem k_notin (e : X.K = K) : OpR X (compareOp .NotIn) (rIn K true) := by subst e; exact op_notIn_seq
theorem k_isi (e : X.K = K) : CallR X (.builtin "isinstance") (rIsi K) := by subst e; exact call_isi
theorem k_isiT (e : X.K = K) : CallR X (.builtin "isinstance") (rIsiT K) := by subst e; exact call_isiT
theorem k_len (e : X.K = K) : CallR X (.builtin "len") (qLen K) := by subst e; exact c_len
theorem k_list (e : X.K = K) : CallR X (.type "list") (qList K) := by subst e; exact c_list
theorem k_tuple (e : X.K = K) : CallR X (.type "tuple") (qTuple K) := by subst e; exact c_tuple
theorem k_sum (e : X.K = K) (c : X.calm = true) : CallR X (.builtin "sum") (rSum K) := by subst e; exact cr_sum c
theorem k_any (e : X.K = K) (c : X.calm = true) : CallR X (.builtin "any") (rAny K) := by subst e; exact cr_any c
theorem k_all (e : X.K = K) (c : X.calm = true) : CallR X (.builtin "all") (rAll K) := by subst e; exact cr_all c
theorem k_max (e : X.K = K) (c : X.calm = true) : CallR X (.builtin "max") (rMax K) := by subst e; exact cr_max c
theorem k_min (e : X.K = K) (c : X.calm = true) : CallR X (.builtin "min") (rMin K) := by subst e; exact cr_min c
theorem k_sl (e : X.K = K) : SlR X (rSlL K) := by subst e; exact sl_list
theorem k_index (e : X.K = K) : MtR X "list.index" (rIndex K) := by subst e; exact mt_index
theorem k_eqD (e : X.K = K) (hu : X.A.units + 64 < cLine) : OpR X (compareOp .Eq) (rEqD K) := by subst e; exact op_eqD hu
theorem k_neD (e : X.K = K) (hu : X.A.units + 64 < cLine) : OpR X (compareOp .NotEq) (rNeD K) := by subst e; exact op_neD hu
theorem k_pil {tg l : Expr} {tl : TE} (e : X.K = K) (hl : PE X l tl) : PI X tg l (iList K tl) := by subst e; exact pi_list hl
theorem k_pit {tg l : Expr} {tl : TE} (e : X.K = K) (hl : PE X l tl) : PI X tg l (iTup K tl) := by subst e; exact pi_tup hl
theorem k_pgt {es : List Expr} {k : Nat} {t : TGs} {n : Nat} {pos : Pos} (e : X.K = K) (hc : X.calm = true) (h : PGs X es t)
    (hn : (assignEach es X.env).length = n) (hst : (assignEach es X.env).findIdx? (·.1) = none) : PG X (.Tuple es k pos) (gTup K n t) := by subst e; exact pg_tup hc h hn hst
end
theorem g_qix0 {K : PySem.W.Frag} {p : Addr} {H : Hp} {Q : VK} {v : V} {r : List V} (h : SqL K H p (v :: r) ∨ SqT K H p (v :: r)) (q : Q v H) : qIx K (.ref p) (.int 0) H Q := g_qix h (atI_nat (j := 0) rfl) q
theorem g_qix1 {K : PySem.W.Frag} {p : Addr} {H : Hp} {Q : VK} {x0 : V} {v : V} {r : List V} (h : SqL K H p (x0 :: v :: r) ∨ SqT K H p (x0 :: v :: r)) (q : Q v H) : qIx K (.ref p) (.int 1) H Q := g_qix h (atI_nat (j := 1) rfl) q
theorem g_qix2 {K : PySem.W.Frag} {p : Addr} {H : Hp} {Q : VK} {x0 x1 : V} {v : V} {r : List V} (h : SqL K H p (x0 :: x1 :: v :: r) ∨ SqT K H p (x0 :: x1 :: v :: r)) (q : Q v H) : qIx K (.ref p) (.int 2) H Q := g_qix h (atI_nat (j := 2) rfl) q
theorem g_qix3 {K : PySem.W.Frag} {p : Addr} {H : Hp} {Q : VK} {x0 x1 x2 : V} {v : V} {r : List V} (h : SqL K H p (x0 :: x1 :: x2 :: v :: r) ∨ SqT K H p (x0 :: x1 :: x2 :: v :: r)) (q : Q v H) : qIx K (.ref p) (.int 3) H Q := g_qix h (atI_nat (j := 3) rfl) q
theorem g_qix4 {K : PySem.W.Frag} {p : Addr} {H : Hp} {Q : VK} {x0 x1 x2 x3 : V} {v : V} {r : List V} (h : SqL K H p (x0 :: x1 :: x2 :: x3 :: v :: r) ∨ SqT K H p (x0 :: x1 :: x2 :: x3 :: v :: r)) (q : Q v H) : qIx K (.ref p) (.int 4) H Q := g_qix h (atI_nat (j := 4) rfl) q
theorem g_qix5 {K : PySem.W.Frag} {p : Addr} {H : Hp} {Q : VK} {x0 x1 x2 x3 x4 : V} {v : V} {r : List V} (h : SqL K H p (x0 :: x1 :: x2 :: x3 :: x4 :: v :: r) ∨ SqT K H p (x0 :: x1 :: x2 :: x3 :: x4 :: v :: r)) (q : Q v H) : qIx K (.ref p) (.int 5) H Q := g_qix h (atI_nat (j := 5) rfl) q
theorem g_qix6 {K : PySem.W.Frag} {p : Addr} {H : Hp} {Q : VK} {x0 x1 x2 x3 x4 x5 : V} {v : V} {r : List V} (h : SqL K H p (x0 :: x1 :: x2 :: x3 :: x4 :: x5 :: v :: r) ∨ SqT K H p (x0 :: x1 :: x2 :: x3 :: x4 :: x5 :: v :: r)) (q : Q v H) : qIx K (.ref p) (.int 6) H Q := g_qix h (atI_nat (j := 6) rfl) q
theorem g_qix7 {K : PySem.W.Frag} {p : Addr} {H : Hp} {Q : VK} {x0 x1 x2 x3 x4 x5 x6 : V} {v : V} {r : List V} (h : SqL K H p (x0 :: x1 :: x2 :: x3 :: x4 :: x5 :: x6 :: v :: r) ∨ SqT K H p (x0 :: x1 :: x2 :: x3 :: x4 :: x5 :: x6 :: v :: r)) (q : Q v H) : qIx K (.ref p) (.int 7) H Q := g_qix h (atI_nat (j := 7) rfl) q
theorem g_qix8 {K : PySem.W.Frag} {p : Addr} {H : Hp} {Q : VK} {x0 x1 x2 x3 x4 x5 x6 x7 : V} {v : V} {r : List V} (h : SqL K H p (x0 :: x1 :: x2 :: x3 :: x4 :: x5 :: x6 :: x7 :: v :: r) ∨ SqT K H p (x0 :: x1 :: x2 :: x3 :: x4 :: x5 :: x6 :: x7 :: v :: r)) (q : Q v H) : qIx K (.ref p) (.int 8) H Q := g_qix h (atI_nat (j := 8) rfl) q
theorem g_qix9 {K : PySem.W.Frag} {p : Addr} {H : Hp} {Q : VK} {x0 x1 x2 x3 x4 x5 x6 x7 x8 : V} {v : V} {r : List V} (h : SqL K H p (x0 :: x1 :: x2 :: x3 :: x4 :: x5 :: x6 :: x7 :: x8 :: v :: r) ∨ SqT K H p (x0 :: x1 :: x2 :: x3 :: x4 :: x5 :: x6 :: x7 :: x8 :: v :: r)) (q : Q v H) : qIx K (.ref p) (.int 9) H Q := g_qix h (atI_nat (j := 9) rfl) q
theorem chg_same {H H' : Hp} {D : Addr} (c : Chg D H H') (hD : H D = none) : Same H H' := fun b o e => c b o (ne_of_none e hD) e
theorem seqT_same {K : PySem.W.Frag} {H H' : Hp} {a : Addr} {xs : List V} (s : Same H H') (h : SqT K H a xs) : SqT K H' a xs := by
  rcases h with (h | ⟨o, h⟩) | h
  · exact .inl (.inl (s _ _ h))
  · exact .inl (.inr ⟨o, s _ _ h⟩)
  · exact .inr h
theorem lt_same {K : PySem.W.Frag} {H H' : Hp} {a : Addr} {xs : List V} (s : Same H H') (h : SqL K H a xs ∨ SqT K H a xs) : SqL K H' a xs ∨ SqT K H' a xs := by
  rcases h with h | h
  · exact .inl (s.seq h)
  · exact .inr (seqT_same s h)
/-! ### a conditional expression as a test -/
def tIfT (t ta tb : TT) : TT := fun σ H Q => t σ H fun k H1 => if k = true then ta σ H1 Q else tb σ H1 Q
theorem pt_ifE {X : Cx} {c a b : Expr} {pos : Pos} {t ta tb : TT} (hc : PT X c t) (ha : PT X a ta) (hb : PT X b tb) : PT X (.IfExp c a b pos) (tIfT t ta tb) := by
  refine ⟨fun pins s σ H Q I hw => PyProof.Rows.isTrue_IfExp (thn (hc.run pins s σ H _ I hw) fun k s1 ⟨H1, I1, q1⟩ => ?_)⟩
  cases k with
  | true => exact ha.run pins s1 σ H1 Q I1 (by simpa using q1)
  | false => exact hb.run pins s1 σ H1 Q I1 (by simpa using q1)
theorem g_ifT {t ta tb : TT} {σ : L2.St} {H : Hp} {Q : Bool → Hp → Prop} (h : t σ H fun k H1 => if k = true then ta σ H1 Q else tb σ H1 Q) : tIfT t ta tb σ H Q := h
/-! ### list(range(..)) -/
section
variable {σ : L2.St} {H : Hp} {Q : VK}
def RgNew (Q : VK) (a b : Int) (H1 : Hp) : Prop := RgOk a b ∧ ∀ q, H1 q = none → Q (.ref q) (upd H1 q (.lst (rgV a b)))
theorem g_lstRg {te : L2.St → Hp → (Int → Int → Hp → Prop) → Prop} (h : te σ H (RgNew Q)) : tLstRg te σ H Q := h
def Rg1R (R : Int → Int → Hp → Prop) (x : V) (H : Hp) : Prop := ∃ n, x = .int n ∧ R 0 n H
theorem g_tRg1 {ta : TE} {R : Int → Int → Hp → Prop} (h : ta σ H (Rg1R R)) : tRg1 ta σ H R := h
theorem g_rg1R {R : Int → Int → Hp → Prop} {n : Int} (h : R 0 n H) : Rg1R R (.int n) H := ⟨n, rfl, h⟩
theorem g_rgNew {a b : Int} (c : 0 ≤ a ∧ b ≤ 16777216 ∧ a ≤ 16777216 ∧ 0 ≤ b) (h : ∀ q, H q = none → Q (.ref q) (upd H q (.lst (rgV a b)))) : RgNew Q a b H := ⟨.of_le c.1 c.2.1 c.2.2.1 c.2.2.2, h⟩
end
/-! ### lists of ints compared -/
def dInts (ns : List Int) : List PyData := ns.map PyData.int
theorem dp_ints {K : PySem.W.Frag} {H : Hp} : ∀ ns : List Int, DpAll K H (ns.map V.int) (dInts ns)
  | [] => .nil
  | n :: r => .cons (.int n) (dp_ints r)
theorem can_ints : ∀ ns : List Int, (PyData.list (dInts ns)).canLay0 = true ∧ PyData.depthAll (dInts ns) = 0
  | [] => ⟨rfl, rfl⟩
  | n :: r => by
    obtain ⟨h1, h2⟩ := can_ints r
    refine ⟨?_, ?_⟩
    · show (PyData.canLay0 (.int n) && PyData.canLayAll0 (dInts r)) = true
      rw [show PyData.canLayAll0 (dInts r) = true from h1]
      rfl
    · show max (PyData.depth (.int n)) (PyData.depthAll (dInts r)) = 0
      rw [h2]
      rfl
theorem shaped_ints (ns : List Int) : SeqAt.shaped (.list (dInts ns)) = true := by
  obtain ⟨h1, h2⟩ := can_ints ns
  unfold SeqAt.shaped
  rw [h1, Bool.true_and]
  exact decide_eq_true (by show PyData.depthAll (dInts ns) + 1 ≤ 64; rw [h2]; decide)
theorem eqv_ints : ∀ a b : List Int, PyData.eqvAll (dInts a) (dInts b) = decide (a = b)
  | [], [] => rfl
  | [], _ :: _ => rfl
  | _ :: _, [] => rfl
  | x :: a, y :: b => by
    show (x == y && PyData.eqvAll (dInts a) (dInts b)) = decide (x :: a = y :: b)
    rw [eqv_ints a b]
    by_cases e : x = y
    · subst e; simp
    · simp [e]
theorem g_eqDI {K : PySem.W.Frag} {H : Hp} {Q : VK} {p q : Addr} {a b : List Int} (h1 : SqL K H p (a.map V.int)) (h2 : SqL K H q (b.map V.int)) (h : Q (.bl (decide (a = b))) H) : rEqD K (.ref p) (.ref q) H Q :=
  ⟨.list (dInts a), .list (dInts b), .lst h1 (dp_ints a), .lst h2 (dp_ints b), shaped_ints a, shaped_ints b, by
    have e : PyData.eqv (.list (dInts a)) (.list (dInts b)) = decide (a = b) := eqv_ints a b
    rw [e]; exact h⟩
theorem g_neDI {K : PySem.W.Frag} {H : Hp} {Q : VK} {p q : Addr} {a b : List Int} (h1 : SqL K H p (a.map V.int)) (h2 : SqL K H q (b.map V.int)) (h : Q (.bl (!decide (a = b))) H) : rNeD K (.ref p) (.ref q) H Q :=
  ⟨.list (dInts a), .list (dInts b), .lst h1 (dp_ints a), .lst h2 (dp_ints b), shaped_ints a, shaped_ints b, by
    have e : PyData.eqv (.list (dInts a)) (.list (dInts b)) = decide (a = b) := eqv_ints a b
    rw [e]; exact h⟩
theorem sqL_new {K : PySem.W.Frag} {H : Hp} {p a : Addr} {o : HO} {xs : List V} (hp : H p = none) (h : SqL K H a xs) : SqL K (upd H p o) a xs := (same_new hp).seq h
theorem sqT_new {K : PySem.W.Frag} {H : Hp} {p a : Addr} {o : HO} {xs : List V} (hp : H p = none) (h : SqT K H a xs) : SqT K (upd H p o) a xs := seqT_same (same_new hp) h
theorem sqL_sm {K : PySem.W.Frag} {H H' : Hp} {a : Addr} {xs : List V} (s : L2.Same H H') (h : SqL K H a xs) : SqL K H' a xs := s.seq h
theorem tyL {K : PySem.W.Frag} {H : Hp} {a : Addr} {xs : List V} (h : SqL K H a xs) : TyX K H (.ref a) (.type "list") := by
  rcases h with (h | ⟨o, h⟩) | ⟨o, its, n, h, c, _⟩
  · exact .base (.lst h)
  · exact .base (.frz h)
  · exact .kList h c
theorem tyT {K : PySem.W.Frag} {H : Hp} {a : Addr} {xs : List V} (h : SqT K H a xs) : TyX K H (.ref a) (.type "tuple") := by
  rcases h with (h | ⟨o, h⟩) | ⟨o, its, n, h, c, _⟩
  · exact .base (.tup h)
  · exact .fTuple h
  · exact .kTuple h c
/-! ### isinstance -/
theorem kb_int_int : kitB "int" "int" = some true := by decide +kernel
theorem kb_int_str : kitB "int" "str" = some false := by decide +kernel
theorem kb_int_bool : kitB "int" "bool" = some false := by decide +kernel
theorem kb_int_list : kitB "int" "list" = some false := by decide +kernel
theorem kb_int_tuple : kitB "int" "tuple" = some false := by decide +kernel
theorem kb_str_int : kitB "str" "int" = some false := by decide +kernel
theorem kb_str_str : kitB "str" "str" = some true := by decide +kernel
theorem kb_str_bool : kitB "str" "bool" = some false := by decide +kernel
theorem kb_str_list : kitB "str" "list" = some false := by decide +kernel
theorem kb_str_tuple : kitB "str" "tuple" = some false := by decide +kernel
theorem kb_bool_int : kitB "bool" "int" = some true := by decide +kernel
theorem kb_bool_str : kitB "bool" "str" = some false := by decide +kernel
theorem kb_bool_bool : kitB "bool" "bool" = some true := by decide +kernel
theorem kb_bool_list : kitB "bool" "list" = some false := by decide +kernel
theorem kb_bool_tuple : kitB "bool" "tuple" = some false := by decide +kernel
theorem kb_NoneType_int : kitB "NoneType" "int" = some false := by decide +kernel
theorem kb_NoneType_str : kitB "NoneType" "str" = some false := by decide +kernel
theorem kb_NoneType_bool : kitB "NoneType" "bool" = some false := by decide +kernel
theorem kb_NoneType_list : kitB "NoneType" "list" = some false := by decide +kernel
theorem kb_NoneType_tuple : kitB "NoneType" "tuple" = some false := by decide +kernel
theorem kb_list_int : kitB "list" "int" = some false := by decide +kernel
theorem kb_list_str : kitB "list" "str" = some false := by decide +kernel
theorem kb_list_bool : kitB "list" "bool" = some false := by decide +kernel
theorem kb_list_list : kitB "list" "list" = some true := by decide +kernel
theorem kb_list_tuple : kitB "list" "tuple" = some false := by decide +kernel
theorem kb_tuple_int : kitB "tuple" "int" = some false := by decide +kernel
theorem kb_tuple_str : kitB "tuple" "str" = some false := by decide +kernel
theorem kb_tuple_bool : kitB "tuple" "bool" = some false := by decide +kernel
theorem kb_tuple_list : kitB "tuple" "list" = some false := by decide +kernel
theorem kb_tuple_tuple : kitB "tuple" "tuple" = some true := by decide +kernel
theorem g_isi {K : PySem.W.Frag} {H : Hp} {Q : VK} {x : V} {t T : String} {b : Bool} (ty : TyX K H x (.type t)) (hb : kitB t T = some b) (h : Q (.bl b) H) : rIsi K [x, .ty T] H Q :=
  ⟨x, .ty T, .type t, .type T, b, rfl, .ty T, ty, kit_ty hb, h⟩
theorem g_isiT2 {K : PySem.W.Frag} {H : Hp} {Q : VK} {x : V} {tp : Addr} {t T1 T2 : String} {b1 b2 : Bool} (e : H tp = some (.tup [.ty T1, .ty T2])) (ty : TyX K H x (.type t)) (h1 : kitB t T1 = some b1) (h2 : kitB t T2 = some b2)
    (h : Q (.bl (b1 || b2)) H) : rIsiT K [x, .ref tp] H Q := by
  refine ⟨x, tp, [.ty T1, .ty T2], .type t, [.type T1, .type T2], b1 || b2, rfl, e, .cons (.ty _) (.cons (.ty _) .nil), ty, ?_, h⟩
  refine kitAny_cons (kit_ty h1) (fun z => ?_) (fun z => by rw [z]; rfl)
  rw [z, Bool.false_or]
  exact kitAny_cons (kit_ty h2) (fun z => by rw [z]; exact kitAny_nil) (fun z => z)
/-! ### comprehensions and loops -/
section
variable {K : PySem.W.Frag} {g : TG} {tt : TT} {te : TE} {tb : TS} {vs : List Nat} {D0 : Ends} {σ σ0 : L2.St} {H : Hp} {Q : VK} {J : It} {a : Addr}
/-- one turn of a comprehension: the item x, the block's slots σ0, the list at D so far -/
def TurnD (D : Addr) (N : Hp → Prop) (y : V) (H4 : Hp) : Prop := ∃ acc, H4 D = some (.lst acc) ∧ acc.length < sizeLine ∧ N (upd H4 D (.lst (acc ++ [y])))
def TurnC (te : TE) (σ2 : L2.St) (D : Addr) (N : Hp → Prop) (b : Bool) (H3 : Hp) : Prop := if b = true then te σ2 H3 (TurnD D N) else N H3
def TurnB (tt : TT) (te : TE) (vs : List Nat) (σ0 : L2.St) (D : Addr) (N : Hp → Prop) (σ2 : L2.St) (H2 : Hp) : Prop := wipe σ2 vs = σ0 ∧ tt σ2 H2 (TurnC te σ2 D N)
def Turn1 (g : TG) (tt : TT) (te : TE) (vs : List Nat) (σ0 : L2.St) (D : Addr) (x : V) (H : Hp) (N : Hp → Prop) : Prop := g x σ0 H (TurnB tt te vs σ0 D N)
theorem g_turn1 {D : Addr} {x : V} {N : Hp → Prop} (h : g x σ0 H (TurnB tt te vs σ0 D N)) : Turn1 g tt te vs σ0 D x H N := h
theorem g_turnB {D : Addr} {N : Hp → Prop} (e : wipe σ vs = σ0) (h : tt σ H (TurnC te σ D N)) : TurnB tt te vs σ0 D N σ H := ⟨e, h⟩
theorem g_turnCt {D : Addr} {N : Hp → Prop} (h : te σ H (TurnD D N)) : TurnC te σ D N true H := by unfold TurnC; rw [if_pos rfl]; exact h
theorem g_turnC {D : Addr} {N : Hp → Prop} {p : Prop} [Decidable p] (h1 : p → te σ H (TurnD D N)) (h2 : ¬ p → N H) : TurnC te σ D N (decide p) H := by
  unfold TurnC
  exact g_iteD h1 h2
theorem g_turnCb {D : Addr} {N : Hp → Prop} {b : Bool} (h1 : b = true → te σ H (TurnD D N)) (h2 : b = false → N H) : TurnC te σ D N b H := by
  unfold TurnC
  exact g_iteBB h1 h2
theorem g_turnD {D : Addr} {N : Hp → Prop} {y : V} {acc : List V} (h : H D = some (.lst acc)) (l : acc.length ≤ 1000) (q : N (upd H D (.lst (acc ++ [y])))) : TurnD D N y H := ⟨acc, h, small1000 l, q⟩
def LcG (J : It) (g : TG) (tt : TT) (te : TE) (vs : List Nat) (σ : L2.St) (Q : VK) (H1 : Hp) : Prop := ∀ D, H1 D = none → ∃ W : Nat → Nat → Hp → Prop,
  (∃ m, W 0 m (upd H1 D (.lst []))) ∧ ∀ i m H, W i m H → (J.stop i H ∧ Q (.ref D) H) ∨ (J.go i H ∧ ∃ Nx : Hp → Prop,
    (∀ H', Nx H' → ∃ m', m' < m ∧ W (i + 1) m' H') ∧ ∀ x H', J.yld i H x H' → Turn1 g tt te vs (wipe σ vs) D x H' Nx)
theorem g_lc {wi : TI} (h : wi σ H fun J H1 => LcG J g tt te vs σ Q H1) : tLc wi g tt te vs σ H Q := h
def ForG (J : It) (g : TG) (tb : TS) (D : Ends) (σ : L2.St) (H1 : Hp) : Prop := ∃ W : Nat → Nat → L2.St → Hp → Prop, (∃ m, W 0 m σ H1) ∧ ∀ i m σ H, W i m σ H →
  (J.stop i H ∧ D.nx σ H) ∨ (J.go i H ∧ ∃ N : L2.St → Hp → Prop, (∀ σ' H', N σ' H' → ∃ m', m' < m ∧ W (i + 1) m' σ' H') ∧
    ∀ x H', J.yld i H x H' → g x σ H' fun σ2 H2 => tb { D with nx := N, ct := N, bk := D.nx } σ2 H2)
theorem g_for {wi : TI} (h : wi σ H fun J H1 => ForG J g tb D0 σ H1) : tFor wi g tb D0 σ H := h
variable {R : It → Hp → Prop}
def Rng1R (ws : List V) (R : It → Hp → Prop) (H : Hp) : Prop := ∃ j : Int, ws = [.int j] ∧ -(2 ^ 62) ≤ j ∧ j < 2 ^ 62 ∧ R (Itr 0 j.toNat) H
theorem g_iRng1 {ta : TA} (h : ta σ H fun ws H1 => Rng1R ws R H1) : iRng1 ta σ H R := h
theorem g_rng1 {v : Int} (c : -(2 ^ 62) ≤ v ∧ v < 2 ^ 62) (h : R (Itr 0 v.toNat) H) : Rng1R [.int v] R H := ⟨v, rfl, c.1, c.2, h⟩
def Rng2R (ws : List V) (R : It → Hp → Prop) (H : Hp) : Prop := ∃ i j : Int, ws = [.int i, .int j] ∧ (-(2 ^ 62) ≤ i ∧ i < 2 ^ 62 ∧ -(2 ^ 62) ≤ j ∧ j < 2 ^ 62) ∧ R (Itr i (j - i).toNat) H
theorem g_iRng2 {ta : TA} (h : ta σ H fun ws H1 => Rng2R ws R H1) : iRng2 ta σ H R := h
theorem g_rng2 {i j : Int} (c : -(2 ^ 62) ≤ i ∧ i < 2 ^ 62 ∧ -(2 ^ 62) ≤ j ∧ j < 2 ^ 62) (h : R (Itr i (j - i).toNat) H) : Rng2R [.int i, .int j] R H := ⟨i, j, rfl, c, h⟩
def LstR (K : PySem.W.Frag) (x : V) (R : It → Hp → Prop) (H : Hp) : Prop := ∃ a, x = .ref a ∧ (∃ xs, SqL K H a xs) ∧ R (Itl K a) H
theorem g_iList {tl : TE} (h : tl σ H fun x H1 => LstR K x R H1) : iList K tl σ H R := h
theorem g_lstR {xs : List V} (c : SqL K H a xs) (h : R (Itl K a) H) : LstR K (.ref a) R H := ⟨a, rfl, ⟨xs, c⟩, h⟩
def TupR (K : PySem.W.Frag) (x : V) (R : It → Hp → Prop) (H : Hp) : Prop := ∃ a, x = .ref a ∧ (∃ xs, SqT K H a xs) ∧ R (Itt K a) H
theorem g_iTup {tl : TE} (h : tl σ H fun x H1 => TupR K x R H1) : iTup K tl σ H R := h
theorem g_tupR {xs : List V} (c : SqT K H a xs) (h : R (Itt K a) H) : TupR K (.ref a) R H := ⟨a, rfl, ⟨xs, c⟩, h⟩
def WhB (tb : TS) (D : Ends) (W : Nat → L2.St → Hp → Prop) (m : Nat) (σ : L2.St) (b : Bool) (H1 : Hp) : Prop :=
  if b = true then ∃ N : L2.St → Hp → Prop, (∀ σ' H', N σ' H' → ∃ m', m' < m ∧ W m' σ' H') ∧ tb { D with nx := N, ct := N, bk := D.nx } σ H1 else D.nx σ H1
theorem g_while {c : TT} (W : Nat → L2.St → Hp → Prop) (h0 : ∃ m, W m σ H) (hs : ∀ m σ H, W m σ H → c σ H (WhB tb D0 W m σ)) : tWhile c tb D0 σ H := ⟨W, h0, hs⟩
theorem g_whB {W : Nat → L2.St → Hp → Prop} {m : Nat} {p : Prop} [Decidable p] (h1 : p → tb { D0 with nx := fun σ' H' => ∃ m', m' < m ∧ W m' σ' H', ct := fun σ' H' => ∃ m', m' < m ∧ W m' σ' H', bk := D0.nx } σ H)
    (h2 : ¬ p → D0.nx σ H) : WhB tb D0 W m σ (decide p) H := by
  unfold WhB
  exact g_iteD (fun h => ⟨_, fun _ _ z => z, h1 h⟩) h2
/-- a comprehension over a range: Pv by the turns done and the heap, the new list at D -/
theorem lcR {lo : Int} {n : Nat} (hw : wipe σ vs = σ0) (h : ∀ D, H D = none → ∃ Pv : Nat → Hp → Prop, Pv 0 (upd H D (.lst [])) ∧
    (∀ (i : Nat) (H' : Hp), i < n → Pv i H' → Turn1 g tt te vs σ0 D (.int (lo + i)) H' (Pv (i + 1))) ∧ ∀ H', Pv n H' → Q (.ref D) H') : LcG (Itr lo n) g tt te vs σ Q H := by
  subst hw
  intro D hD
  obtain ⟨Pv, h0, hs, hd⟩ := h D hD
  refine ⟨fun i m H => m = n - i ∧ i ≤ n ∧ Pv i H, ⟨n, by simp, Nat.zero_le _, h0⟩, ?_⟩
  rintro i m H ⟨rfl, hi, p⟩
  rcases Nat.lt_or_ge i n with hlt | hge
  · exact .inr ⟨hlt, Pv (i + 1), fun H' p' => ⟨n - (i + 1), by omega, rfl, hlt, p'⟩, fun x H' ⟨e1, e2⟩ => by subst e1 e2; exact hs i _ hlt p⟩
  · have e : i = n := by omega
    subst e
    exact .inl ⟨Nat.le_refl _, hd H p⟩
theorem lcL {xs : List V} (hw : wipe σ vs = σ0) (h : ∀ D, H D = none → ∃ Pv : Nat → Hp → Prop, Pv 0 (upd H D (.lst [])) ∧ (∀ i H', i ≤ xs.length → Pv i H' → SqL K H' a xs) ∧
    (∀ (i : Nat) (x : V) (H' : Hp), xs[i]? = some x → Pv i H' → Turn1 g tt te vs σ0 D x H' (Pv (i + 1))) ∧ ∀ H', Pv xs.length H' → Q (.ref D) H') : LcG (Itl K a) g tt te vs σ Q H := by
  subst hw
  intro D hD
  obtain ⟨Pv, h0, hl, hs, hd⟩ := h D hD
  refine ⟨fun i m H => m = xs.length - i ∧ i ≤ xs.length ∧ Pv i H, ⟨xs.length, by simp, Nat.zero_le _, h0⟩, ?_⟩
  rintro i m H ⟨rfl, hi, p⟩
  have q := hl i H hi p
  rcases Nat.lt_or_ge i xs.length with hlt | hge
  · exact .inr ⟨⟨xs, xs[i], q, by simp [hlt]⟩, Pv (i + 1), fun H' p' => ⟨xs.length - (i + 1), by omega, rfl, hlt, p'⟩, fun x H' ⟨e1, e2⟩ => by subst e1; exact hs i x _ (e2 xs q) p⟩
  · have e : i = xs.length := by omega
    subst e
    exact .inl ⟨⟨xs, q, Nat.le_refl _⟩, hd H p⟩
/-- over a list of ints, nothing changed within a turn: p tells which items are kept, f what stands for them -/
theorem lcP {S : List Int} {f : Int → V} {p : Int → Bool} (hw : wipe σ vs = σ0) (hS : SqL K H a (S.map V.int)) (hl : S.length ≤ 1000)
    (turn : ∀ (D : Addr) (acc : List V) (x : Int) (N : Hp → Prop), H D = none → x ∈ S → (p x = true → TurnD D N (f x) (upd H D (.lst acc))) → (p x = false → N (upd H D (.lst acc))) →
      Turn1 g tt te vs σ0 D (.int x) (upd H D (.lst acc)) N)
    (q : ∀ D, H D = none → Q (.ref D) (upd H D (.lst ((S.filter p).map f)))) : LcG (Itl K a) g tt te vs σ Q H := by
  refine lcL (xs := S.map V.int) hw fun D hD => ⟨fun i H' => H' = upd H D (.lst (((S.take i).filter p).map f)), rfl, ?_, ?_, ?_⟩
  · rintro i H' _ rfl
    exact (same_new hD).seq hS
  · rintro i x H' hx rfl
    rw [List.getElem?_map, Option.map_eq_some_iff] at hx
    obtain ⟨n, hn, rfl⟩ := hx
    have hlt : i < S.length := (List.getElem?_eq_some_iff.mp hn).1
    refine turn D _ n _ hD (List.mem_of_getElem? hn) (fun hp => g_turnD upd_same ?_ ?_) (fun hp => ?_)
    · rw [List.length_map]
      have h1 := List.length_filter_le p (S.take i)
      rw [List.length_take] at h1
      omega
    · dsimp only
      rw [upd_upd, List.take_add_one, hn, List.filter_append, List.map_append]
      simp [hp]
    · dsimp only
      rw [List.take_add_one, hn, List.filter_append]
      simp [hp]
  · rintro H' rfl
    rw [List.length_map, List.take_length]
    exact q D hD
/-- the same over range(n) -/
theorem lcPR {n : Nat} {f : Nat → V} {p : Nat → Bool} (hw : wipe σ vs = σ0) (hl : n ≤ 1000)
    (turn : ∀ (D : Addr) (acc : List V) (x : Nat) (N : Hp → Prop), H D = none → x < n → (p x = true → TurnD D N (f x) (upd H D (.lst acc))) → (p x = false → N (upd H D (.lst acc))) →
      Turn1 g tt te vs σ0 D (.int (0 + (x : Int))) (upd H D (.lst acc)) N)
    (q : ∀ D, H D = none → Q (.ref D) (upd H D (.lst (((List.range n).filter p).map f)))) : LcG (Itr 0 n) g tt te vs σ Q H := by
  refine lcR hw fun D hD => ⟨fun i H' => H' = upd H D (.lst (((List.range i).filter p).map f)), rfl, ?_, ?_⟩
  · rintro i H' hi rfl
    refine turn D _ i _ hD hi (fun hp => g_turnD upd_same ?_ ?_) (fun hp => ?_)
    · rw [List.length_map]
      have h1 := List.length_filter_le p (List.range i)
      rw [List.length_range] at h1
      omega
    · dsimp only
      rw [upd_upd, List.range_succ, List.filter_append, List.map_append]
      simp [hp]
    · dsimp only
      rw [List.range_succ, List.filter_append]
      simp [hp]
  · rintro H' rfl
    exact q D hD
theorem forL {xs : List V} (h : ∃ Pv : Nat → L2.St → Hp → Prop, Pv 0 σ H ∧ (∀ i σ' H', i ≤ xs.length → Pv i σ' H' → SqL K H' a xs) ∧
    (∀ i x σ' H', xs[i]? = some x → Pv i σ' H' → g x σ' H' fun σ2 H2 => tb { D0 with nx := Pv (i + 1), ct := Pv (i + 1), bk := D0.nx } σ2 H2) ∧ ∀ σ' H', Pv xs.length σ' H' → D0.nx σ' H') : ForG (Itl K a) g tb D0 σ H := by
  obtain ⟨Pv, h0, hl, hs, hd⟩ := h
  exact for_list Pv h0 hl hs hd
theorem forR {lo : Int} {n : Nat} (h : ∃ Pv : Nat → L2.St → Hp → Prop, Pv 0 σ H ∧
    (∀ i σ' H', i < n → Pv i σ' H' → g (.int (lo + i)) σ' H' fun σ2 H2 => tb { D0 with nx := Pv (i + 1), ct := Pv (i + 1), bk := D0.nx } σ2 H2) ∧ ∀ σ' H', Pv n σ' H' → D0.nx σ' H') : ForG (Itr lo n) g tb D0 σ H := by
  obtain ⟨Pv, h0, hs, hd⟩ := h
  exact for_range Pv h0 hs hd
theorem forT {xs : List V} (h : ∃ Pv : Nat → L2.St → Hp → Prop, Pv 0 σ H ∧ (∀ i σ' H', i ≤ xs.length → Pv i σ' H' → SqT K H' a xs) ∧
    (∀ i x σ' H', xs[i]? = some x → Pv i σ' H' → g x σ' H' fun σ2 H2 => tb { D0 with nx := Pv (i + 1), ct := Pv (i + 1), bk := D0.nx } σ2 H2) ∧ ∀ σ' H', Pv xs.length σ' H' → D0.nx σ' H') : ForG (Itt K a) g tb D0 σ H := by
  obtain ⟨Pv, h0, hl, hs, hd⟩ := h
  exact for_tup Pv h0 hl hs hd
theorem g_app {p : Addr} {xs : List V} {y : V} {H : Hp} {Q : VK} (h : H p = some (.lst xs)) (hl : xs.length < 1000) (q : Q .non (upd H p (.lst (xs ++ [y])))) : rAppend (.ref p) [y] H Q :=
  ⟨p, xs, y, rfl, rfl, h, small1000 (Nat.le_of_lt hl), q⟩
/-- a turn that changes nothing: the item is kept if p says so, and f of it stands in the new list -/
def Pure1 (g : TG) (tt : TT) (te : TE) (vs : List Nat) (σ0 : L2.St) (p : V → Bool) (f : V → V) (x : V) (H : Hp) : Prop :=
  g x σ0 H fun σ2 H2 => wipe σ2 vs = σ0 ∧ tt σ2 H2 fun b H3 => if b = true then te σ2 H3 fun y H4 => p x = true ∧ y = f x ∧ H4 = H else p x = false ∧ H3 = H
end
theorem pure_step {H : Hp} {D : Addr} {xs : List V} {i : Nat} {x y : V} {p : V → Bool} {f : V → V} (hx : xs[i]? = some x) (hp : p x = true) (hy : y = f x) (hl : xs.length ≤ 1000) :
    ∃ acc, (upd H D (.lst (((xs.take i).filter p).map f))) D = some (.lst acc) ∧ acc.length < sizeLine ∧
      upd (upd H D (.lst (((xs.take i).filter p).map f))) D (.lst (acc ++ [y])) = upd H D (.lst (((xs.take (i + 1)).filter p).map f)) := by
  refine ⟨_, upd_same, small1000 ?_, ?_⟩
  · rw [List.length_map]
    have h1 := List.length_filter_le p (xs.take i)
    have h2 : (xs.take i).length ≤ xs.length := by rw [List.length_take]; exact Nat.min_le_right _ _
    omega
  · rw [upd_upd, List.take_add_one, hx, List.filter_append, List.map_append, hy]
    simp [hp]
theorem pure_skip {H : Hp} {D : Addr} {xs : List V} {i : Nat} {x : V} {p : V → Bool} {f : V → V} (hx : xs[i]? = some x) (hp : p x = false) :
    upd H D (.lst (((xs.take i).filter p).map f)) = upd H D (.lst (((xs.take (i + 1)).filter p).map f)) := by
  rw [List.take_add_one, hx, List.filter_append]
  simp [hp]
theorem cxK {CX : CXT} {P : Program} {w : World} {K : PySem.W.Frag} {mg : Str → Option Value} {base : Heap} {N : List Str} {q : Str} {sc : Scope} {f : Addr} {cdv : Value}
    {A : PySem.Around} {outer : List PySem.Env} {s : Shared} {H : Hp} {E : XK} : (cxOf CX P w K mg base N q sc f cdv A outer s H E).K = K := rfl
end Q

set_option Elab.async false
set_option linter.all false
set_option maxRecDepth 100000
namespace PySem
/-! enumerate(t) over a tuple -/
set_option maxHeartbeats 1000000 in
theorem qMeetsEnum {v : Value} {o : Obj} {HH : Heap → Prop} (B : Begins v o HH) :
    Meets (Builtin.«enumerate.__new__» ⟨[.type "enumerate", v], []⟩) (fun _ R s => HH s.heap ∧ R (.ok (.ret (.ref (s.heap.push o).objs.size)))
      { s with heap := (s.heap.push o).push { cls := .type "enumerate", data := .fields #[.none, .bool false, .ref s.heap.objs.size, rawInt 0, .none, .none] } }) :=
  .of_wp fun prog w A R s hyp => by
    obtain ⟨hp, gg, dd, tk, os⟩ := s
    obtain ⟨hstart, hyp⟩ := hyp
    have hsub := sub_enumerate
    have goIter : ∀ {A' : Around} {E : Value → Shared → Prop} {Q : Value → Shared → Prop}, Q (.ref hp.objs.size) ⟨hp.push o, gg, dd, tk, os⟩ → wpAny (model prog w) A' (pyIter v) Q E ⟨hp, gg, dd, tk, os⟩ :=
      fun z => B.iter prog w _ _ ⟨hp, gg, dd, tk, os⟩ _ hstart z
    wp_walk using goIter
    refine wpAny_stack_any fun st => wpAny_pure ?_
    split
    · rename_i c _ _ _ _ _
      cases (c == Value.type "enumerate") <;> (wp_walk using goIter; exact ⟨_, rfl, hyp⟩)
    · wp_walk using goIter
      exact ⟨_, rfl, hyp⟩
theorem qEnumBegin {prog : Program} {w : World} {A : Around} {E : Value → Shared → Prop} {s : Shared} {v : Value} {o : Obj} {HH : Heap → Prop} {Q : Value → Shared → Prop} (B : Begins v o HH) (hb : HH s.heap)
    (done : ∀ h', IsEnum h' (s.heap.objs.size + 1) s.heap.objs.size 0 .none → h'.get? s.heap.objs.size = some o →
      (∀ b o, s.heap.get? b = some o → h'.get? b = some o) → Q (.ref (s.heap.objs.size + 1)) { s with heap := h' }) :
    wpAny (model prog w) A (call (.type "enumerate") [v]) Q E s := by
  refine callType_new F.called_enumerate (by decide) (F.typeCall_enumerate_1 _) (F.newCall_enumerate_1 _) (fun obj => F.args_object_init_2 obj _) F.entry_enumerate_new (qMeetsEnum B) ⟨hb, ?_⟩
  have size1 : (s.heap.push o).objs.size = s.heap.objs.size + 1 := Heap.size_push ..
  show _ ∧ _
  rw [size1]
  have isE : IsEnum ((s.heap.push o).push { cls := .type "enumerate", data := .fields #[.none, .bool false, .ref s.heap.objs.size, rawInt 0, .none, .none] }) (s.heap.objs.size + 1) s.heap.objs.size 0 .none := by
    have z := Heap.get?_push_size (s.heap.push o) (o := { cls := .type "enumerate", data := .fields #[.none, .bool false, .ref s.heap.objs.size, rawInt 0, .none, .none] }) rfl
    rw [size1] at z
    exact z
  exact ⟨⟨_, isE, rfl⟩, done _ isE (Heap.get?_push_of_some _ (Heap.get?_push_size _ B.free)) fun b o x => Heap.get?_push_of_some _ (Heap.get?_push_of_some _ x)⟩
theorem qEnumEnd {prog : Program} {w : World} {A : Around} {E : Value → Shared → Prop} {s : Shared} {e it t : Addr} {i : Nat} {k : Int} {items : Array Value} {old : Value} {Q : Option Value → Shared → Prop} (hh : A.handled = none)
    (isE : IsEnum s.heap e it k old) (iti : s.heap.IsTupleIter it t i) (ht : s.heap.IsTuple t items) (no : items[i]? = none)
    (done : ∀ h', Heap.ExtBut it s.heap h' → Q none { s with heap := h' }) : wpAny (model prog w) A (pyNext (.ref e)) Q E s := by
  have tyE : s.TypeIs (.ref e) "enumerate" := ⟨_, isE, rfl⟩
  unfold pyNext
  refine wpAny_bind (wpAny_attempt (wpAny_callSpecial?_slot (name := Str.ofString "__next__") tyE F.slot_enumerate_next ?_))
  refine wpAny_call_entry F.slot_enumerate_next tyE F.entry_enumerate_next ?_ (F.args_enumerate_next_1 _)
  show wpAny _ _ (field (.ref e) 2 >>= _) _ _ s
  refine wpAny_bind (wpAny_field isE rfl (x := .ref it) rfl (wpAny_bind ?_))
  refine wpAny_nextOf_tuple_end (show A.in1.handled = none from hh) iti ht no fun h' x eb ⟨ox, hox, cx⟩ => ?_
  refine wpAny_bind (wpAny_isInstance (T := "StopIteration") (b := true) ⟨ox, hox, cx⟩ isSubtype_stop ?_)
  exact wpAny_pure (done _ eb)
end PySem
namespace Q
open PySem PySem.Spec L2 RZ
/-- the turns of enumerate over a tuple: a new pair each -/
def Iet (K : PySem.W.Frag) (a : Addr) : It :=
  ⟨fun i H => ∃ (xs : List V) (x : V), SqT K H a xs ∧ xs[i]? = some x,
    fun i H v H' => ∃ T x, v = .ref T ∧ H T = none ∧ H' = upd H T (.tup [.int (i : Nat), x]) ∧ ∀ xs, SqT K H a xs → xs[i]? = some x,
    fun i H => ∃ xs : List V, SqT K H a xs ∧ xs.length ≤ i⟩
theorem turnT {P : Program} {w : World} {K : PySem.W.Frag} {elts : List Expr} {kk : Nat} {tpos : Pos} (a e it : Addr) :
    L2.Turn P w K (.Tuple elts kk tpos) (Iet K a) [e, it] e (fun i h => (∃ old, IsEnum h e it ((i : Nat) : Int) old) ∧ h.IsTupleIter it a i ∧ e ≠ it) where
  mem := List.mem_cons_self ..
  obj := fun i h st b hb => by
    obtain ⟨⟨old, isE⟩, ⟨oi, hoi, _, hdi⟩, _⟩ := st
    rcases List.mem_cons.mp hb with z | z
    · exact ⟨_, by rw [z]; exact isE, fun v q => by cases q⟩
    · have z2 : b = it := by simpa using z
      exact ⟨oi, by rw [z2]; exact hoi, fun v q => by rw [hdi] at q; cases q⟩
  keep := fun i h h' ⟨⟨old, isE⟩, iti, ne⟩ k => ⟨⟨old, k e (by simp) _ isE⟩, iti.at fun o q => k it (by simp) o q, ne⟩
  item := by
    intro X hP hw hK hc i pins s σ H E I hf st hg
    subst hP hw hK
    obtain ⟨⟨old, isE⟩, iti, ne⟩ := st
    obtain ⟨xs, x, hq, hx⟩ := hg
    obtain ⟨its, rv, p, hz⟩ := I.tuple hq
    obtain ⟨u, hu, ru⟩ := rv.get hx
    have hT : s.heap.IsTuple a its.toArray := p
    have sz_e : e < s.heap.objs.size := Heap.lt_size isE
    have sz_i : it < s.heap.objs.size := by obtain ⟨_, q, _⟩ := iti; exact Heap.lt_size q
    have a_it : a ≠ it := fun z => by
      obtain ⟨o1, e1, c1, _⟩ := iti
      obtain ⟨o2, e2, c2, _⟩ := hT
      rw [z, e1] at e2
      cases e2
      rw [c1] at c2
      injection c2 with c3
      exact absurd c3 (by decide)
    have a_e : e ≠ a := fun z => by
      obtain ⟨o2, e2, c2, _⟩ := hT
      rw [← z, isE] at e2
      cases e2
      injection c2 with c3
      exact absurd c3 (by decide)
    have D := Draws.tuple (prog := X.prog) (w := X.w) (A := X.A.in1) (show X.A.in1.handled = none from I.ok.hd hc) it a a_it its.toArray
    have ilt : i < its.toArray.size := by
      have z := List.getElem?_eq_some_iff.mp hu
      rw [List.size_toArray]
      exact z.1
    refine wpAny_pyNext_enum_itemD D isE ⟨iti, hT⟩ ilt ne (by simp [a_e, ne]) fun y h' tk hy ho st' hTup hsz hk => ?_
    have ey : y = u := by
      have z : its.toArray[i]? = some u := by simpa using hu
      rw [z] at hy
      exact (Option.some.inj hy).symm
    subst ey
    refine ⟨_, rfl, wpAny_letOwnedTupleGo_enum (s := { s with heap := h', toks := tk + 1 }) ho fun h'' he' sb => ?_⟩
    have hT2 : h''.get? s.heap.objs.size = some { cls := .type "tuple", data := .seq #[.int i tk, y] } := (sb.2 _ (Nat.ne_of_gt sz_e)).trans hTup
    have new : ObjOk X.prog X.w (upd H s.heap.objs.size (.tup [.int (i : Nat), x])) h'' s.heap.objs.size (.tup [.int (i : Nat), x]) :=
      ⟨by show 2 ≤ sizeLine; decide, [.int i tk, y], .cons ⟨_, rfl⟩ (.cons ru .nil), ⟨_, hT2, rfl, _, rfl⟩⟩
    have I1 : Inv X pins σ (upd H s.heap.objs.size (.tup [.int (i : Nat), x])) { s with heap := h'', toks := tk + 1 } :=
      I.turnedNew (ch := [e, it]) (fun b ob hb q => (sb.2 b (fun z => hb (by simp [z]))).trans (hk b ob (fun z => hb (by simp [z])) (fun z => hb (by simp [z])) q)) hf (Nat.le_refl _) new
    refine ⟨.ref s.heap.objs.size, _, I1, rfl, ⟨_, x, rfl, I.hok.fresh (Nat.le_refl _), rfl, fun ys hy => by rw [I.tuple_inj hy hq]; exact hx⟩,
      ⟨⟨y, ?_⟩, st'.1.at fun o q => (sb.2 it (Ne.symm ne)).trans q, ne⟩, fun b hb => ?_⟩
    · rw [show ((i + 1 : Nat) : Int) = (i : Int) + 1 from by omega]
      exact he'
    · have lt : b < s.heap.objs.size := by
        rcases List.mem_cons.mp hb with z | z
        · rw [z]; exact sz_e
        · rw [show b = it from by simpa using z]; exact sz_i
      rw [upd_ne (Nat.ne_of_lt lt)]
      exact (hf b hb).1
  done := by
    intro X hP hw hK hc i pins s σ H E I hf st hg
    subst hP hw hK
    obtain ⟨⟨old, isE⟩, iti, ne⟩ := st
    obtain ⟨xs, hq, hx⟩ := hg
    obtain ⟨its, rv, p, hz⟩ := I.tuple hq
    obtain ⟨f0, f1, f2, f3, f4, f5⟩ := hf it (by simp)
    have hT : s.heap.IsTuple a its.toArray := p
    have none_i : its.toArray[i]? = none := by
      have z := rv.length
      rw [List.getElem?_toArray]
      exact List.getElem?_eq_none_iff.mpr (by omega)
    exact qEnumEnd (I.ok.hd hc) isE iti hT none_i fun h' eb => ⟨rfl, I.turned (t' := s.toks) (fun b o hb q => eb b o hb q) f0 f1 f3 f4 f5⟩
  self := fun A i s Q E ⟨⟨_, isE⟩, _⟩ hQ => wpAny_pyIter_enum isE hQ
/-- enumerate over a list or a tuple -/
def iEn2 (K : PySem.W.Frag) (ta : TA) : TI := fun σ H R => ta σ H fun vs H1 => ∃ a xs, vs = [.ref a] ∧ ((SqL K H1 a xs ∧ R (Ite K a) H1) ∨ (SqT K H1 a xs ∧ R (Iet K a) H1))
theorem pi_en2 {X : Cx} {e : Expr} {ta : TA} {p pos tpos : Pos} {elts : List Expr} {kk : Nat} (hg : Gl X "enumerate") (hm : X.mg "enumerate" = none) (ha : PA X [e] ta) (hs : starEach [e] X.env = [(false, eval e X.env)] := by rfl) :
    PI X (.Tuple elts kk tpos) (.Call (.Name "enumerate" p) [e] [] pos) (iEn2 X.K ta) := by
  refine ⟨fun pins s σ H R I h => ?_⟩
  refine PyProof.Rows.Call_ (ld_blt I hg hm PyProof.Rows.boot_enumerate (PyProof.Rows.callWith_type1 (thn (ha.run pos pins s σ H _ I h) fun us s1 ⟨vs, H1, I1, r1, q1⟩ => ?_) hs rfl))
  obtain ⟨a, xs, ex, hq⟩ := q1
  subst ex
  cases r1 with
  | cons r rr =>
    cases rr
    cases r
    have places : ∀ b ∈ [s1.heap.objs.size + 1, s1.heap.objs.size], s1.heap.objs.size ≤ b := fun b hb => by
      rcases List.mem_cons.mp hb with z | z
      · omega
      · have z2 : b = s1.heap.objs.size := by simpa using z
        omega
    rcases hq with ⟨hq, q⟩ | ⟨hq, q⟩
    · obtain ⟨its, rv, p', hz⟩ := I1.list hq
      refine call_enumerate_list p'.isList fun h' he hit hsz hk => wpAny_pyIter_enum he ?_
      exact ⟨s1.heap.objs.size + 1, [s1.heap.objs.size + 1, s1.heap.objs.size], _, _, H1, rfl, I1.kept (t' := s1.toks) hk, turn_enum a (s1.heap.objs.size + 1) s1.heap.objs.size,
        ⟨⟨.none, he⟩, hit, Nat.succ_ne_self _⟩, fun b hb => I1.fpOk (places b hb) (I1.hok.fresh (places b hb)), q⟩
    · obtain ⟨its, rv, p', hz⟩ := I1.tuple hq
      have hT : s1.heap.IsTuple a its.toArray := p'
      refine qEnumBegin (begins_tuple a its.toArray) hT fun h' he hit hk => wpAny_pyIter_enum he ?_
      exact ⟨s1.heap.objs.size + 1, [s1.heap.objs.size + 1, s1.heap.objs.size], _, _, H1, rfl, I1.kept (t' := s1.toks) hk, turnT a (s1.heap.objs.size + 1) s1.heap.objs.size,
        ⟨⟨.none, he⟩, ⟨_, hit, rfl, rfl⟩, Nat.succ_ne_self _⟩, fun b hb => I1.fpOk (places b hb) (I1.hok.fresh (places b hb)), q⟩
theorem k_en2 {X : Cx} {K : PySem.W.Frag} {e : Expr} {ta : TA} {p pos tpos : Pos} {elts : List Expr} {kk : Nat} (ek : X.K = K) (hg : Gl X "enumerate") (hm : X.mg "enumerate" = none) (ha : PA X [e] ta) (hs : starEach [e] X.env = [(false, eval e X.env)] := by rfl) :
    PI X (.Tuple elts kk tpos) (.Call (.Name "enumerate" p) [e] [] pos) (iEn2 K ta) := by subst ek; exact pi_en2 hg hm ha hs
section
variable {K : PySem.W.Frag} {g : TG} {tt : TT} {te : TE} {vs : List Nat} {σ σ0 : L2.St} {H : Hp} {Q : VK} {a : Addr} {R : It → Hp → Prop} {N : L2.St → Hp → Prop}
def En2R (K : PySem.W.Frag) (vs : List V) (R : It → Hp → Prop) (H : Hp) : Prop := ∃ a xs, vs = [.ref a] ∧ ((SqL K H a xs ∧ R (Ite K a) H) ∨ (SqT K H a xs ∧ R (Iet K a) H))
theorem g_iEn2 {ta : TA} (h : ta σ H fun ws H1 => En2R K ws R H1) : iEn2 K ta σ H R := h
theorem g_en2L {xs : List V} (c : SqL K H a xs) (h : R (Ite K a) H) : En2R K [.ref a] R H := ⟨a, xs, rfl, .inl ⟨c, h⟩⟩
theorem g_en2T {xs : List V} (c : SqT K H a xs) (h : R (Iet K a) H) : En2R K [.ref a] R H := ⟨a, xs, rfl, .inr ⟨c, h⟩⟩
def En1R (K : PySem.W.Frag) (vs : List V) (R : It → Hp → Prop) (H : Hp) : Prop := ∃ a xs, vs = [.ref a] ∧ SqL K H a xs ∧ R (Ite K a) H
theorem g_iEnum {ta : TA} (h : ta σ H fun ws H1 => En1R K ws R H1) : iEnum K ta σ H R := h
theorem g_en1 {xs : List V} (c : SqL K H a xs) (h : R (Ite K a) H) : En1R K [.ref a] R H := ⟨a, xs, rfl, c, h⟩
theorem g_gTup {n : Nat} {t : TGs} {p : Addr} {xs : List V} (c : SqT K H p xs) (e : xs.length = n) (h : t xs σ H N) : gTup K n t (.ref p) σ H N := ⟨p, xs, rfl, c, e, h⟩
theorem g_gCons {t : TG} {u : TGs} {v : V} {r : List V} (h : t v σ H fun σ' H' => u r σ' H' N) : gCons t u (v :: r) σ H N := ⟨v, r, rfl, h⟩
theorem g_gNil (h : N σ H) : gNil [] σ H N := ⟨rfl, h⟩
theorem lcE {xs : List V} (hw : wipe σ vs = σ0) (h : ∀ D, H D = none → ∃ Pv : Nat → Hp → Prop, Pv 0 (upd H D (.lst [])) ∧ (∀ i H', i ≤ xs.length → Pv i H' → SqL K H' a xs) ∧
    (∀ (i : Nat) (x : V) (T : Addr) (H' : Hp), xs[i]? = some x → Pv i H' → H' T = none → Turn1 g tt te vs σ0 D (.ref T) (upd H' T (.tup [.int (i : Nat), x])) (Pv (i + 1))) ∧
    ∀ H', Pv xs.length H' → Q (.ref D) H') : LcG (Ite K a) g tt te vs σ Q H := by
  subst hw
  intro D hD
  obtain ⟨Pv, h0, hl, hs, hd⟩ := h D hD
  refine ⟨fun i m H => m = xs.length - i ∧ i ≤ xs.length ∧ Pv i H, ⟨xs.length, by simp, Nat.zero_le _, h0⟩, ?_⟩
  rintro i m H ⟨rfl, hi, p⟩
  have q := hl i H hi p
  rcases Nat.lt_or_ge i xs.length with hlt | hge
  · exact .inr ⟨⟨xs, xs[i], q, by simp [hlt]⟩, Pv (i + 1), fun H' p' => ⟨xs.length - (i + 1), by omega, rfl, hlt, p'⟩, fun v H' ⟨T, x, e1, e2, e3, e4⟩ => by subst e1 e3; exact hs i x T _ (e4 xs q) p e2⟩
  · have e : i = xs.length := by omega
    subst e
    exact .inl ⟨⟨xs, q, Nat.le_refl _⟩, hd H p⟩
theorem lcET {xs : List V} (hw : wipe σ vs = σ0) (h : ∀ D, H D = none → ∃ Pv : Nat → Hp → Prop, Pv 0 (upd H D (.lst [])) ∧ (∀ i H', i ≤ xs.length → Pv i H' → SqT K H' a xs) ∧
    (∀ (i : Nat) (x : V) (T : Addr) (H' : Hp), xs[i]? = some x → Pv i H' → H' T = none → Turn1 g tt te vs σ0 D (.ref T) (upd H' T (.tup [.int (i : Nat), x])) (Pv (i + 1))) ∧
    ∀ H', Pv xs.length H' → Q (.ref D) H') : LcG (Iet K a) g tt te vs σ Q H := by
  subst hw
  intro D hD
  obtain ⟨Pv, h0, hl, hs, hd⟩ := h D hD
  refine ⟨fun i m H => m = xs.length - i ∧ i ≤ xs.length ∧ Pv i H, ⟨xs.length, by simp, Nat.zero_le _, h0⟩, ?_⟩
  rintro i m H ⟨rfl, hi, p⟩
  have q := hl i H hi p
  rcases Nat.lt_or_ge i xs.length with hlt | hge
  · exact .inr ⟨⟨xs, xs[i], q, by simp [hlt]⟩, Pv (i + 1), fun H' p' => ⟨xs.length - (i + 1), by omega, rfl, hlt, p'⟩, fun v H' ⟨T, x, e1, e2, e3, e4⟩ => by subst e1 e3; exact hs i x T _ (e4 xs q) p e2⟩
  · have e : i = xs.length := by omega
    subst e
    exact .inl ⟨⟨xs, q, Nat.le_refl _⟩, hd H p⟩
def ZipR (K : PySem.W.Frag) (vs : List V) (R : It → Hp → Prop) (H : Hp) : Prop := ∃ a b xs ys, vs = [.ref a, .ref b] ∧ ((SqL K H a xs ∧ SqL K H b ys ∧ R (Itz K a b) H) ∨ (SqT K H a xs ∧ SqT K H b ys ∧ R (ItzT K a b) H))
theorem g_iZipA {ta : TA} (h : ta σ H fun ws H1 => ZipR K ws R H1) : iZipA K ta σ H R := h
theorem g_zipL {b : Addr} {xs ys : List V} (c : SqL K H a xs) (d : SqL K H b ys) (h : R (Itz K a b) H) : ZipR K [.ref a, .ref b] R H := ⟨a, b, xs, ys, rfl, .inl ⟨c, d, h⟩⟩
theorem g_zipT {b : Addr} {xs ys : List V} (c : SqT K H a xs) (d : SqT K H b ys) (h : R (ItzT K a b) H) : ZipR K [.ref a, .ref b] R H := ⟨a, b, xs, ys, rfl, .inr ⟨c, d, h⟩⟩
theorem lcZ {b : Addr} {xs ys : List V} (hl : xs.length = ys.length) (hw : wipe σ vs = σ0) (h : ∀ D, H D = none → ∃ Pv : Nat → Hp → Prop, Pv 0 (upd H D (.lst [])) ∧ (∀ i H', Pv i H' → SqL K H' a xs ∧ SqL K H' b ys) ∧
    (∀ (i : Nat) (x y : V) (T : Addr) (H' : Hp), xs[i]? = some x → ys[i]? = some y → Pv i H' → H' T = none → Turn1 g tt te vs σ0 D (.ref T) (upd H' T (.tup [x, y])) (Pv (i + 1))) ∧
    ∀ H', Pv xs.length H' → Q (.ref D) H') : LcG (Itz K a b) g tt te vs σ Q H := by
  subst hw
  intro D hD
  obtain ⟨Pv, h0, hq, hs, hd⟩ := h D hD
  refine ⟨fun i m H => m = xs.length - i ∧ i ≤ xs.length ∧ Pv i H, ⟨xs.length, by simp, Nat.zero_le _, h0⟩, ?_⟩
  rintro i m H ⟨rfl, hi, p⟩
  obtain ⟨q1, q2⟩ := hq i H p
  rcases Nat.lt_or_ge i xs.length with hlt | hge
  · exact .inr ⟨⟨xs, ys, xs[i], ys[i]'(by omega), q1, q2, by simp [hlt], by simp⟩, Pv (i + 1), fun H' p' => ⟨xs.length - (i + 1), by omega, rfl, hlt, p'⟩,
      fun v H' ⟨T, x, y, e1, e2, e3, e4, e5⟩ => by subst e1 e3; exact hs i x y T _ (e4 xs q1) (e5 ys q2) p e2⟩
  · have e : i = xs.length := by omega
    subst e
    exact .inl ⟨⟨xs, ys, q1, q2, .inl (Nat.le_refl _)⟩, hd H p⟩
theorem lcZT {b : Addr} {xs ys : List V} (hl : xs.length = ys.length) (hw : wipe σ vs = σ0) (h : ∀ D, H D = none → ∃ Pv : Nat → Hp → Prop, Pv 0 (upd H D (.lst [])) ∧ (∀ i H', Pv i H' → SqT K H' a xs ∧ SqT K H' b ys) ∧
    (∀ (i : Nat) (x y : V) (T : Addr) (H' : Hp), xs[i]? = some x → ys[i]? = some y → Pv i H' → H' T = none → Turn1 g tt te vs σ0 D (.ref T) (upd H' T (.tup [x, y])) (Pv (i + 1))) ∧
    ∀ H', Pv xs.length H' → Q (.ref D) H') : LcG (ItzT K a b) g tt te vs σ Q H := by
  subst hw
  intro D hD
  obtain ⟨Pv, h0, hq, hs, hd⟩ := h D hD
  refine ⟨fun i m H => m = xs.length - i ∧ i ≤ xs.length ∧ Pv i H, ⟨xs.length, by simp, Nat.zero_le _, h0⟩, ?_⟩
  rintro i m H ⟨rfl, hi, p⟩
  obtain ⟨q1, q2⟩ := hq i H p
  rcases Nat.lt_or_ge i xs.length with hlt | hge
  · exact .inr ⟨⟨xs, ys, xs[i], ys[i]'(by omega), q1, q2, by simp [hlt], by simp⟩, Pv (i + 1), fun H' p' => ⟨xs.length - (i + 1), by omega, rfl, hlt, p'⟩,
      fun v H' ⟨T, x, y, e1, e2, e3, e4, e5⟩ => by subst e1 e3; exact hs i x y T _ (e4 xs q1) (e5 ys q2) p e2⟩
  · have e : i = xs.length := by omega
    subst e
    exact .inl ⟨⟨xs, ys, q1, q2, .inl (Nat.le_refl _)⟩, hd H p⟩
end
theorem k_zip {X : Cx} {K : PySem.W.Frag} {e e2 : Expr} {ta : TA} {p pos tpos : Pos} {elts : List Expr} {kk : Nat} (ek : X.K = K) (hg : Gl X "zip") (hm : X.mg "zip" = none) (ha : PA X [e, e2] ta)
    (hs : starEach [e, e2] X.env = (false, eval e X.env) :: starEach [e2] X.env := by rfl) (hl : (backTo pos (starEach [e2] X.env)).any (·.1) = false := by rfl) :
    PI X (.Tuple elts kk tpos) (.Call (.Name "zip" p) [e, e2] [] pos) (iZipA K ta) := by subst ek; exact pi_zipA hg hm ha hs hl
end Q

set_option Elab.async false
set_option linter.all false
set_option maxRecDepth 100000
set_option maxHeartbeats 2000000
/-! zip of lists and tuples, mixed -/
namespace Q
open PySem PySem.Spec L2 RZ
/-- a list (true) or a tuple (false) -/
def SqB (k : Bool) (K : PySem.W.Frag) (H : Hp) (a : Addr) (xs : List V) : Prop := if k = true then SqL K H a xs else SqT K H a xs
def IsB (k : Bool) (h : Heap) (a : Addr) (its : Array Value) : Prop := if k = true then h.IsList a its else h.IsTuple a its
def ItB (k : Bool) (h : Heap) (it a : Addr) (i : Nat) : Prop := if k = true then h.IsListIter it a i else h.IsTupleIter it a i
section
variable {X : Cx} {pins : List (Addr × Obj)} {σ : L2.St} {H : Hp} {s : Shared} {a it : Addr} {xs ys : List V} {k : Bool} {i : Nat} {h h' : Heap}
theorem sqB_of (I : Inv X pins σ H s) (c : SqB k X.K H a xs) : ∃ its : List Value, Vals xs its ∧ IsB k s.heap a its.toArray := by
  cases k
  · obtain ⟨its, r, p, _⟩ := I.tuple (show SqT X.K H a xs from c)
    exact ⟨its, r, show s.heap.IsTuple a its.toArray from p⟩
  · obtain ⟨its, r, p, _⟩ := I.list (show SqL X.K H a xs from c)
    exact ⟨its, r, show s.heap.IsList a its.toArray from p.isList⟩
theorem sqB_inj (I : Inv X pins σ H s) (c : SqB k X.K H a xs) (d : SqB k X.K H a ys) : xs = ys := by
  cases k
  · exact I.tuple_inj (show SqT X.K H a xs from c) d
  · exact I.list_inj (show SqL X.K H a xs from c) d
theorem ItB.keep (c : ItB k h it a i) (q : ∀ o, h.get? it = some o → h'.get? it = some o) : ItB k h' it a i := by
  cases k
  · exact Heap.IsTupleIter.at (show h.IsTupleIter it a i from c) q
  · exact Heap.IsListIter.at (show h.IsListIter it a i from c) q
theorem ItB.obj (c : ItB k h it a i) : ∃ o, h.get? it = some o ∧ ∀ v, o.data ≠ .cell v := by
  cases k
  · obtain ⟨o, e, _, d⟩ := (show h.IsTupleIter it a i from c)
    exact ⟨o, e, fun v z => by rw [d] at z; cases z⟩
  · obtain ⟨o, e, _, d⟩ := (show h.IsListIter it a i from c)
    exact ⟨o, e, fun v z => by rw [d] at z; cases z⟩
theorem IsB.lt {its : Array Value} (c : IsB k h a its) : a < h.objs.size := by
  cases k
  · obtain ⟨o, e, _⟩ := (show h.IsTuple a its from c)
    exact Heap.lt_size e
  · obtain ⟨o, e, _⟩ := (show h.IsList a its from c)
    exact Heap.lt_size e
theorem drawsB {P : Program} {w : World} {A : Around} (hh : A.handled = none) (k : Bool) (it l : Addr) (ne : l ≠ it) (items : Array Value) :
    Draws P w A it [it, l] items.size (fun i v => items[i]? = some v) (fun i h => ItB k h it l i ∧ IsB k h l items) := by
  cases k
  · exact Draws.tuple hh it l ne items
  · exact Draws.list hh it l ne items
def oB (k : Bool) (l : Addr) : Obj := { cls := .type (if k = true then "list_iterator" else "tuple_iterator"), data := .fields #[.ref l, .int 0 0] }
theorem beginsB (k : Bool) (l : Addr) (items : Array Value) : Begins (.ref l) (oB k l) fun h => IsB k h l items := by
  cases k
  · exact begins_tuple l items
  · exact begins_list l items
theorem oB_it {l : Addr} (e : h.get? it = some (oB k l)) : ItB k h it l 0 := by
  cases k
  · exact ⟨_, e, rfl, rfl⟩
  · exact ⟨_, e, rfl, rfl⟩
end
/-- the turns of zip over a and b: a new pair each -/
def Itm (K : PySem.W.Frag) (k l : Bool) (a b : Addr) : It :=
  ⟨fun i H => ∃ (xs ys : List V) (x y : V), SqB k K H a xs ∧ SqB l K H b ys ∧ xs[i]? = some x ∧ ys[i]? = some y,
    fun i H v H' => ∃ T x y, v = .ref T ∧ H T = none ∧ H' = upd H T (.tup [x, y]) ∧ (∀ xs, SqB k K H a xs → xs[i]? = some x) ∧ ∀ ys, SqB l K H b ys → ys[i]? = some y,
    fun i H => ∃ xs ys : List V, SqB k K H a xs ∧ SqB l K H b ys ∧ i ≤ xs.length ∧ i ≤ ys.length ∧ (i = xs.length ∨ i = ys.length)⟩
theorem turnM {P : Program} {w : World} {K : PySem.W.Frag} {elts : List Expr} {kk : Nat} {tpos : Pos} {k l : Bool} {a b z TI TO i1 i2 : Addr} (S : ZipSep2 z TI TO i1 i2 [i1, a] [i2, b]) :
    L2.Turn P w K (.Tuple elts kk tpos) (Itm K k l a b) [z, TI, TO, i1, i2] z
      (fun i h => IsZip h z TI TO .none ∧ IsTupOf2 h TI (.ref i1) (.ref i2) ∧ (∃ x y, IsTupOf2 h TO x y) ∧ ItB k h i1 a i ∧ ItB l h i2 b i) where
  mem := List.mem_cons_self ..
  obj := fun i h ⟨isZ, hTI, ⟨x, y, hTO⟩, t1, t2⟩ c hc => by
    have five : c = z ∨ c = TI ∨ c = TO ∨ c = i1 ∨ c = i2 := by simpa using hc
    rcases five with e | e | e | e | e <;> rw [e]
    · exact ⟨_, isZ, fun v q => by cases q⟩
    · exact ⟨_, hTI, fun v q => by cases q⟩
    · exact ⟨_, hTO, fun v q => by cases q⟩
    · exact t1.obj
    · exact t2.obj
  keep := fun i h h' ⟨isZ, hTI, ⟨x, y, hTO⟩, t1, t2⟩ kp =>
    ⟨kp z (by simp) _ isZ, kp TI (by simp) _ hTI, ⟨x, y, kp TO (by simp) _ hTO⟩, t1.keep fun o q => kp i1 (by simp) o q, t2.keep fun o q => kp i2 (by simp) o q⟩
  item := by
    intro X hP hw hK hc i pins s σ H E I hf ⟨isZ, hTI, ⟨x0, y0, hTO⟩, t1, t2⟩ ⟨xs, ys, x, y, cx, cy, hx, hy⟩
    subst hP hw hK
    obtain ⟨us, ru, pu⟩ := sqB_of I cx
    obtain ⟨vs, rv, pv⟩ := sqB_of I cy
    obtain ⟨u, hu, eu⟩ := ru.get hx
    obtain ⟨v, hv, ev⟩ := rv.get hy
    have hd : X.A.in1.handled = none := I.ok.hd hc
    have n1 : a ≠ i1 := fun e => by
      obtain ⟨o, e1, _⟩ := t1.obj
      have := S.sep1_2
      cases k
      · obtain ⟨o1, g1, c1, _⟩ := (show s.heap.IsTupleIter i1 a i from t1)
        obtain ⟨o2, g2, c2, _⟩ := (show s.heap.IsTuple a us.toArray from pu)
        rw [e, g1] at g2; cases g2; rw [c1] at c2; injection c2 with c3; exact absurd c3 (by decide)
      · obtain ⟨o1, g1, c1, _⟩ := (show s.heap.IsListIter i1 a i from t1)
        obtain ⟨o2, g2, c2, _⟩ := (show s.heap.IsList a us.toArray from pu)
        rw [e, g1] at g2; cases g2; rw [c1] at c2; injection c2 with c3; exact absurd c3 (by decide)
    have n2 : b ≠ i2 := fun e => by
      cases l
      · obtain ⟨o1, g1, c1, _⟩ := (show s.heap.IsTupleIter i2 b i from t2)
        obtain ⟨o2, g2, c2, _⟩ := (show s.heap.IsTuple b vs.toArray from pv)
        rw [e, g1] at g2; cases g2; rw [c1] at c2; injection c2 with c3; exact absurd c3 (by decide)
      · obtain ⟨o1, g1, c1, _⟩ := (show s.heap.IsListIter i2 b i from t2)
        obtain ⟨o2, g2, c2, _⟩ := (show s.heap.IsList b vs.toArray from pv)
        rw [e, g1] at g2; cases g2; rw [c1] at c2; injection c2 with c3; exact absurd c3 (by decide)
    have D1 := drawsB (P := X.prog) (w := X.w) hd k i1 a n1 us.toArray
    have D2 := drawsB (P := X.prog) (w := X.w) hd l i2 b n2 vs.toArray
    have lt1 : i < us.toArray.size := by rw [List.size_toArray]; exact (List.getElem?_eq_some_iff.mp hu).1
    have lt2 : i < vs.toArray.size := by rw [List.size_toArray]; exact (List.getElem?_eq_some_iff.mp hv).1
    have ltz : z < s.heap.objs.size := Heap.lt_size isZ
    refine wpAny_pyNext_zipD2_item S D1 D2 isZ hTI hTO ⟨t1, pu⟩ ⟨t2, pv⟩ lt1 lt2 fun p q h' tk hp hq z' TO' s1' s2' hT hsz hk => ?_
    have ep : u = p := by
      have e : us.toArray[i]? = some u := by simpa using hu
      rw [show us.toArray[i]? = some p from hp] at e
      exact (Option.some.inj e).symm
    have eq : v = q := by
      have e : vs.toArray[i]? = some v := by simpa using hv
      rw [show vs.toArray[i]? = some q from hq] at e
      exact (Option.some.inj e).symm
    subst ep eq
    refine ⟨_, rfl, wpAny_letOwnedTupleGo_zip (s := { s with heap := h', toks := tk }) z' fun h'' z'' sb => ?_⟩
    have pairAt : h''.get? s.heap.objs.size = some { cls := .type "tuple", data := .seq #[u, v] } := (sb.2 _ (Nat.ne_of_gt ltz)).trans hT
    have new : ObjOk X.prog X.w (upd H s.heap.objs.size (.tup [x, y])) h'' s.heap.objs.size (.tup [x, y]) :=
      ⟨by show 2 ≤ sizeLine; decide, [u, v], .cons eu (.cons ev .nil), ⟨_, pairAt, rfl, _, rfl⟩⟩
    have stay : ∀ c o, c ∉ [z, TI, TO, i1, i2] → s.heap.get? c = some o → h''.get? c = some o := fun c o hc e => by
      simp only [List.mem_cons, List.not_mem_nil, or_false, not_or] at hc
      exact (sb.2 c hc.1).trans (hk c o hc.1 hc.2.2.1 hc.2.2.2.1 hc.2.2.2.2 e)
    have I1 : Inv X pins σ (upd H s.heap.objs.size (.tup [x, y])) { s with heap := h'', toks := tk } := I.turnedNew (ch := [z, TI, TO, i1, i2]) stay hf (Nat.le_refl _) new
    refine ⟨.ref s.heap.objs.size, _, I1, rfl, ⟨_, x, y, rfl, I.hok.fresh (Nat.le_refl _), rfl, fun l hl => by rw [sqB_inj I hl cx]; exact hx, fun l hl => by rw [sqB_inj I hl cy]; exact hy⟩,
      ⟨z'', ?_, ⟨u, v, ?_⟩, ?_, ?_⟩, fun c hcm => ?_⟩
    · exact (sb.2 _ S.TIz).trans (hk _ _ S.TIz S.TITO S.TIi1 S.TIi2 hTI)
    · exact (sb.2 _ S.TOz).trans TO'
    · exact s1'.1.keep fun o e => (sb.2 _ S.zi1.symm).trans e
    · exact s2'.1.keep fun o e => (sb.2 _ S.zi2.symm).trans e
    · have five : c = z ∨ c = TI ∨ c = TO ∨ c = i1 ∨ c = i2 := by simpa using hcm
      have lt : c < s.heap.objs.size := by
        rcases five with e | e | e | e | e <;> rw [e]
        · exact ltz
        · exact Heap.lt_size hTI
        · exact Heap.lt_size hTO
        · obtain ⟨o, e1, _⟩ := t1.obj; exact Heap.lt_size e1
        · obtain ⟨o, e1, _⟩ := t2.obj; exact Heap.lt_size e1
      rw [upd_ne (Nat.ne_of_lt lt)]
      exact (hf c hcm).1
  done := by
    intro X hP hw hK hc i pins s σ H E I hf ⟨isZ, hTI, ⟨x0, y0, hTO⟩, t1, t2⟩ ⟨xs, ys, cx, cy, le1, le2, hend⟩
    subst hP hw hK
    obtain ⟨us, ru, pu⟩ := sqB_of I cx
    obtain ⟨vs, rv, pv⟩ := sqB_of I cy
    have l1 := ru.length
    have l2 := rv.length
    have hd : X.A.in1.handled = none := I.ok.hd hc
    have n1 : a ≠ i1 := fun e => by
      cases k
      · obtain ⟨o1, g1, c1, _⟩ := (show s.heap.IsTupleIter i1 a i from t1)
        obtain ⟨o2, g2, c2, _⟩ := (show s.heap.IsTuple a us.toArray from pu)
        rw [e, g1] at g2; cases g2; rw [c1] at c2; injection c2 with c3; exact absurd c3 (by decide)
      · obtain ⟨o1, g1, c1, _⟩ := (show s.heap.IsListIter i1 a i from t1)
        obtain ⟨o2, g2, c2, _⟩ := (show s.heap.IsList a us.toArray from pu)
        rw [e, g1] at g2; cases g2; rw [c1] at c2; injection c2 with c3; exact absurd c3 (by decide)
    have n2 : b ≠ i2 := fun e => by
      cases l
      · obtain ⟨o1, g1, c1, _⟩ := (show s.heap.IsTupleIter i2 b i from t2)
        obtain ⟨o2, g2, c2, _⟩ := (show s.heap.IsTuple b vs.toArray from pv)
        rw [e, g1] at g2; cases g2; rw [c1] at c2; injection c2 with c3; exact absurd c3 (by decide)
      · obtain ⟨o1, g1, c1, _⟩ := (show s.heap.IsListIter i2 b i from t2)
        obtain ⟨o2, g2, c2, _⟩ := (show s.heap.IsList b vs.toArray from pv)
        rw [e, g1] at g2; cases g2; rw [c1] at c2; injection c2 with c3; exact absurd c3 (by decide)
    have D1 := drawsB (P := X.prog) (w := X.w) hd k i1 a n1 us.toArray
    have D2 := drawsB (P := X.prog) (w := X.w) hd l i2 b n2 vs.toArray
    refine wpAny_pyNext_zipD2_end S D1 D2 isZ hTI hTO ⟨t1, pu⟩ ⟨t2, pv⟩ (by rw [List.size_toArray]; omega) (by rw [List.size_toArray]; omega) (by rw [List.size_toArray, List.size_toArray]; omega) fun h' tk hk => ⟨rfl, ?_⟩
    refine I.turnedL (t' := tk) (ch := [z, TI, TO, i1, i2]) (fun c o hc e => ?_) hf
    simp only [List.mem_cons, List.not_mem_nil, or_false, not_or] at hc
    exact hk c o hc.1 hc.2.2.1 hc.2.2.2.1 hc.2.2.2.2 e
  self := fun A i s Q E st go => wpAny_pyIter_zip st.1 go
/-- zip of two, each a list or a tuple -/
def iZm (K : PySem.W.Frag) (ta : TA) : TI := fun σ H R => ta σ H fun vs H1 => ∃ (k l : Bool) (a b : Addr) (xs ys : List V), vs = [.ref a, .ref b] ∧ SqB k K H1 a xs ∧ SqB l K H1 b ys ∧ R (Itm K k l a b) H1
theorem pi_zm {X : Cx} {e e2 : Expr} {ta : TA} {p pos tpos : Pos} {elts : List Expr} {kk : Nat} (hg : Gl X "zip") (hm : X.mg "zip" = none) (ha : PA X [e, e2] ta)
    (st : starEach [e, e2] X.env = (false, eval e X.env) :: starEach [e2] X.env := by rfl) (nost : (backTo pos (starEach [e2] X.env)).any (·.1) = false := by rfl) :
    PI X (.Tuple elts kk tpos) (.Call (.Name "zip" p) [e, e2] [] pos) (iZm X.K ta) := by
  refine ⟨fun pins s σ H R I h => ?_⟩
  refine PyProof.Rows.Call_ (ld_blt I hg hm PyProof.Rows.boot_zip (PyProof.Rows.callWith_type1 (thn (ha.run pos pins s σ H _ I h) fun us s1 ⟨vs, H1, I1, r1, q1⟩ => ?_) st nost))
  obtain ⟨k, l, a, b, xs, ys, ex, cx, cy, q1⟩ := q1
  subst ex
  cases r1 with
  | cons r rr =>
    cases rr with
    | cons r' rr =>
      cases rr
      cases r
      cases r'
      obtain ⟨u, ru, pu⟩ := sqB_of I1 cx
      obtain ⟨v, rv, pv⟩ := sqB_of I1 cy
      have apart : ∀ c ∈ [s1.heap.objs.size + 4, s1.heap.objs.size + 2, s1.heap.objs.size + 3, s1.heap.objs.size, s1.heap.objs.size + 1], FpOk X pins H1 c := fun c hc => by
        have five : c = s1.heap.objs.size + 4 ∨ c = s1.heap.objs.size + 2 ∨ c = s1.heap.objs.size + 3 ∨ c = s1.heap.objs.size ∨ c = s1.heap.objs.size + 1 := by simpa using hc
        have le : s1.heap.objs.size ≤ c := by
          rcases five with z | z | z | z | z
          · rw [z]; exact Nat.le_add_right ..
          · rw [z]; exact Nat.le_add_right ..
          · rw [z]; exact Nat.le_add_right ..
          · rw [z]; exact Nat.le_refl _
          · rw [z]; exact Nat.le_add_right ..
        exact I1.fpOk le (I1.hok.fresh le)
      refine zip_begins2 (beginsB k a u.toArray) (beginsB l b v.toArray) pu pv fun h' isZ hTI hTO g1 g2 hsz hk => wpAny_pyIter_zip isZ ?_
      refine ⟨s1.heap.objs.size + 4, [s1.heap.objs.size + 4, s1.heap.objs.size + 2, s1.heap.objs.size + 3, s1.heap.objs.size, s1.heap.objs.size + 1], _, _, H1, rfl, I1.kept (t' := s1.toks) hk,
        turnM (k := k) (l := l) (zip_sep2 (fp1 := [a]) (fp2 := [b]) (fun c hc => ?_) (fun c hc => ?_)), ⟨isZ, hTI, ⟨_, _, hTO⟩, oB_it g1, oB_it g2⟩, apart, q1⟩
      · rw [show c = a from by simpa using hc]; exact pu.lt
      · rw [show c = b from by simpa using hc]; exact pv.lt
theorem k_zm {X : Cx} {K : PySem.W.Frag} {e e2 : Expr} {ta : TA} {p pos tpos : Pos} {elts : List Expr} {kk : Nat} (ek : X.K = K) (hg : Gl X "zip") (hm : X.mg "zip" = none) (ha : PA X [e, e2] ta)
    (st : starEach [e, e2] X.env = (false, eval e X.env) :: starEach [e2] X.env := by rfl) (nost : (backTo pos (starEach [e2] X.env)).any (·.1) = false := by rfl) :
    PI X (.Tuple elts kk tpos) (.Call (.Name "zip" p) [e, e2] [] pos) (iZm K ta) := by subst ek; exact pi_zm hg hm ha st nost
section
variable {K : PySem.W.Frag} {g : TG} {tt : TT} {te : TE} {vs : List Nat} {σ σ0 : L2.St} {H : Hp} {Q : VK} {a b : Addr} {R : It → Hp → Prop} {k l : Bool}
def ZmR (K : PySem.W.Frag) (vs : List V) (R : It → Hp → Prop) (H : Hp) : Prop := ∃ (k l : Bool) (a b : Addr) (xs ys : List V), vs = [.ref a, .ref b] ∧ SqB k K H a xs ∧ SqB l K H b ys ∧ R (Itm K k l a b) H
theorem g_iZm {ta : TA} (h : ta σ H fun ws H1 => ZmR K ws R H1) : iZm K ta σ H R := h
theorem g_zm {xs ys : List V} (c : SqB k K H a xs) (d : SqB l K H b ys) (h : R (Itm K k l a b) H) : ZmR K [.ref a, .ref b] R H := ⟨k, l, a, b, xs, ys, rfl, c, d, h⟩
theorem sqB_same {xs : List V} {H' : Hp} (c : SqB k K H a xs) (e : L2.Same H H') : SqB k K H' a xs := by
  cases k
  · exact seqT_same e (show SqT K H a xs from c)
  · exact e.seq (show SqL K H a xs from c)
theorem lcM {xs ys : List V} (len : xs.length = ys.length) (hw : wipe σ vs = σ0) (h : ∀ D, H D = none → ∃ Pv : Nat → Hp → Prop, Pv 0 (upd H D (.lst [])) ∧ (∀ i H', Pv i H' → SqB k K H' a xs ∧ SqB l K H' b ys) ∧
    (∀ (i : Nat) (x y : V) (T : Addr) (H' : Hp), xs[i]? = some x → ys[i]? = some y → Pv i H' → H' T = none → Turn1 g tt te vs σ0 D (.ref T) (upd H' T (.tup [x, y])) (Pv (i + 1))) ∧
    ∀ H', Pv xs.length H' → Q (.ref D) H') : LcG (Itm K k l a b) g tt te vs σ Q H := by
  subst hw
  intro D hD
  obtain ⟨Pv, h0, hq, hs, fin⟩ := h D hD
  refine ⟨fun i m H => m = xs.length - i ∧ i ≤ xs.length ∧ Pv i H, ⟨xs.length, by simp, Nat.zero_le _, h0⟩, ?_⟩
  rintro i m H ⟨rfl, hi, p⟩
  obtain ⟨q1, q2⟩ := hq i H p
  rcases Nat.lt_or_ge i xs.length with lt | ge
  · exact .inr ⟨⟨xs, ys, xs[i], ys[i]'(by omega), q1, q2, by simp [lt], by simp⟩, Pv (i + 1), fun H' p' => ⟨xs.length - (i + 1), by omega, rfl, lt, p'⟩,
      fun v H' ⟨T, x, y, e1, e2, e3, e4, e5⟩ => by subst e1 e3; exact hs i x y T _ (e4 xs q1) (e5 ys q2) p e2⟩
  · have e : i = xs.length := by omega
    subst e
    exact .inl ⟨⟨xs, ys, q1, q2, Nat.le_refl _, by omega, .inl rfl⟩, fin H p⟩
end
section
variable {K : PySem.W.Frag} {g : TG} {tt : TT} {te : TE} {tb : TS} {vs : List Nat} {D0 : Ends} {σ σ0 : L2.St} {H : Hp} {Q : VK} {J : It} {a : Addr}
theorem lcT {xs : List V} (hw : wipe σ vs = σ0) (h : ∀ D, H D = none → ∃ Pv : Nat → Hp → Prop, Pv 0 (upd H D (.lst [])) ∧ (∀ i H', i ≤ xs.length → Pv i H' → SqT K H' a xs) ∧
    (∀ (i : Nat) (x : V) (H' : Hp), xs[i]? = some x → Pv i H' → Turn1 g tt te vs σ0 D x H' (Pv (i + 1))) ∧ ∀ H', Pv xs.length H' → Q (.ref D) H') : LcG (Itt K a) g tt te vs σ Q H := by
  subst hw
  intro D hD
  obtain ⟨Pv, h0, hl, hs, hd⟩ := h D hD
  refine ⟨fun i m H => m = xs.length - i ∧ i ≤ xs.length ∧ Pv i H, ⟨xs.length, by simp, Nat.zero_le _, h0⟩, ?_⟩
  rintro i m H ⟨rfl, hi, p⟩
  have q := hl i H hi p
  rcases Nat.lt_or_ge i xs.length with hlt | hge
  · exact .inr ⟨⟨xs, xs[i], q, by simp [hlt]⟩, Pv (i + 1), fun H' p' => ⟨xs.length - (i + 1), by omega, rfl, hlt, p'⟩, fun x H' ⟨e1, e2⟩ => by subst e1; exact hs i x _ (e2 xs q) p⟩
  · have e : i = xs.length := by omega
    subst e
    exact .inl ⟨⟨xs, q, Nat.le_refl _⟩, hd H p⟩
theorem lcPT {S : List Int} {f : Int → V} {p : Int → Bool} (hw : wipe σ vs = σ0) (hS : SqT K H a (S.map V.int)) (hl : S.length ≤ 1000)
    (turn : ∀ (D : Addr) (acc : List V) (x : Int) (N : Hp → Prop), H D = none → x ∈ S → (p x = true → TurnD D N (f x) (upd H D (.lst acc))) → (p x = false → N (upd H D (.lst acc))) →
      Turn1 g tt te vs σ0 D (.int x) (upd H D (.lst acc)) N)
    (q : ∀ D, H D = none → Q (.ref D) (upd H D (.lst ((S.filter p).map f)))) : LcG (Itt K a) g tt te vs σ Q H := by
  refine lcT (xs := S.map V.int) hw fun D hD => ⟨fun i H' => H' = upd H D (.lst (((S.take i).filter p).map f)), rfl, ?_, ?_, ?_⟩
  · rintro i H' _ rfl
    exact seqT_same (same_new hD) hS
  · rintro i x H' hx rfl
    rw [List.getElem?_map, Option.map_eq_some_iff] at hx
    obtain ⟨n, hn, rfl⟩ := hx
    have hlt : i < S.length := (List.getElem?_eq_some_iff.mp hn).1
    refine turn D _ n _ hD (List.mem_of_getElem? hn) (fun hp => g_turnD upd_same ?_ ?_) (fun hp => ?_)
    · rw [List.length_map]
      have h1 := List.length_filter_le p (S.take i)
      rw [List.length_take] at h1
      omega
    · dsimp only
      rw [upd_upd, List.take_add_one, hn, List.filter_append, List.map_append]
      simp [hp]
    · dsimp only
      rw [List.take_add_one, hn, List.filter_append]
      simp [hp]
  · rintro H' rfl
    rw [List.length_map, List.take_length]
    exact q D hD
end
/-! a comprehension within a comprehension -/
theorem blkOk_rel {N : List Str} {sc scope S : Scope} {own : List (Str × Nat)} (h : blkC N (relS S sc) scope own = true) : BlkOk N (relS S sc) scope own := blkOk_by h
theorem ps_weak {X : Cx} {st : Stmt} {t u : TS} (h : PS X st t) (wk : ∀ D σ H, u D σ H → t D σ H) : PS X st u := ⟨fun pins s σ H D I q => h.run pins s σ H D I (wk D σ H q)⟩
end Q

set_option Elab.async false
set_option linter.all false
set_option maxRecDepth 100000
set_option maxHeartbeats 2000000
/-! classes: methods called with keywords and defaults, properties, own len, repr, bool -/
namespace PySem
/-- a built-in type called: what its __new__ does in this program and World -/
theorem qTypeIn {prog : Program} {w : World} {A : Around} {E : Value → Shared → Prop} {s : Shared} {T newId : String} {Bn : Builtin} {args : List Value} {S : Spec} {Q : Value → Shared → Prop} (ft : TypeCalled T newId "object.__init__")
    (ne : (some newId != some "object.__new__") = true) (c1 : checkTypeCall T ⟨args, []⟩ = pure ()) (c2 : checkBuiltinCall newId ⟨.type T :: args, []⟩ = pure ())
    (ok : ∀ obj, argsOk "object.__init__" ⟨obj :: args, []⟩) (en : entryFor table newId = some Bn) (g : MeetsIn prog w (Bn ⟨.type T :: args, []⟩) S)
    (h : S A.in1 (wants (fun obj t => t.TypeIs obj T ∧ Q obj t) E) s) : wpAny (model prog w) A (call (.type T) args) Q E s := by
  obtain ⟨c, tl, hmro⟩ := ft.mro
  have x1 := ft.made
  have x2 := ft.sub
  have x3 := ft.notType
  have x4 := ft.canCreate
  refine wpAny_call (codeAny_of_tree ?_)
  show wpAny _ _ (callAny (.type T) _) _ _ _
  refine wpAny_pure ⟨Code.quiet_builtin _ (by decide +kernel), codeAny_builtin F.entry_type_call ?_⟩
  rw [Around.under_plain (weight_type_call_type T args []) (units_type_call_type T args [])]
  repeat (any_goals (first | assumption | wp_step))
  refine codeAny_mono (codeAny_call_builtin ft.plain en (wpAny_of_eq c2 (g A.in1 _ s h))) fun res t hres => ?_
  cases res with
  | error e => exact hres
  | ok fl =>
    cases fl with
    | ret obj =>
      obtain ⟨tyO, hq⟩ := hres
      have y1 := ft.init.lookup
      have y2 := ft.init.bind obj
      repeat (any_goals (first | assumption | wp_step))
      refine codeAny_mono (codeAny_call_builtin ft.init.plain F.entry_object_init (ft.init.check _ _ _ _ _ _ _ _ tyO (ok obj)
        (object_init_meets ft.init.lookup ft.made ne prog w A.in1 (wants (fun r t2 => r = .none ∧ Q obj t2) E) t ⟨tyO, rfl, hq⟩))) fun res2 t2 hres2 => ?_
      cases res2 with
      | error e => exact hres2
      | ok fl2 =>
        cases fl2 with
        | ret r =>
          obtain ⟨rfl, hq2⟩ := hres2
          repeat (any_goals (first | assumption | wp_step))
        | _ => exact hres2.elim
    | _ => exact hres.elim
theorem qBoolIn {prog : Program} {w : World} {x : Value} :
    MeetsIn prog w (Builtin.«bool.__new__» ⟨[.type "bool", x], []⟩) (fun A R s => wpAny (model prog w) A.in1 (truthy x) (fun b t => R (.ok (.ret (.bool b))) t) (fun e t => R (.error e) t) s) :=
  MeetsIn.of_wp fun A R s hs => by
    obtain ⟨hp, g, d, tk, os⟩ := s
    have sb := F.conv_sub_bool
    repeat (any_goals (first | assumption | (refine wpAny_bind (wpAny_mono hs (fun b t hb => ?_) fun _ _ z => z)) | wp_step))
    all_goals first | exact ⟨_, rfl, hb⟩ | skip
end PySem
namespace Q
open PySem PySem.Spec L2
/-- what a caller of a method needs: n values by position behind self, the keywords ks; the rest by the defaults -/
structure MKCal (P : Program) (w : World) (K : PySem.W.Frag) (mg : Str → Option Value) (base : Heap) (C : Addr) (m : Str) (k n : Nat) (ks : List Str) (gV : List V → List V → List V) (sp : Sp) : Prop where
  ex : ∃ (f : Addr) (fd : FuncData) (ps : List Str) (g : List Value → List Value → List Value), Meth K C m f ∧ FnOk P w K mg base CX0 k f fd ps sp ∧ KBn K fd ps (n + 1) ks g gV
/-- what a caller of a class needs -/
structure MkK (P : Program) (w : World) (K : PySem.W.Frag) (mg : Str → Option Value) (base : Heap) (C : Addr) (k n : Nat) (ks : List Str) (gV : List V → List V → List V) (sp : Sp) : Prop where
  ex : ∃ (f : Addr) (fd : FuncData) (ps : List Str) (g : List Value → List Value → List Value), Mk K C f ∧ FnOk P w K mg base CX0 k f fd ps sp ∧ KBn K fd ps (n + 1) ks g gV
/-- a property -/
structure PropC (P : Program) (w : World) (K : PySem.W.Frag) (mg : Str → Option Value) (base : Heap) (C : Addr) (x : Str) (k : Nat) (sp : Sp) : Prop where
  ex : ∃ (p g : Addr) (fd : FuncData), PropOf K C x p g ∧ FnOk P w K mg base CX0 k g fd ["self"] sp ∧ Binds K fd ["self"] []
def tMethN (C : Addr) (m : Str) (n j : Nat) (sp : Sp) (gV : List V → List V → List V) (E : XK) (to : TE) (t tk : TA) : TE := fun σ H Q => to σ H fun x H1 => ∃ a dx fs, x = .ref a ∧ H1 a = some (.ins C dx fs) ∧ fs.lookup m = none ∧
  t σ H1 fun vs H2 => tk σ H2 fun zs H3 => vs.length = n ∧ zs.length = j ∧ sp (gV (.ref a :: vs) zs) H3 Q E
section
variable {X : Cx} {C : Addr} {m x : Str} {k n : Nat} {ks ps : List Str} {gV : List V → List V → List V} {sp : Sp} {o e : Expr} {es : List Expr} {kws : List Keyword} {to : TE} {t tk : TA} {p pos apos : Pos}
theorem pe_mkcal {pl : Sem Bool} (he : PE X o to) (c : Cls X.K C) (M : MKCal X.prog X.w X.K X.mg X.base C m k n ks gV sp) (hr : Room k X.A) (ha : PA X (e :: es) t) (hkw : PK X kws tk)
    (some_ : (backToKw pos (keywordEach kws X.env)).all (·.1.isSome) = true := by rfl) (names : (backToKw pos (keywordEach kws X.env)).filterMap (·.1) = ks := by rfl)
    (st : starEach (e :: es) X.env = (false, eval e X.env) :: starEach es X.env := by rfl)
    (nost : ((backTo pos (starEach (e :: es) X.env)).any (·.1) || (backToKw pos (keywordEach kws X.env)).any (·.1.isNone)) = false := by rfl)
    (shape : eval (.Call (.Attribute o m apos) (e :: es) kws pos) X.env = (do
      let self_ ← eval o X.env
      standAt apos.atName
      let (fn, first) ← holding [self_] (getMethod self_ m pl)
      callWith pos fn first (backTo pos (starEach (e :: es) X.env)) (backToKw pos (keywordEach kws X.env))) := by rfl) :
    PE X (.Call (.Attribute o m apos) (e :: es) kws pos) (tMethN C m n ks.length sp gV E0 to t tk) := by
  obtain ⟨f, fd, ps, g, hm, F, hb⟩ := M.ex
  refine ⟨fun pins s σ H Q I h => ?_⟩
  refine PySem.W.methodCall_KW (pl := pl) (thn (he.run pins s σ H _ I h) fun u s1 ⟨y, H1, I1, ry, a, dx, fs, ey, ea, l, q⟩ => ?_) shape
  subst ey
  obtain rfl : u = Value.ref a := ry
  refine getmeth_ok I1 ea c hm l ?_
  refine PySem.W.callWith_KW (first := [.ref a]) (h₀ := X.base) I.ok.mod.kin hm.kp some_ (thn (ha.run pos pins s1 σ H1 _ I1 q) fun us s2 ⟨vs, H2, I2, r, q2⟩ => ?_) nost st
  refine thn (hkw.run pos pins s2 σ H2 _ I2 q2) fun ws s3 ⟨zs, H3, I3, rz, l1, l2, q3⟩ => ⟨I3.kIn, ?_⟩
  rw [names]
  exact run_fnN (us := .ref a :: us) (vs := .ref a :: vs) F hr hb pass0 I3 (.cons rfl r) rz (by rw [List.length_cons, l1]) l2 q3
theorem pe_mkcal0 {pl : Sem Bool} (he : PE X o to) (c : Cls X.K C) (M : MKCal X.prog X.w X.K X.mg X.base C m k 0 ks gV sp) (hr : Room k X.A) (hkw : PK X kws tk)
    (some_ : (backToKw pos (keywordEach kws X.env)).all (·.1.isSome) = true := by rfl) (names : (backToKw pos (keywordEach kws X.env)).filterMap (·.1) = ks := by rfl)
    (nost : ((backTo pos (starEach [] X.env)).any (·.1) || (backToKw pos (keywordEach kws X.env)).any (·.1.isNone)) = false := by rfl)
    (shape : eval (.Call (.Attribute o m apos) [] kws pos) X.env = (do
      let self_ ← eval o X.env
      standAt apos.atName
      let (fn, first) ← holding [self_] (getMethod self_ m pl)
      callWith pos fn first (backTo pos (starEach [] X.env)) (backToKw pos (keywordEach kws X.env))) := by rfl) :
    PE X (.Call (.Attribute o m apos) [] kws pos) (tMethN C m 0 ks.length sp gV E0 to tNil tk) := by
  obtain ⟨f, fd, ps, g, hm, F, hb⟩ := M.ex
  refine ⟨fun pins s σ H Q I h => ?_⟩
  refine PySem.W.methodCall_KW (pl := pl) (thn (he.run pins s σ H _ I h) fun u s1 ⟨y, H1, I1, ry, a, dx, fs, ey, ea, l, q⟩ => ?_) shape
  subst ey
  obtain rfl : u = Value.ref a := ry
  refine getmeth_ok I1 ea c hm l ?_
  refine PySem.W.callWith_KW0 (first := [.ref a]) (h₀ := X.base) I.ok.mod.kin hm.kp some_ ?_ nost
  refine thn (hkw.run pos pins s1 σ H1 _ I1 q) fun ws s3 ⟨zs, H3, I3, rz, l1, l2, q3⟩ => ⟨I3.kIn, ?_⟩
  rw [names]
  exact run_fnN (us := [.ref a]) (vs := [.ref a]) F hr hb pass0 I3 (.cons rfl .nil) rz rfl l2 q3
theorem pe_mkk (hm : X.mg x = some (.ref C)) (M : MkK X.prog X.w X.K X.mg X.base C k n ks gV sp) (hr : Room (k + 1) X.A) (hg : Gl X x) (ha : PA X (e :: es) t) (hkw : PK X kws tk)
    (some_ : (backToKw pos (keywordEach kws X.env)).all (·.1.isSome) = true := by rfl) (names : (backToKw pos (keywordEach kws X.env)).filterMap (·.1) = ks := by rfl)
    (dbg : (x == ("__debug__" : Str)) = false := by decide) (st : starEach (e :: es) X.env = (false, eval e X.env) :: starEach es X.env := by rfl)
    (nost : ((backTo pos (starEach (e :: es) X.env)).any (·.1) || (backToKw pos (keywordEach kws X.env)).any (·.1.isNone)) = false := by rfl) :
    PE X (.Call (.Name x p) (e :: es) kws pos) (tMakeK C n ks.length sp gV E0 t tk) := by
  obtain ⟨f, fd, ps, g, hmk, F, hb⟩ := M.ex
  exact pe_makeK hmk F hr hg hm hb pass0 ha hkw some_ names dbg st nost
theorem pe_mkk0 (hm : X.mg x = some (.ref C)) (M : MkK X.prog X.w X.K X.mg X.base C k 0 ks gV sp) (hr : Room (k + 1) X.A) (hg : Gl X x) (hkw : PK X kws tk)
    (some_ : (backToKw pos (keywordEach kws X.env)).all (·.1.isSome) = true := by rfl) (names : (backToKw pos (keywordEach kws X.env)).filterMap (·.1) = ks := by rfl)
    (dbg : (x == ("__debug__" : Str)) = false := by decide)
    (nost : ((backTo pos (starEach [] X.env)).any (·.1) || (backToKw pos (keywordEach kws X.env)).any (·.1.isNone)) = false := by rfl) :
    PE X (.Call (.Name x p) [] kws pos) (tMakeK C 0 ks.length sp gV E0 tNil tk) := by
  obtain ⟨f, fd, ps, g, hmk, F, hb⟩ := M.ex
  exact pe_makeK0 hmk F hr hg hm hb pass0 hkw some_ names dbg nost
theorem pe_propc (he : PE X o to) (c : Cls X.K C) (M : PropC X.prog X.w X.K X.mg X.base C x k sp) (hr : Room (k + 1) X.A) (hab : attributeBase o x X.env (eval o X.env) = eval o X.env) :
    PE X (.Attribute o x pos) (tProp C sp [] E0 to) := by
  obtain ⟨pa, g, fd, hp, F, hb⟩ := M.ex
  exact pe_prop he c hp F hr hb .nil pass0 hab
end
/-! own len, repr, bool -/
section
variable {X : Cx} {C : Addr} {k : Nat} {ps : List Str} {sp : Sp}
/-- a def called with one object, in the room of a built-in that asks it -/
theorem run_own {pins : List (Addr × Obj)} {σ : L2.St} {H : Hp} {s : Shared} {A : Around} {m : Str} {a : Addr} {Q : VK} {f : Addr} {fd : FuncData} (F : FnOk X.prog X.w X.K X.mg X.base CX0 k f fd ps sp) (hb : Binds X.K fd ps []) (hr : Room k A) (fr : A.frames = X.A.frames)
    (I : Inv X pins σ H s) (h : sp [.ref a] H Q E0) : wpAny (model X.prog X.w) A (call (.ref f) [.ref a]) (EP X pins σ Q) X.xe s := by
  have e0 : Env0 X.prog X.w X.K X.mg X.base A X.stack s H := by
    have e := I.env0
    exact ⟨by rw [fr]; exact e.frames, e.mod, e.bs, e.bsz, e.funs, e.frf, e.hok, e.bare⟩
  have hl := F.len _ _ _ _ h
  have bt : BindsTo s fd ⟨[.ref a], []⟩ (ps.zip [.ref a]) := by
    have z := hb s [.ref a] I.kIn (by simpa using hl)
    simpa using z
  refine wpAny_call (codeAny_mono (F.run A X.stack s H ⟨[.ref a], []⟩ [.ref a] [.ref a] Q E0 hr e0 bt (.cons rfl .nil) h) fun res t hres => ?_)
  cases res with
  | error e => exact pass0 pins σ H s e t I hres
  | ok fl =>
    cases fl with
    | ret u =>
      obtain ⟨z, H', I', rz, ez⟩ := I.after hres
      exact ⟨z, H', I', rz, ez⟩
    | next => exact False.elim hres
    | brk => exact False.elim hres
    | cont => exact False.elim hres
def rOwnLen (C : Addr) (sp : Sp) : List V → Hp → VK → Prop := fun xs H Q => ∃ a dx fs, xs = [.ref a] ∧ H a = some (.ins C dx fs) ∧ sp [.ref a] H (fun v H' => ∃ n : Int, v = .int n ∧ 0 ≤ n ∧ n < 2 ^ 63 ∧ Q (.int n) H') E0
theorem call_ownLen (M : MCal X.prog X.w X.K X.mg X.base C "__len__" k ps sp) (hr : Room (k + 1) X.A) : CallR X (.builtin "len") (rOwnLen C sp) := by
  intro pins s σ H xs us Q I r h
  obtain ⟨a, dx, fs, rfl, ha, hs⟩ := h
  obtain rfl := Vals.ref1 r
  obtain ⟨f, fd, hm, F, hb⟩ := M.ex
  obtain ⟨_, J, _⟩ := ins_get I.hok ha
  obtain ⟨od, J, _⟩ := J.look
  obtain ⟨mm, hF⟩ := I.fr
  refine PySem.W.len_K hF I.ok.mod.kin J hm.at_ hm.fn (thn (run_own (m := "__len__") F hb hr.in1 rfl I hs) fun u t ⟨z, H', I', rz, n, ez, n0, n1, q⟩ => ?_)
  subst ez
  obtain ⟨tk, rfl⟩ := rz
  exact ⟨⟨n0, n1⟩, .int n, H', I'.tok _, ⟨_, rfl⟩, q⟩
def rOwnRepr (C : Addr) (sp : Sp) : List V → Hp → VK → Prop := fun xs H Q => ∃ a dx fs, xs = [.ref a] ∧ H a = some (.ins C dx fs) ∧ sp [.ref a] H (fun v H' => ∃ z : Str, v = .str z ∧ Q (.str z) H') E0
theorem call_ownRepr (M : MCal X.prog X.w X.K X.mg X.base C "__repr__" k ps sp) (hr : Room (k + 1) X.A) : CallR X (.builtin "repr") (rOwnRepr C sp) := by
  intro pins s σ H xs us Q I r h
  obtain ⟨a, dx, fs, rfl, ha, hs⟩ := h
  obtain rfl := Vals.ref1 r
  obtain ⟨f, fd, hm, F, hb⟩ := M.ex
  obtain ⟨_, J, _⟩ := ins_get I.hok ha
  obtain ⟨od, J, _⟩ := J.look
  obtain ⟨mm, hF⟩ := I.fr
  refine PySem.W.repr_K hr.in1.units0 hF I.ok.mod.kin J hm.at_ hm.fn (thn (run_own (m := "__repr__") F hb hr.in1 rfl I hs) fun u t ⟨z, H', I', rz, x, ez, q⟩ => ?_)
  subst ez
  obtain ⟨tk, rfl⟩ := rz
  exact ⟨.str x, H', I', ⟨_, rfl⟩, q⟩
def rOwnBool (C : Addr) (sp : Sp) : List V → Hp → VK → Prop := fun xs H Q => ∃ a dx fs, xs = [.ref a] ∧ H a = some (.ins C dx fs) ∧ sp [.ref a] H (fun v H' => ∃ b : Bool, v = .bl b ∧ Q (.bl b) H') E0
theorem call_ownBool (M : MCal X.prog X.w X.K X.mg X.base C "__bool__" k ps sp) (hr : Room (k + 2) X.A) : CallR X (.type "bool") (rOwnBool C sp) := by
  intro pins s σ H xs us Q I r h
  obtain ⟨a, dx, fs, rfl, ha, hs⟩ := h
  obtain rfl := Vals.ref1 r
  obtain ⟨f, fd, hm, F, hb⟩ := M.ex
  obtain ⟨_, J, _⟩ := ins_get I.hok ha
  obtain ⟨od, J, _⟩ := J.look
  obtain ⟨mm, hF⟩ := I.fr
  refine qTypeIn PySem.F.called_bool PySem.F.newNe_bool (PySem.F.typeCall_bool_1 _) (PySem.F.newCall_bool_1 _) (fun obj => PySem.F.args_object_init_2 obj _) PySem.F.entry_bool_new qBoolIn ?_
  refine PySem.W.truthy_K hF I.ok.mod.kin J hm.at_ hm.fn (thn (run_own (m := "__bool__") F hb hr.in1.in1 rfl I hs) fun u t ⟨z, H', I', rz, b, ez, q⟩ => ?_)
  subst ez
  obtain rfl := rz
  exact ⟨typeIs_bool _ _, .bl b, H', I', rfl, q⟩
end
/-! the head's facts about properties -/
def prpP (K : PySem.W.Frag) (c x : Str) : Addr := match PySem.W.findIn K (.ref (He.ga K c)) x with
  | some (some (.ref p)) => p
  | _ => 0
def prpG (K : PySem.W.Frag) (c x : Str) : Addr := match PySem.W.recIn K (prpP K c x) "property" with
  | some (.ref g :: _) => g
  | _ => 0
structure PrpD where
  cls : Str
  attr : Str
  name : Str
  qual : Str
  params : Arguments
  body : List Stmt
  scope : Scope
def PrpD.ok (K : PySem.W.Frag) (d : PrpD) : Bool := He.eqO (PySem.W.findIn K (.ref (He.ga K d.cls)) d.attr) (some (some (.ref (prpP K d.cls d.attr)))) &&
  (He.eqO (PySem.W.specialIn K (.ref (prpP K d.cls d.attr)) "__get__") (some (some (.builtin "property.__get__"))) && (decide (PySem.W.takesIn K (.ref (prpP K d.cls d.attr)) = some true) &&
  (decide ((PySem.W.recIn K (prpP K d.cls d.attr) "property").map (·.head?) = some (some (.ref (prpG K d.cls d.attr)))) && (PySem.W.keepIn K (.ref (prpG K d.cls d.attr)) &&
  (match K.lookup (prpG K d.cls d.attr) with
    | some ⟨_, _, .func q, _⟩ => PySem.W.codeIn K q.code d.qual && (He.dflB K q.defaults [] && He.kwdB K q.kwdefaults [])
    | _ => false)))))
def PrpD.w (K : PySem.W.Frag) (d : PrpD) : He.FnW := match K.lookup (prpG K d.cls d.attr) with
  | some ⟨_, _, .func q, _⟩ => some (q.name, q.qualname, q.params, q.body, q.scope, q.globals, q.closure, q.builtins)
  | _ => none
def PrpD.val (d : PrpD) : He.FnW := some (d.name, d.qual, d.params, .stmts d.body, d.scope, mainGlobals, [], builtinsNs)
theorem PrpD.use {K : PySem.W.Frag} {d : PrpD} (e : d.w K = d.val) (c : d.ok K = true) : PropOf K (He.ga K d.cls) d.attr (prpP K d.cls d.attr) (prpG K d.cls d.attr) ∧ ∃ fd, FunD K d.name d.qual d.params d.body d.scope [] [] (prpG K d.cls d.attr) fd := by
  obtain ⟨c1, c⟩ := He.ba c
  obtain ⟨c2, c⟩ := He.ba c
  obtain ⟨c3, c⟩ := He.ba c
  obtain ⟨c4, c⟩ := He.ba c
  obtain ⟨c5, c6⟩ := He.ba c
  have r1 : ∃ rest, PySem.W.recIn K (prpP K d.cls d.attr) "property" = some (.ref (prpG K d.cls d.attr) :: rest) := by
    have z := of_decide_eq_true c4
    cases q : PySem.W.recIn K (prpP K d.cls d.attr) "property" with
    | none => rw [q] at z; cases z
    | some vs =>
      rw [q] at z
      cases vs with
      | nil => cases z
      | cons v r =>
        have z2 : some (some v) = some (some (Value.ref (prpG K d.cls d.attr))) := z
        injection z2 with z2
        injection z2 with z2
        exact ⟨r, by rw [z2]⟩
  refine ⟨⟨He.eqO_ok c1, He.eqO_ok c2, of_decide_eq_true c3, r1⟩, ?_⟩
  unfold PrpD.w at e
  cases q : K.lookup (prpG K d.cls d.attr) with
  | none => rw [q] at c6; cases c6
  | some ob =>
    obtain ⟨o1, o2, dat, o3⟩ := ob
    rw [q] at c6 e
    cases dat with
    | func fq =>
      obtain ⟨a1, a2, a3, a4, a5, a6, a7, a8, a9, b1, b2, b3, b4, b5, b6⟩ := fq
      have e2 : (some (a1, a2, a3, a4, a5, a6, a7, b6) : He.FnW) = some (d.name, d.qual, d.params, .stmts d.body, d.scope, mainGlobals, [], builtinsNs) := e
      simp only [Option.some.injEq, Prod.mk.injEq] at e2
      obtain ⟨rfl, rfl, rfl, rfl, rfl, rfl, rfl, rfl⟩ := e2
      have k0 : (PySem.W.codeIn K b4 d.qual && (He.dflB K a8 [] && He.kwdB K a9 [])) = true := c6
      obtain ⟨k1, k2⟩ := He.ba k0
      obtain ⟨k3, k4⟩ := He.ba k2
      exact ⟨_, ⟨o1, o2, a8, a9, b1, b2, b3, b4, b5, o3, rfl, q, k1, He.dflB_ok k3, He.kwdB_ok k4⟩, c5⟩
    | _ => cases c6
abbrev AlP : Type := He.AlD × (Bool × List He.FnW)
def obsP (fa : List He.Fa) (fn : List He.DefD) (pr : List PrpD) (K : PySem.W.Frag) : AlP := (He.obsD fa fn K, (pr.all fun d => d.ok K, pr.map fun d => d.w K))
def valP (fn : List He.DefD) (pr : List PrpD) : AlP := (He.valD fn, (true, pr.map PrpD.val))
structure SaysP (fa : List He.Fa) (fn : List He.DefD) (pr : List PrpD) (K : PySem.W.Frag) : Prop where
  eq : obsP fa fn pr K = valP fn pr
def obsPG (n : Nat) (fa : List He.Fa) (fn : List He.DefD) (pr : List PrpD) (g : Addr → Option Obj) : AlP := obsP fa fn pr (He.frG g (He.asD g n))
def hookP (n : Nat) (fa : List He.Fa) (fn : List He.DefD) (pr : List PrpD) : PySem.W.Hook where
  α := AlP
  obs := fun s => obsPG n fa fn pr s.heap.get?
  val := fun _ => valP fn pr
  says := fun _ h => ∃ K : PySem.W.Frag, K.In h ∧ SaysP fa fn pr K
  of := fun _ _ e => ⟨_, He.frG_in, ⟨e⟩⟩
  keeps := fun _ _ _ ⟨K, inK, c⟩ kp => ⟨K, PySem.W.Frag.In.keeps inK kp, c⟩
theorem obsPG_eq {n : Nat} {fa : List He.Fa} {fn : List He.DefD} {pr : List PrpD} {g : Addr → Option Obj} {s : Shared} (h : ∀ a, g a = s.heap.get? a) : obsPG n fa fn pr g = (hookP n fa fn pr).obs s := by
  obtain rfl : g = s.heap.get? := funext h
  rfl
section
variable {fa : List He.Fa} {fn : List He.DefD} {pr : List PrpD} {K : PySem.W.Frag}
theorem SaysP.d (c : SaysP fa fn pr K) : He.SaysD fa fn K := congrArg (fun z : AlP => z.1) c.eq
theorem SaysP.prp (c : SaysP fa fn pr K) (i : Nat) {d : PrpD} (h : pr[i]? = some d := by rfl) : PropOf K (He.ga K d.cls) d.attr (prpP K d.cls d.attr) (prpG K d.cls d.attr) ∧ ∃ fd, FunD K d.name d.qual d.params d.body d.scope [] [] (prpG K d.cls d.attr) fd := by
  have z := congrArg (fun z : AlP => z.2) c.eq
  have z1 : (pr.all fun d => d.ok K) = true := congrArg (fun z : Bool × List He.FnW => z.1) z
  have z2 : pr.map (fun d => d.w K) = pr.map PrpD.val := congrArg (fun z : Bool × List He.FnW => z.2) z
  have z3 : (pr.map fun d => d.w K)[i]? = (pr.map PrpD.val)[i]? := by rw [z2]
  rw [List.getElem?_map, List.getElem?_map, h] at z3
  exact PrpD.use (Option.some.inj z3) (List.all_eq_true.mp z1 d (List.mem_of_getElem? h))
end
section
variable {K : PySem.W.Frag} {x qual : Str} {params : Arguments} {body : List Stmt} {scope : Scope} {dvs : List V} {f : Addr} {fd : FuncData} {ps : List Str}
theorem mkbD (F : FunD K x qual params body scope dvs [] f fd) (n : Nat) (ks : List Str) (ix : List (Nat × Nat)) (hd : dvs ≠ [])
    (h : ∀ (T : Addr) (kV doc pm : Value) (an : Option Addr) (cdv ct : Value) (us its ws : List Value), us.length = n → its.length = dvs.length → ws.length = ks.length →
      ∃ k, bindArgs (PySem.W.fnOf x qual params body scope (.ref T) kV doc pm an cdv ct) ⟨us, ks.zip ws⟩ = seqItems? (.ref T) >>= k ∧ k (some its.toArray) = pure (ps.zip (pick ix us its ws))) :
    ∃ g, KBn K fd ps n ks g (fun vs zs => pick ix vs dvs zs) := by
  obtain ⟨its, kb⟩ := F.kbindsD n ks (fun us its ws => pick ix us its ws) hd (fun r1 r2 r3 => vals_pick ix r1 r2 r3) h
  exact ⟨_, kb⟩
end
theorem mkcal_mk {P : Program} {w : World} {K : PySem.W.Frag} {mg : Str → Option Value} {base : Heap} {C : Addr} {m : Str} {x q : Str} {pa : Arguments} {bd : List Stmt} {sc : Scope} {dv : List V} {kw : List (Str × V)} {k n : Nat} {ks ps : List Str} {gV : List V → List V → List V} {sp : Sp} {f : Addr}
    (me : Meth K C m f) (h : ∃ (fd : FuncData), FunD K x q pa bd sc dv kw f fd)
    (ok : ∀ {f : Addr} {fd : FuncData}, FunD K x q pa bd sc dv kw f fd → FnOk P w K mg base CX0 k f fd ps sp)
    (b : ∀ {f : Addr} {fd : FuncData}, FunD K x q pa bd sc dv kw f fd → ∃ g, KBn K fd ps (n + 1) ks g gV) : MKCal P w K mg base C m k n ks gV sp := by
  obtain ⟨fd, F⟩ := h
  obtain ⟨g, kb⟩ := b F
  exact ⟨f, fd, ps, g, me, ok F, kb⟩
theorem mkk_mk {P : Program} {w : World} {K : PySem.W.Frag} {mg : Str → Option Value} {base : Heap} {C : Addr} {x q : Str} {pa : Arguments} {bd : List Stmt} {sc : Scope} {dv : List V} {kw : List (Str × V)} {k n : Nat} {ks ps : List Str} {gV : List V → List V → List V} {sp : Sp} {f : Addr}
    (mk : Mk K C f) (h : ∃ (fd : FuncData), FunD K x q pa bd sc dv kw f fd)
    (ok : ∀ {f : Addr} {fd : FuncData}, FunD K x q pa bd sc dv kw f fd → FnOk P w K mg base CX0 k f fd ps sp)
    (b : ∀ {f : Addr} {fd : FuncData}, FunD K x q pa bd sc dv kw f fd → ∃ g, KBn K fd ps (n + 1) ks g gV) : MkK P w K mg base C k n ks gV sp := by
  obtain ⟨fd, F⟩ := h
  obtain ⟨g, kb⟩ := b F
  exact ⟨f, fd, ps, g, mk, ok F, kb⟩
theorem propc_mk {P : Program} {w : World} {K : PySem.W.Frag} {mg : Str → Option Value} {base : Heap} {C : Addr} {m : Str} {x q : Str} {pa : Arguments} {bd : List Stmt} {sc : Scope} {k : Nat} {sp : Sp}
    (h : ∃ (p g : Addr) (fd : FuncData), PropOf K C m p g ∧ FunD K x q pa bd sc [] [] g fd)
    (ok : ∀ {f : Addr} {fd : FuncData}, FunD K x q pa bd sc [] [] f fd → FnOk P w K mg base CX0 k f fd ["self"] sp)
    (b : ∀ {f : Addr} {fd : FuncData}, FunD K x q pa bd sc [] [] f fd → Binds K fd ["self"] []) : PropC P w K mg base C m k sp := by
  obtain ⟨p, g, fd, hp, F⟩ := h
  exact ⟨p, g, fd, hp, ok F, b F⟩
theorem k_pgl {X : Cx} {K : PySem.W.Frag} {es : List Expr} {k : Nat} {t : TGs} {n : Nat} {pos : Pos} (ek : X.K = K) (hc : X.calm = true) (h : PGs X es t)
    (many : (assignEach es X.env).length = n) (nostar : (assignEach es X.env).findIdx? (·.1) = none) : PG X (.Tuple es k pos) (gLst K n t) := by subst ek; exact pg_lst hc h many nostar
def qIntB : List V → Hp → VK → Prop := fun xs H Q => ∃ b, xs = [.bl b] ∧ Q (.int (if b then 1 else 0)) H
theorem c_intB {X : Cx} : CallR X (.type "int") qIntB := fun pins s σ H xs us Q I r h => call_int1 pins s σ H xs us Q I r (.inr h)
theorem g_intB {p : Prop} [Decidable p] {H : Hp} {Q : VK} (h : Q (.int (if p then 1 else 0)) H) : qIntB [.bl (decide p)] H Q := ⟨decide p, rfl, by
  by_cases c : p
  · rw [if_pos c] at h; rw [if_pos (decide_eq_true c)]; exact h
  · rw [if_neg c] at h; rw [if_neg (by simp [c])]; exact h⟩
theorem k_join {X : Cx} {K : PySem.W.Frag} {o e : Expr} {to te : TE} {apos pos : Pos} (ek : X.K = K) (ho : PE X o to) (he : PE X e te) (hs : starEach [e] X.env = [(false, eval e X.env)] := by rfl) (hb : attributeBase o "join" X.env (eval o X.env) = eval o X.env := by rfl) (hl : (apos.endLine == pos.line) = true := by rfl) :
    PE X (.Call (.Attribute o "join" apos) [e] [] pos) (tM1 (fun x xs H Q => ∃ a p, ∃ ys : List Str, x = .str a ∧ xs = [.ref p] ∧ (SqL K H p (ys.map V.str) ∨ SqT K H p (ys.map V.str)) ∧
      (ys.map (·.length)).sum + ys.length * a.length ≤ 16777216 ∧ Q (.str (Txt.join a ys)) H) to te) := by subst ek; exact pe_join ho he hs hb hl
end Q

set_option Elab.async false
set_option linter.all false
set_option maxRecDepth 100000
set_option maxHeartbeats 4000000
namespace Q
open PySem PySem.Builtin.Str PySem.StrLaws
abbrev sOf (cs : List Nat) : Str := ⟨cs.toArray⟩
theorem sOf_len (cs : List Nat) : (sOf cs).length = cs.length := by simp [sOf, Str.length]
theorem sOf_app (a b : List Nat) : sOf a ++ sOf b = sOf (a ++ b) := by
  show (⟨a.toArray ++ b.toArray⟩ : Str) = ⟨(a ++ b).toArray⟩
  rw [List.append_toArray]
theorem sOf_cps (x : Str) : sOf x.cps.toList = x := by cases x; simp [sOf]
theorem sOf_inj {a b : List Nat} (h : sOf a = sOf b) : a = b := by
  have := congrArg (fun s : Str => s.cps.toList) h
  simpa using this
/-- the pieces between the line feeds -/
def spl : List Nat → List (List Nat)
  | [] => [[]]
  | x :: t => if x = 10 then [] :: spl t else match spl t with
    | p :: ps => (x :: p) :: ps
    | [] => [[x]]
theorem spl_ne : ∀ t, spl t ≠ []
  | [] => by simp [spl]
  | x :: t => by
    unfold spl
    split
    · simp
    · split <;> simp
theorem spl_nl (t : List Nat) : spl (10 :: t) = [] :: spl t := by rw [spl, if_pos rfl]
theorem spl_cons {x : Nat} {t p : List Nat} {ps : List (List Nat)} (h : x ≠ 10) (e : spl t = p :: ps) : spl (x :: t) = (x :: p) :: ps := by rw [spl, if_neg h, e]
theorem spl_some (t : List Nat) : ∃ p ps, spl t = p :: ps := by
  cases e : spl t with
  | nil => exact absurd e (spl_ne t)
  | cons p ps => exact ⟨p, ps, rfl⟩
/-- the places of the line feeds -/
def posN : List Nat → Nat → List Nat
  | [], _ => []
  | x :: t, i => if x = 10 then i :: posN t (i + 1) else posN t (i + 1)
theorem occ_pos (a : List Nat) : ∀ (t pre : List Nat) (acc : Array Nat) (free : Nat), a = pre ++ t → free ≤ pre.length → acc.size ≤ pre.length →
    (forIn (List.range' pre.length (t.length + 1)) (acc, free) (occBody (sOf a) ⟨#[10]⟩ a.length (a.length + 1))).run.fst.toList = acc.toList ++ posN t pre.length
  | [], pre, acc, free, e, hf, hs => by
    have no : ¬ (((acc.size < a.length + 1 ∧ free ≤ pre.length) ∧ pre.length + (⟨#[10]⟩ : Str).length ≤ a.length) ∧ subAt (sOf a) ⟨#[10]⟩ pre.length = true) := fun z => by
      have z2 : pre.length + 1 ≤ a.length := z.1.2
      rw [e, List.append_nil] at z2
      omega
    show (Id.run (forIn [pre.length] (acc, free) _)).fst.toList = _
    rw [List.forIn_cons]
    unfold occBody
    rw [if_neg no]
    simp [posN]
  | x :: t, pre, acc, free, e, hf, hs => by
    have hl : a.length = pre.length + (t.length + 1) := by rw [e]; simp
    have ex : a[pre.length]? = some x := by rw [e]; simp
    show (Id.run (forIn (pre.length :: List.range' (pre.length + 1) (t.length + 1)) (acc, free) _)).fst.toList = _
    rw [List.forIn_cons]
    have hl2 : (sOf a).length = a.length := sOf_len a
    by_cases hx : x = 10
    · subst hx
      have sub := (subAt_one (sOf a) 10 pre.length).mpr (by simpa using ex)
      rw [hl2] at sub
      have yes : ((acc.size < a.length + 1 ∧ free ≤ pre.length) ∧ pre.length + (⟨#[10]⟩ : Str).length ≤ a.length) ∧ subAt (sOf a) ⟨#[10]⟩ pre.length = true := ⟨⟨⟨by omega, hf⟩, sub.1⟩, sub.2⟩
      have step : occBody (sOf a) ⟨#[10]⟩ a.length (a.length + 1) pre.length (acc, free) = pure (ForInStep.yield (acc.push pre.length, pre.length + 1)) := by
        unfold occBody
        rw [if_pos yes]
        rfl
      rw [step]
      have ih := occ_pos a t (pre ++ [10]) (acc.push pre.length) (pre.length + 1) (by rw [e]; simp) (by simp) (by simp; omega)
      have el : List.length (pre ++ [10]) = pre.length + 1 := by simp
      rw [el] at ih
      rw [show posN (10 :: t) pre.length = pre.length :: posN t (pre.length + 1) by rw [posN, if_pos rfl]]
      show (Id.run (forIn (List.range' (pre.length + 1) (t.length + 1)) (acc.push pre.length, pre.length + 1) _)).fst.toList = _
      rw [ih]
      simp
    · have no : ¬ (((acc.size < a.length + 1 ∧ free ≤ pre.length) ∧ pre.length + (⟨#[10]⟩ : Str).length ≤ a.length) ∧ subAt (sOf a) ⟨#[10]⟩ pre.length = true) := fun z => by
        have z2 := (subAt_one (sOf a) 10 pre.length).mp ⟨by rw [hl2]; exact z.1.2, z.2⟩
        have z3 : a[pre.length]? = some 10 := by simpa using z2
        rw [ex] at z3
        exact hx (Option.some.inj z3)
      have step : occBody (sOf a) ⟨#[10]⟩ a.length (a.length + 1) pre.length (acc, free) = pure (ForInStep.yield (acc, free)) := by
        unfold occBody
        rw [if_neg no]
      rw [step]
      have ih := occ_pos a t (pre ++ [x]) acc free (by rw [e]; simp) (by simp; omega) (by simp; omega)
      have el : List.length (pre ++ [x]) = pre.length + 1 := by simp
      rw [el] at ih
      rw [show posN (x :: t) pre.length = posN t (pre.length + 1) by rw [posN, if_neg hx]]
      exact ih
theorem occ_nl (a : List Nat) : occurrences (sOf a) ⟨#[10]⟩ 0 (sOf a).length ((sOf a).length + 1) = posN a 0 := by
  rw [occ_eq, sOf_len]
  have z := occ_pos a a [] #[] 0 rfl (Nat.le_refl _) (Nat.le_refl _)
  rw [Nat.sub_zero]
  exact z.trans (by simp)
def seg (a : List Nat) (st i : Nat) : List Nat := (a.drop st).take (i - st)
theorem strSub_seg (a : List Nat) (i j : Nat) : strSub (sOf a) i j = sOf (seg a i j) := by
  unfold strSub sOf seg
  congr 1
  apply Array.ext'
  simp [Array.toList_extract, List.extract_eq_drop_take]
theorem parts_spl (a : List Nat) : ∀ (t pre : List Nat) (st : Nat), a = pre ++ t → st ≤ pre.length →
    ((st :: (posN t pre.length).map (· + 1)).zip (posN t pre.length ++ [a.length])).map (fun (i, j) => strSub (sOf a) i j) =
      (match spl t with
      | p :: ps => sOf (seg a st pre.length ++ p) :: ps.map sOf
      | [] => [])
  | [], pre, st, e, hst => by
    have e0 : a = pre := by rw [e, List.append_nil]
    subst e0
    simp [posN, spl, strSub_seg]
  | x :: t, pre, st, e, hst => by
    by_cases hx : x = 10
    · subst hx
      have ih := parts_spl a t (pre ++ [10]) (pre.length + 1) (by rw [e]; simp) (by simp)
      have el : List.length (pre ++ [10]) = pre.length + 1 := by simp
      rw [el] at ih
      rw [show posN (10 :: t) pre.length = pre.length :: posN t (pre.length + 1) by rw [posN, if_pos rfl], spl_nl]
      obtain ⟨p, ps, ep⟩ := spl_some t
      rw [ep] at ih ⊢
      have z : seg a (pre.length + 1) (pre.length + 1) = [] := by unfold seg; simp
      simp only [z, List.nil_append] at ih
      simp only [List.map_cons, List.cons_append, List.zip_cons_cons, List.append_nil]
      rw [ih, strSub_seg]
    · have ih := parts_spl a t (pre ++ [x]) st (by rw [e]; simp) (by simp; omega)
      have el : List.length (pre ++ [x]) = pre.length + 1 := by simp
      rw [el] at ih
      rw [show posN (x :: t) pre.length = posN t (pre.length + 1) by rw [posN, if_neg hx]]
      obtain ⟨p, ps, ep⟩ := spl_some t
      rw [spl_cons hx ep]
      rw [ep] at ih
      rw [ih]
      have z : seg a st (pre.length + 1) = seg a st pre.length ++ [x] := by
        unfold seg
        rw [show pre.length + 1 - st = (pre.length - st) + 1 by omega, List.take_add_one, List.getElem?_drop, show st + (pre.length - st) = pre.length by omega]
        have ex : a[pre.length]? = some x := by rw [e]; simp
        rw [ex]
        rfl
      simp only [z, List.append_assoc, List.singleton_append]
theorem kind_pos (x : Str) : 1 ≤ Builtin.Str.strKind x := by
  unfold Builtin.Str.strKind
  split
  · decide
  · split <;> decide
theorem split_nl (a : List Nat) : Txt.split (sOf a) ⟨#[10]⟩ = (spl a).map sOf := by
  unfold Txt.split
  rw [occ_nl]
  have k1 : decide (Builtin.Str.strKind (sOf a) < Builtin.Str.strKind ⟨#[10]⟩) = false := decide_eq_false (by
    have := kind_pos (sOf a)
    have e : Builtin.Str.strKind (⟨#[10]⟩ : Str) = 1 := by simp [Builtin.Str.strKind]
    omega)
  rw [k1, Bool.or_false]
  have full : partsBetween (sOf a) (posN a 0) (⟨#[10]⟩ : Str).length = (spl a).map sOf := by
    unfold partsBetween
    have z := parts_spl a a [] 0 rfl (Nat.le_refl _)
    rw [sOf_len]
    obtain ⟨p, ps, ep⟩ := spl_some a
    rw [ep] at z ⊢
    have s0 : seg a 0 0 = [] := by simp [seg]
    simp only [List.length_nil, s0, List.nil_append] at z
    exact z
  split
  · rename_i h
    have hl : (sOf a).length < 1 := of_decide_eq_true h
    rw [sOf_len] at hl
    have : a = [] := List.length_eq_zero_iff.mp (by omega)
    subst this
    rfl
  · split
    · rename_i h
      rw [List.isEmpty_iff] at h
      rw [← full, h]
      unfold partsBetween
      simp [strSub_seg, seg, sOf_len]
    · exact full
theorem glue_fold (xs : List (List Nat)) : ∀ acc : Array Nat, (xs.map sOf).foldl (fun acc p => acc ++ (sOf []).cps ++ p.cps) acc = acc ++ xs.flatten.toArray := by
  induction xs with
  | nil => intro acc; simp
  | cons x r ih =>
    intro acc
    rw [List.map_cons, List.foldl_cons, ih]
    apply Array.ext'
    simp
theorem join_e (xs : List (List Nat)) : Txt.join (sOf []) (xs.map sOf) = sOf xs.flatten := by
  unfold Txt.join glued
  cases xs with
  | nil => rfl
  | cons x r =>
    show (⟨(r.map sOf).foldl _ (sOf x).cps⟩ : Str) = _
    rw [glue_fold]
    show (⟨x.toArray ++ r.flatten.toArray⟩ : Str) = ⟨(x :: r).flatten.toArray⟩
    rw [List.append_toArray]
    rfl
/-! the last line feed -/
def kp : List Nat → Nat
  | [] => 0
  | x :: t => if 0 < kp t then kp t + 1 else if x = 10 then 1 else 0
theorem kp_le : ∀ t, kp t ≤ t.length
  | [] => Nat.le_refl _
  | x :: t => by
    have := kp_le t
    unfold kp
    split
    · simp; omega
    · split <;> simp
def lastBody (s sub : Str) (hi : Nat) (i : Nat) (st : Option Nat) : Id (ForInStep (Option Nat)) :=
  if i + sub.length ≤ hi ∧ subAt s sub i = true then pure (ForInStep.yield (some i)) else pure (ForInStep.yield st)
theorem last_eq (s sub : Str) (lo hi : Nat) : lastOccurrence s sub lo hi = (forIn (List.range' lo (hi + 1 - lo)) none (lastBody s sub hi)).run := by
  unfold lastOccurrence lastBody
  simp
theorem last_kp (a : List Nat) : ∀ (t pre : List Nat) (o : Option Nat), a = pre ++ t →
    (forIn (List.range' pre.length (t.length + 1)) o (lastBody (sOf a) ⟨#[10]⟩ a.length)).run = if 0 < kp t then some (pre.length + kp t - 1) else o
  | [], pre, o, e => by
    have no : ¬ (pre.length + (⟨#[10]⟩ : Str).length ≤ a.length ∧ subAt (sOf a) ⟨#[10]⟩ pre.length = true) := fun z => by
      have z2 : pre.length + 1 ≤ a.length := z.1
      rw [e, List.append_nil] at z2
      omega
    show Id.run (forIn [pre.length] o _) = _
    rw [List.forIn_cons]
    unfold lastBody
    rw [if_neg no]
    simp [kp]
  | x :: t, pre, o, e => by
    have ex : a[pre.length]? = some x := by rw [e]; simp
    have hl2 : (sOf a).length = a.length := sOf_len a
    show Id.run (forIn (pre.length :: List.range' (pre.length + 1) (t.length + 1)) o _) = _
    rw [List.forIn_cons]
    have step : lastBody (sOf a) ⟨#[10]⟩ a.length pre.length o = pure (ForInStep.yield (if x = 10 then some pre.length else o)) := by
      unfold lastBody
      by_cases hx : x = 10
      · subst hx
        have sub := (subAt_one (sOf a) 10 pre.length).mpr (by simpa using ex)
        rw [hl2] at sub
        rw [if_pos sub, if_pos rfl]
      · have no : ¬ (pre.length + (⟨#[10]⟩ : Str).length ≤ a.length ∧ subAt (sOf a) ⟨#[10]⟩ pre.length = true) := fun z => by
          have z2 := (subAt_one (sOf a) 10 pre.length).mp ⟨by rw [hl2]; exact z.1, z.2⟩
          have z3 : a[pre.length]? = some 10 := by simpa using z2
          rw [ex] at z3
          exact hx (Option.some.inj z3)
        rw [if_neg no, if_neg hx]
    rw [step]
    have ih := last_kp a t (pre ++ [x]) (if x = 10 then some pre.length else o) (by rw [e]; simp)
    have el : List.length (pre ++ [x]) = pre.length + 1 := by simp
    rw [el] at ih
    refine ih.trans ?_
    rw [kp]
    by_cases h1 : 0 < kp t
    · rw [if_pos h1, if_pos h1, if_pos (by omega)]
      congr 1
      omega
    · rw [if_neg h1, if_neg h1]
      by_cases hx : x = 10
      · rw [if_pos hx, if_pos hx, if_pos (by omega)]
        rfl
      · rw [if_neg hx, if_neg hx, if_neg (by omega)]
theorem rfind_nl (a : List Nat) : Txt.rfind (sOf a) ⟨#[10]⟩ = (kp a : Int) - 1 := by
  unfold Txt.rfind
  rw [last_eq, sOf_len, Nat.sub_zero]
  have z := last_kp a a [] none rfl
  rw [List.length_nil] at z
  rw [z]
  by_cases h : 0 < kp a
  · rw [if_pos h]
    show ((0 + kp a - 1 : Nat) : Int) = _
    omega
  · rw [if_neg h]
    show (-1 : Int) = _
    omega
/-- the whole lines -/
def whole (a : List Nat) : List (List Nat) := (spl a).dropLast
theorem trim_kp : ∀ a : List Nat, ((whole a).map (· ++ [10])).flatten = a.take (kp a)
  | [] => rfl
  | x :: t => by
    have ih := trim_kp t
    unfold whole at ih ⊢
    obtain ⟨p, ps, ep⟩ := spl_some t
    by_cases hx : x = 10
    · subst hx
      rw [spl_nl, List.dropLast_cons_of_ne_nil (spl_ne t), List.map_cons, List.flatten_cons, ih]
      have e : kp (10 :: t) = kp t + 1 := by
        rw [kp]
        by_cases h : 0 < kp t
        · rw [if_pos h]
        · rw [if_neg h, if_pos rfl]; omega
      rw [e]
      rfl
    · rw [spl_cons hx ep]
      rw [ep] at ih
      have hk := kp_le t
      cases ps with
      | nil =>
        have z : (t.take (kp t)).length = 0 := by rw [← ih]; rfl
        rw [List.length_take] at z
        have e : kp (x :: t) = 0 := by rw [kp, if_neg (by omega), if_neg hx]
        rw [e]
        rfl
      | cons q qs =>
        have l : 0 < (t.take (kp t)).length := by
          rw [← ih]
          simp
          omega
        rw [List.length_take] at l
        have e : kp (x :: t) = kp t + 1 := by rw [kp, if_pos (by omega)]
        rw [e, List.take_succ_cons, ← ih]
        simp
/-! what a fall leaves -/
def fallF : List Nat → Nat → Nat → List Nat
  | [], _, _ => []
  | x :: t, 0, r => if x = 10 ∨ r = 0 then [] else x :: fallF t 0 (r - 1)
  | x :: t, k + 1, r => x :: fallF t (if x = 10 then k else k + 1) r
def fallP (t : List Nat) (k r : Nat) : List Nat := (((whole t).take k).map (· ++ [10])).flatten ++ ((spl t).getD ((whole t).take k).length []).take r
/-- whole lines alone -/
def Nl (t : List Nat) : Prop := kp t = t.length
theorem nl_tail {x : Nat} {t : List Nat} (h : Nl (x :: t)) : Nl t := by
  unfold Nl at *
  have := kp_le t
  rw [kp] at h
  split at h
  · simp at h; exact h
  · split at h
    · simp at h; simp [h, kp]
    · simp at h
theorem nl_first {x : Nat} {t : List Nat} (h : Nl (x :: t)) (hx : x ≠ 10) : 0 < kp t := by
  unfold Nl at h
  rw [kp] at h
  split at h
  · assumption
  · simp [hx] at h
theorem fall_eq : ∀ (t : List Nat) (k r : Nat), Nl t → fallP t k r = fallF t k r
  | [], k, r, _ => by simp [fallP, fallF, whole, spl]
  | x :: t, 0, r, h => by
    unfold fallP
    rw [fallF]
    obtain ⟨p, ps, ep⟩ := spl_some t
    by_cases hx : x = 10
    · subst hx
      rw [spl_nl, if_pos (.inl rfl)]
      simp
    · rw [spl_cons hx ep]
      cases r with
      | zero => rw [if_pos (.inr rfl)]; simp
      | succ r =>
        have ih := fall_eq t 0 r (nl_tail h)
        unfold fallP at ih
        rw [ep] at ih
        rw [if_neg (by rintro (z | z); exact hx z; omega)]
        show _ = x :: fallF t 0 r
        rw [← ih]
        simp
  | x :: t, k + 1, r, h => by
    unfold fallP
    rw [fallF]
    obtain ⟨p, ps, ep⟩ := spl_some t
    by_cases hx : x = 10
    · subst hx
      have ih := fall_eq t k r (nl_tail h)
      unfold fallP whole at ih
      unfold whole
      rw [spl_nl, if_pos rfl, List.dropLast_cons_of_ne_nil (spl_ne t), ← ih]
      simp
    · have ih := fall_eq t (k + 1) r (nl_tail h)
      have hk := nl_first h hx
      have tk := trim_kp t
      have kl := kp_le t
      unfold fallP whole at ih
      unfold whole at tk ⊢
      rw [ep] at ih tk
      rw [spl_cons hx ep, if_neg hx, ← ih]
      cases ps with
      | nil =>
        have z : (t.take (kp t)).length = 0 := by rw [← tk]; rfl
        rw [List.length_take] at z
        omega
      | cons q qs => simp
theorem spl_snoc (x : Nat) : ∀ a : List Nat, spl (a ++ [x]) = if x = 10 then spl a ++ [[]] else (spl a).dropLast ++ [(spl a).getLastD [] ++ [x]]
  | [] => by
    by_cases hx : x = 10
    · subst hx; simp [spl]
    · simp [spl, hx]
  | y :: a => by
    have ih := spl_snoc x a
    obtain ⟨p, ps, ep⟩ := spl_some a
    by_cases hy : y = 10
    · subst hy
      rw [List.cons_append, spl_nl, spl_nl, ih, ep]
      by_cases hx : x = 10
      · rw [if_pos hx, if_pos hx]; simp
      · rw [if_neg hx, if_neg hx]; simp
    · rw [List.cons_append, spl_cons hy ep]
      by_cases hx : x = 10
      · rw [if_pos hx, ep] at ih
        rw [if_pos hx, spl_cons hy ih]
        simp
      · rw [if_neg hx, ep] at ih
        rw [if_neg hx]
        cases ps with
        | nil => rw [spl_cons (p := p ++ [x]) (ps := []) hy (by simpa using ih)]; simp
        | cons q qs =>
          rw [spl_cons (p := p) (ps := (q :: qs).dropLast ++ [(q :: qs).getLastD [] ++ [x]]) hy (by rw [ih]; simp)]
          simp
end Q

set_option Elab.async false
set_option linter.all false
set_option maxRecDepth 100000
namespace Q
open PySem PySem.Spec L2
/-! readings, step by step -/
section
variable {D : Ends} {σ : L2.St} {H : Hp} {Q : VK} {K : PySem.W.Frag}
def PropR (C : Addr) (sp : Sp) (Q : VK) (x : V) (H1 : Hp) : Prop := ∃ a dx fs, x = .ref a ∧ H1 a = some (.ins C dx fs) ∧ sp [.ref a] H1 Q E0
theorem g_prop {C : Addr} {sp : Sp} {ta : TE} (h : ta σ H (PropR C sp Q)) : tProp C sp [] E0 ta σ H Q := h
theorem g_propR {C : Addr} {sp : Sp} {a dx : Addr} {fs : List (Str × V)} (h : H a = some (.ins C dx fs)) (q : sp [.ref a] H Q E0) : PropR C sp Q (.ref a) H := ⟨a, dx, fs, rfl, h, q⟩
def M1R (r : V → List V → Hp → VK → Prop) (te : TE) (σ : L2.St) (Q : VK) (x : V) (H1 : Hp) : Prop := (∃ a, x = .str a) ∧ te σ H1 fun y H2 => r x [y] H2 Q
theorem g_m1 {r : V → List V → Hp → VK → Prop} {to te : TE} (h : to σ H (M1R r te σ Q)) : tM1 r to te σ H Q := h
theorem g_m1R {r : V → List V → Hp → VK → Prop} {te : TE} {a : Str} (h : te σ H fun y H2 => r (.str a) [y] H2 Q) : M1R r te σ Q (.str a) H := ⟨⟨a, rfl⟩, h⟩
def FmtR (Q : VK) (x : V) (H1 : Hp) : Prop := (∃ y : Str, x = .str y ∧ y.length ≤ sizeLine ∧ Q (.str y) H1) ∨ ∃ i : Int, x = .int i ∧ i.natAbs.log2 < 1920 ∧ Q (.str (toString i)) H1
theorem g_fmt {te : TE} (h : te σ H (FmtR Q)) : tFmt te σ H Q := h
theorem g_fmtS {y : Str} (l : y.length ≤ sizeLine) (h : Q (.str y) H) : FmtR Q (.str y) H := .inl ⟨y, rfl, l, h⟩
theorem g_fmtI {i : Int} (l : i.natAbs.log2 < 1920) (h : Q (.str (toString i)) H) : FmtR Q (.int i) H := .inr ⟨i, rfl, l, h⟩
def JR (ts : List TE) (acc : Str) (σ : L2.St) (R : Str → Hp → Prop) (x : V) (H1 : Hp) : Prop := ∃ y : Str, x = .str y ∧ (acc ++ y).length ≤ sizeLine ∧ tJs ts (acc ++ y) σ H1 R
theorem g_jsC {t : TE} {ts : List TE} {acc : Str} {R : Str → Hp → Prop} (h : t σ H (JR ts acc σ R)) : tJs (t :: ts) acc σ H R := h
theorem g_jsN {acc : Str} {R : Str → Hp → Prop} (h : R acc H) : tJs [] acc σ H R := h
theorem g_jR {ts : List TE} {acc y : Str} {R : Str → Hp → Prop} (l : (acc ++ y).length ≤ sizeLine) (h : tJs ts (acc ++ y) σ H R) : JR ts acc σ R (.str y) H := ⟨y, rfl, l, h⟩
def MkR (C : Addr) (n m : Nat) (sp : Sp) (gV : List V → List V → List V) (Q : VK) (vs zs : List V) (H2 : Hp) : Prop := vs.length = n ∧ zs.length = m ∧ ∀ x dx, H2 x = none → H2 dx = none → dx ≠ x →
  sp (gV (.ref x :: vs) zs) (upd (upd H2 dx (.own x)) x (.ins C dx [])) (fun v H3 => v = .non ∧ Q (.ref x) H3) E0
theorem g_mk {C : Addr} {n m : Nat} {sp : Sp} {gV : List V → List V → List V} {t tk : TA} (h : t σ H fun vs H1 => tk σ H1 fun zs H2 => MkR C n m sp gV Q vs zs H2) : tMakeK C n m sp gV E0 t tk σ H Q := h
theorem g_mkR {C : Addr} {n m : Nat} {sp : Sp} {gV : List V → List V → List V} {vs zs ws : List V} (h1 : vs.length = n) (h2 : zs.length = m) (e : ∀ x, gV (.ref x :: vs) zs = .ref x :: ws)
    (h : ∀ x dx, H x = none → H dx = none → dx ≠ x → sp (.ref x :: ws) (upd (upd H dx (.own x)) x (.ins C dx [])) (fun v H3 => v = .non ∧ Q (.ref x) H3) E0) : MkR C n m sp gV Q vs zs H :=
  ⟨h1, h2, fun x dx a b c => by rw [e]; exact h x dx a b c⟩
def MtR2 (C : Addr) (m : Str) (n j : Nat) (sp : Sp) (gV : List V → List V → List V) (t tk : TA) (σ : L2.St) (Q : VK) (x : V) (H1 : Hp) : Prop := ∃ a dx fs, x = .ref a ∧ H1 a = some (.ins C dx fs) ∧ fs.lookup m = none ∧
  t σ H1 fun vs H2 => tk σ H2 fun zs H3 => vs.length = n ∧ zs.length = j ∧ sp (gV (.ref a :: vs) zs) H3 Q E0
theorem g_methN {C : Addr} {m : Str} {n j : Nat} {sp : Sp} {gV : List V → List V → List V} {to : TE} {t tk : TA} (h : to σ H (MtR2 C m n j sp gV t tk σ Q)) : tMethN C m n j sp gV E0 to t tk σ H Q := h
def MtR3 (n j : Nat) (sp : Sp) (gV : List V → List V → List V) (a : Addr) (Q : VK) (vs zs : List V) (H3 : Hp) : Prop := vs.length = n ∧ zs.length = j ∧ sp (gV (.ref a :: vs) zs) H3 Q E0
theorem g_methN2 {C : Addr} {m : Str} {n j : Nat} {sp : Sp} {gV : List V → List V → List V} {t tk : TA} {a dx : Addr} {fs : List (Str × V)} (h : H a = some (.ins C dx fs)) (l : fs.lookup m = none)
    (q : t σ H fun vs H2 => tk σ H2 fun zs H3 => MtR3 n j sp gV a Q vs zs H3) : MtR2 C m n j sp gV t tk σ Q (.ref a) H := ⟨a, dx, fs, rfl, h, l, q⟩
theorem g_methN3 {n j : Nat} {sp : Sp} {gV : List V → List V → List V} {a : Addr} {vs zs ws : List V} (h1 : vs.length = n) (h2 : zs.length = j) (e : gV (.ref a :: vs) zs = ws) (h : sp ws H Q E0) : MtR3 n j sp gV a Q vs zs H := ⟨h1, h2, by rw [e]; exact h⟩
theorem g_ownLen {C : Addr} {sp : Sp} {a dx : Addr} {fs : List (Str × V)} (h : H a = some (.ins C dx fs)) (q : sp [.ref a] H (fun v H' => ∃ n : Int, v = .int n ∧ 0 ≤ n ∧ n < 2 ^ 63 ∧ Q (.int n) H') E0) : rOwnLen C sp [.ref a] H Q := ⟨a, dx, fs, rfl, h, q⟩
theorem g_ownRepr {C : Addr} {sp : Sp} {a dx : Addr} {fs : List (Str × V)} (h : H a = some (.ins C dx fs)) (q : sp [.ref a] H (fun v H' => ∃ z : Str, v = .str z ∧ Q (.str z) H') E0) : rOwnRepr C sp [.ref a] H Q := ⟨a, dx, fs, rfl, h, q⟩
theorem g_ownBool {C : Addr} {sp : Sp} {a dx : Addr} {fs : List (Str × V)} (h : H a = some (.ins C dx fs)) (q : sp [.ref a] H (fun v H' => ∃ b : Bool, v = .bl b ∧ Q (.bl b) H') E0) : rOwnBool C sp [.ref a] H Q := ⟨a, dx, fs, rfl, h, q⟩
end
theorem sz_ok {n : Nat} (h : n ≤ 100000) : n ≤ sizeLine := Nat.le_trans h (by decide)
theorem str_app_len (a b : Str) : (a ++ b).length = a.length + b.length := by
  show (a.cps ++ b.cps).size = a.cps.size + b.cps.size
  exact Array.size_append
/-! texts -/
section
variable {σ : L2.St} {H : Hp} {Q : VK} {K : PySem.W.Frag}
theorem g_lenS {z : Str} (l : z.length ≤ sizeLine) (h : Q (.int z.length) H) : (∃ y : Str, [V.str z] = [.str y] ∧ y.length ≤ sizeLine ∧ Q (.int y.length) H) := ⟨z, rfl, l, h⟩
theorem g_slS {z : Str} {lo hi : Option Int} (l : z.length ≤ sizeLine) (h : Q (.str (cutS z lo hi)) H) : rSlS (.str z) lo hi H Q := ⟨z, rfl, l, h⟩
def qMax2 : List V → Hp → VK → Prop := fun xs H Q => ∃ i j, xs = [.int i, .int j] ∧ Q (.int (if j > i then j else i)) H
theorem c_max2 {X : Cx} (c : X.calm = true) : CallR X (.builtin "max") qMax2 := call_max2 c
theorem g_max2 {i j : Int} (h : Q (.int (if j > i then j else i)) H) : qMax2 [.int i, .int j] H Q := ⟨i, j, rfl, h⟩
def qMin2 : List V → Hp → VK → Prop := fun xs H Q => ∃ i j, xs = [.int i, .int j] ∧ Q (.int (if j < i then j else i)) H
theorem c_min2 {X : Cx} (c : X.calm = true) : CallR X (.builtin "min") qMin2 := call_min2 c
theorem g_min2 {i j : Int} (h : Q (.int (if j < i then j else i)) H) : qMin2 [.int i, .int j] H Q := ⟨i, j, rfl, h⟩
theorem g_addS {x y : Str} (l : x.length + y.length ≤ sizeLine) (h : Q (.str (x ++ y)) H) : (∃ i j : Str, V.str x = .str i ∧ V.str y = .str j ∧ i.length + j.length ≤ sizeLine ∧ Q (.str (i ++ j)) H) := ⟨x, y, rfl, rfl, l, h⟩
end
theorem cut_from (cs : List Nat) (n : Nat) : cutS (sOf cs) (some (n : Int)) none = sOf (cs.drop n) := by
  unfold cutS
  rw [HT.sIx_nat, HT.sIx_none, sOf_len]
  show (⟨((cs.drop (min n cs.length)).take (cs.length - min n cs.length)).toArray⟩ : Str) = ⟨(cs.drop n).toArray⟩
  rcases Nat.le_total n cs.length with h | h
  · rw [Nat.min_eq_left h, List.take_of_length_le (by rw [List.length_drop]; omega)]
  · rw [Nat.min_eq_right h, Nat.sub_self, List.take_zero, List.drop_eq_nil_of_le h]
theorem cut_to (cs : List Nat) (n : Nat) : cutS (sOf cs) none (some (n : Int)) = sOf (cs.take n) := by
  unfold cutS
  rw [HT.sIx_nat, HT.sIx_none, sOf_len, Nat.sub_zero]
  show (⟨((cs.drop 0).take (min n cs.length)).toArray⟩ : Str) = ⟨(cs.take n).toArray⟩
  rw [List.drop_zero]
  rcases Nat.le_total n cs.length with h | h
  · rw [Nat.min_eq_left h]
  · rw [Nat.min_eq_right h, List.take_length, List.take_of_length_le h]
theorem cutV_to (xs : List V) (n : Nat) : cutV xs none (some (n : Int)) = xs.take n := by
  unfold cutV
  rw [HT.sIx_nat, HT.sIx_none, Nat.sub_zero, List.drop_zero]
  rcases Nat.le_total n xs.length with h | h
  · rw [Nat.min_eq_left h]
  · rw [Nat.min_eq_right h, List.take_length, List.take_of_length_le h]
theorem cutV_last (xs : List V) : cutV xs none (some (-1)) = xs.dropLast := by
  unfold cutV
  rw [HT.sIx_none, Nat.sub_zero, List.drop_zero]
  have e : HT.sIx xs.length xs.length (some (-1)) = xs.length - 1 := by
    show (if (-1 : Int) < 0 then ((-1 : Int) + (xs.length : Int)).toNat else min (-1 : Int).toNat xs.length) = _
    rw [if_pos (by decide)]
    omega
  rw [e, List.dropLast_eq_take]
/-- a number as a text -/
abbrev nTxt (n : Nat) : Str := Str.ofString (toString (n : Int))
theorem nTxt_len {n : Nat} (h : n < 100000) : (nTxt n).length ≤ 10 := by
  have e := int_text_length_le10 (k := 5) (a := (n : Int)) (by decide) (by show n < 10 ^ 5; omega)
  rw [PySem.ofString_length]
  omega
theorem log_ok {n : Nat} (h : n < 100000) : (n : Int).natAbs.log2 < 1920 := Nat.lt_trans (PySem.Flt.log2_lt_of (k := 20) (by decide) (show n < 2 ^ 20 by omega)) (by decide)
section
variable {K : PySem.W.Frag} {g : TG} {tt : TT} {te : TE} {vs : List Nat} {σ σ0 : L2.St} {H : Hp} {Q : VK} {a : Addr}
/-- a comprehension over a list, an item for each item -/
theorem lcMap {α : Type} {S : List α} {g0 f : α → V} (hw : wipe σ vs = σ0) (hS : SqL K H a (S.map g0)) (hl : S.length ≤ 1000)
    (turn : ∀ (D : Addr) (acc : List V) (x : α) (N : Hp → Prop), H D = none → x ∈ S → TurnD D N (f x) (upd H D (.lst acc)) → Turn1 g tt te vs σ0 D (g0 x) (upd H D (.lst acc)) N)
    (q : ∀ D, H D = none → Q (.ref D) (upd H D (.lst (S.map f)))) : LcG (Itl K a) g tt te vs σ Q H := by
  refine lcL (xs := S.map g0) hw fun D hD => ⟨fun i H' => H' = upd H D (.lst ((S.take i).map f)), rfl, ?_, ?_, ?_⟩
  · rintro i H' _ rfl
    exact (same_new hD).seq hS
  · rintro i x H' hx rfl
    rw [List.getElem?_map, Option.map_eq_some_iff] at hx
    obtain ⟨n, hn, rfl⟩ := hx
    have lt : i < S.length := (List.getElem?_eq_some_iff.mp hn).1
    refine turn D _ n _ hD (List.mem_of_getElem? hn) (g_turnD upd_same ?_ ?_)
    · rw [List.length_map, List.length_take]
      omega
    · dsimp only
      rw [upd_upd, List.take_add_one, hn, List.map_append]
      rfl
  · rintro H' rfl
    rw [List.length_map, List.take_length]
    exact q D hD
end
/-! over the signs of a text -/
section
variable {K : PySem.W.Frag} {g : TG} {tt : TT} {te : TE} {tb : TS} {vs : List Nat} {D0 : Ends} {σ σ0 : L2.St} {H : Hp} {Q : VK} {R : It → Hp → Prop}
def StrR (x : V) (R : It → Hp → Prop) (H : Hp) : Prop := ∃ z, x = .str z ∧ R (Its z) H
theorem g_iStr {te : TE} (h : te σ H fun x H1 => StrR x R H1) : iStr te σ H R := h
theorem g_strR {z : Str} (h : R (Its z) H) : StrR (.str z) R H := ⟨z, rfl, h⟩
theorem forS {cs : List Nat} (h : ∃ Pv : Nat → L2.St → Hp → Prop, Pv 0 σ H ∧
    (∀ i c σ' H', cs[i]? = some c → Pv i σ' H' → g (.str (sOf [c])) σ' H' fun σ2 H2 => tb { D0 with nx := Pv (i + 1), ct := Pv (i + 1), bk := D0.nx } σ2 H2) ∧ ∀ σ' H', Pv cs.length σ' H' → D0.nx σ' H') : ForG (Its (sOf cs)) g tb D0 σ H := by
  obtain ⟨Pv, h0, hs, hd⟩ := h
  have sz : (sOf cs).cps.size = cs.length := sOf_len cs
  refine ⟨fun i m σ H => m = cs.length - i ∧ i ≤ cs.length ∧ Pv i σ H, ⟨cs.length, by simp, Nat.zero_le _, h0⟩, ?_⟩
  rintro i m σ H ⟨rfl, hi, p⟩
  rcases Nat.lt_or_ge i cs.length with lt | ge
  · refine .inr ⟨show i < (sOf cs).cps.size by omega, Pv (i + 1), fun σ' H' p' => ⟨cs.length - (i + 1), by omega, rfl, lt, p'⟩, ?_⟩
    rintro x H' ⟨rfl, c, hc, rfl⟩
    exact hs i c σ _ (by simpa using hc) p
  · have e : i = cs.length := by omega
    subst e
    exact .inl ⟨show (sOf cs).cps.size ≤ cs.length by omega, hd σ H p⟩
theorem lcS {cs : List Nat} {f : Nat → V} (hw : wipe σ vs = σ0) (hl : cs.length ≤ 1000)
    (turn : ∀ (D : Addr) (acc : List V) (c : Nat) (N : Hp → Prop), H D = none → c ∈ cs → TurnD D N (f c) (upd H D (.lst acc)) → Turn1 g tt te vs σ0 D (.str (sOf [c])) (upd H D (.lst acc)) N)
    (q : ∀ D, H D = none → Q (.ref D) (upd H D (.lst (cs.map f)))) : LcG (Its (sOf cs)) g tt te vs σ Q H := by
  subst hw
  intro D hD
  have sz : (sOf cs).cps.size = cs.length := sOf_len cs
  refine ⟨fun i m H' => m = cs.length - i ∧ i ≤ cs.length ∧ H' = upd H D (.lst ((cs.take i).map f)), ⟨cs.length, by simp, Nat.zero_le _, rfl⟩, ?_⟩
  rintro i m H' ⟨rfl, hi, rfl⟩
  rcases Nat.lt_or_ge i cs.length with lt | ge
  · refine .inr ⟨show i < (sOf cs).cps.size by omega, fun H' => H' = upd H D (.lst ((cs.take (i + 1)).map f)), fun H' p' => ⟨cs.length - (i + 1), by omega, rfl, lt, p'⟩, ?_⟩
    rintro x H' ⟨rfl, c, hc, rfl⟩
    have hc2 : cs[i]? = some c := by simpa using hc
    refine turn D _ c _ hD (List.mem_of_getElem? hc2) (g_turnD upd_same (by rw [List.length_map, List.length_take]; omega) ?_)
    rw [upd_upd, List.take_add_one, hc2, List.map_append]
    rfl
  · have e : i = cs.length := by omega
    subst e
    rw [List.take_length]
    exact .inl ⟨show (sOf cs).cps.size ≤ cs.length by omega, q D hD⟩
end
theorem join_len (sep : Str) (xs : List Str) : (Txt.join sep xs).length ≤ (xs.map (·.length)).sum + xs.length * sep.length := by
  unfold Txt.join
  rw [StrLaws.glued_eq_join]
  exact StrLaws.join_length_le sep xs
theorem sum_le {xs : List Nat} {b : Nat} (h : ∀ x ∈ xs, x ≤ b) : xs.sum ≤ xs.length * b := by
  induction xs with
  | nil => simp
  | cons x r ih =>
    have h1 := h x (List.mem_cons_self ..)
    have h2 := ih fun y hy => h y (List.mem_cons_of_mem _ hy)
    rw [List.sum_cons, List.length_cons, Nat.add_mul]
    omega
theorem g_gLst {K : PySem.W.Frag} {n : Nat} {t : TGs} {p : Addr} {xs : List V} {σ : L2.St} {H : Hp} {N : L2.St → Hp → Prop} (c : SqL K H p xs) (e : xs.length = n) (h : t xs σ H N) : gLst K n t (.ref p) σ H N := ⟨p, xs, rfl, c, e, h⟩
end Q

set_option Elab.async false
set_option linter.all false
set_option maxRecDepth 100000
set_option maxHeartbeats 4000000
namespace PySem
open PySem.Builtin.Str
theorem qStrIn {prog : Program} {w : World} {a : Addr} :
    MeetsIn prog w (Builtin.«str.__new__» ⟨[.type "str", .ref a], []⟩) (fun A R s => wpAny (model prog w) A.in1 (Builtin.Str.strOf (.ref a)) (fun v t => R (.ok (.ret v)) t) (fun e t => R (.error e) t) s) :=
  MeetsIn.of_wp fun A R s hs => by
    rw [str_new_tree (.ref a)]
    refine wpAny_bind (wpAny_pure ?_)
    refine wpAny_bind (wpAny_of_eq isSubtype_str_str ?_)
    exact wpAny_bind (wpAny_mono hs (fun r t hq => wpAny_pure ⟨_, rfl, hq⟩) fun _ _ z => z)
end PySem
namespace Q
open PySem PySem.Spec L2
section
variable {X : Cx} {C : Addr} {k : Nat} {ps : List Str} {sp : Sp}
def rOwnStr (C : Addr) (sp : Sp) : List V → Hp → VK → Prop := fun xs H Q => ∃ a dx fs, xs = [.ref a] ∧ H a = some (.ins C dx fs) ∧ sp [.ref a] H (fun v H' => ∃ z : Str, v = .str z ∧ Q (.str z) H') E0
theorem call_ownStr (M : MCal X.prog X.w X.K X.mg X.base C "__str__" k ps sp) (hr : Room (k + 2) X.A) : CallR X (.type "str") (rOwnStr C sp) := by
  intro pins s σ H xs us Q I r h
  obtain ⟨a, dx, fs, rfl, ha, hs⟩ := h
  obtain rfl := Vals.ref1 r
  obtain ⟨f, fd, hm, F, hb⟩ := M.ex
  obtain ⟨_, J, _⟩ := ins_get I.hok ha
  obtain ⟨od, J, _⟩ := J.look
  obtain ⟨mm, hF⟩ := I.fr
  refine qTypeIn PySem.F.called_str (by decide) (PySem.F.typeCall_str_1 _) (PySem.F.newCall_str_1 _) (fun obj => PySem.F.args_object_init_2 obj _) PySem.F.entry_str_new qStrIn ?_
  unfold PySem.Builtin.Str.strOf
  rw [show Builtin.Str.isExactStr (Value.ref a) = false from rfl]
  simp only [Bool.false_eq_true, if_false, pure_bind]
  refine wpAny_bind (wpAny_cRoomFor hr.in1.in1.units0 ?_)
  refine wpAny_bind (m := callSpecial? (.ref a) (Str.ofString "__str__")) (PySem.W.special_fn (I.ok.mod.kin.keeps hF.keep) J hm.at_ (beq_iff_eq.mp hm.fn) (thn (run_own (m := "__str__") F hb hr.in1.in1 rfl I hs) fun u t ⟨z, H', I', rz, b, ez, q⟩ => ?_))
  subst ez
  obtain ⟨tk, rfl⟩ := rz
  show wpAny _ _ (do
    let o ← asStr? (Value.str b tk)
    if o.isNone = true then _ else _) _ _ _
  refine wpAny_bind (wpAny_pure ?_)
  rw [if_neg (by simp)]
  exact wpAny_pure ⟨typeIs_str _ _ _, .str b, H', I', ⟨_, rfl⟩, q⟩
theorem g_ownStr {H : Hp} {Q : VK} {a dx : Addr} {fs : List (Str × V)} (h : H a = some (.ins C dx fs)) (q : sp [.ref a] H (fun v H' => ∃ z : Str, v = .str z ∧ Q (.str z) H') E0) : rOwnStr C sp [.ref a] H Q := ⟨a, dx, fs, rfl, h, q⟩
end
end Q

set_option Elab.async false
set_option linter.all false
set_option maxRecDepth 100000
set_option maxHeartbeats 4000000
/-! own operators, own ==, -x, truth; more facts of the head -/
namespace Q
open PySem PySem.Spec PyProof.Rows L2
section
variable {X : Cx} {C : Addr} {k : Nat} {ps : List Str} {sp : Sp}
/-- a def of a class called with values -/
theorem run_vals {pins : List (Addr × Obj)} {σ : L2.St} {H : Hp} {s : Shared} {m : Str} {vs : List V} {us : List Value} {Q : VK} (M : MCal X.prog X.w X.K X.mg X.base C m k ps sp) (hr : Room k X.A)
    (I : Inv X pins σ H s) (r : Vals vs us) (h : sp vs H Q E0) : ∃ f, Meth X.K C m f ∧ wpAny (model X.prog X.w) X.A (call (.ref f) us) (EP X pins σ Q) X.xe s := by
  obtain ⟨f, fd, hm, F, hb⟩ := M.ex
  exact ⟨f, hm, run_fn F hr hb .nil pass0 I r (by rw [List.append_nil]; exact h)⟩
theorem cmpBack {pins : List (Addr × Obj)} {σ : L2.St} {Q : VK} {v : Value} {s' : Shared} (h : EP X pins σ Q v s') : PySem.W.CmpBack (EP X pins σ Q) v s' := by
  cases v with
  | notImplemented =>
    obtain ⟨z, H', I', rz, _⟩ := h
    cases z with
    | non => cases rz
    | bl b => cases rz
    | int i => obtain ⟨t, e⟩ := rz; cases e
    | str i => obtain ⟨t, e⟩ := rz; cases e
    | byt i => obtain ⟨t, e⟩ := rz; cases e
    | flt i => obtain ⟨t, e⟩ := rz; cases e
    | ref i => cases rz
    | ty i => cases rz
  | _ => exact h
def rOwnBin (C : Addr) (sp : Sp) : R2 := fun x y H Q => ∃ a dx fs b dx2 fs2, x = .ref a ∧ y = .ref b ∧ H a = some (.ins C dx fs) ∧ H b = some (.ins C dx2 fs2) ∧ sp [.ref a, .ref b] H Q E0
theorem op_ownBin {op : Operator} {m : Str} (em : PySem.dunder op.info.2 = m) (sf : PySem.W.selfFirst X.K C = true) (M : MCal X.prog X.w X.K X.mg X.base C m k ps sp) (hr : Room k X.A) : OpR X (binaryOp op) (rOwnBin C sp) := by
  intro pins s σ H x y v u Q I rx ry h
  obtain ⟨a, dx, fs, b, dx2, fs2, rfl, rfl, ha, hb, hs⟩ := h
  cases rx
  cases ry
  obtain ⟨_, J, _⟩ := ins_get I.hok ha
  obtain ⟨od, J, _⟩ := J.look
  obtain ⟨_, J', _⟩ := ins_get I.hok hb
  obtain ⟨od', J', _⟩ := J'.look
  obtain ⟨mm, hF⟩ := I.fr
  obtain ⟨f, hm, hw⟩ := run_vals M hr I (vs := [.ref a, .ref b]) (us := [.ref a, .ref b]) (.cons rfl (.cons rfl .nil)) hs
  exact PySem.W.binop_K hF I.ok.mod.kin J J'.type sf (by rw [em]; exact hm.at_) hm.fn (wpAny_mono hw (fun v s' z => cmpBack z) fun _ _ z => z)
def rOwnEq (K : PySem.W.Frag) (C : Addr) (sp : Sp) : R2 := fun x y H Q => ∃ a dx fs t, x = .ref a ∧ H a = some (.ins C dx fs) ∧ TyX K H y t ∧ PySem.W.notFirst K C t = true ∧ sp [.ref a, y] H Q E0
theorem op_ownEq (M : MCal X.prog X.w X.K X.mg X.base C "__eq__" k ps sp) (hr : Room k X.A) : OpR X (compareOp .Eq) (rOwnEq X.K C sp) := by
  intro pins s σ H x y v u Q I rx ry h
  obtain ⟨a, dx, fs, t, rfl, ha, ty, nf, hs⟩ := h
  cases rx
  obtain ⟨_, J, _⟩ := ins_get I.hok ha
  obtain ⟨od, J, _⟩ := J.look
  obtain ⟨mm, hF⟩ := I.fr
  obtain ⟨P, Z, p, hx⟩ := kit_of I ry ty
  obtain ⟨f, hm, hw⟩ := run_vals M hr I (vs := [.ref a, y]) (us := [.ref a, u]) (.cons rfl (.cons ry .nil)) hs
  exact PySem.W.cmp_K (op := .Eq) (tb := t) hr.units0 hF I.ok.mod.kin J (Z.ty _ _ I.kIn p) nf hm.at_ hm.fn (wpAny_mono hw (fun v s' z => cmpBack z) fun _ _ z => z)
def rOwnUn (C : Addr) (sp : Sp) : V → Hp → VK → Prop := fun x H Q => ∃ a dx fs, x = .ref a ∧ H a = some (.ins C dx fs) ∧ sp [.ref a] H Q E0
theorem un_ownNeg (M : MCal X.prog X.w X.K X.mg X.base C "__neg__" k ps sp) (hr : Room k X.A) : UnR X (unaryOp .USub) (rOwnUn C sp) := by
  intro pins s σ H x v Q I rx h
  obtain ⟨a, dx, fs, rfl, ha, hs⟩ := h
  cases rx
  obtain ⟨_, J, _⟩ := ins_get I.hok ha
  obtain ⟨od, J, _⟩ := J.look
  obtain ⟨mm, hF⟩ := I.fr
  obtain ⟨f, hm, hw⟩ := run_vals M hr I (vs := [.ref a]) (us := [.ref a]) (.cons rfl .nil) hs
  unfold unaryOp
  refine wpAny_holding ?_
  dsimp only
  rw [if_neg (by decide)]
  refine wpAny_bind (m := callSpecial? (.ref a) (Str.ofString "__neg__")) (PySem.W.special_fn (I.ok.mod.kin.keeps hF.keep) J hm.at_ (beq_iff_eq.mp hm.fn) (wpAny_mono hw (fun v s' z => ?_) fun _ _ z => z))
  exact wpAny_pure z
/-- an own object as a test, by its __bool__ -/
theorem pt_ownBool {e : Expr} {ta : TE} (he : PE X e ta) (M : MCal X.prog X.w X.K X.mg X.base C "__bool__" k ps sp) (hr : Room k X.A) (hw : ∀ whole, isTrue e X.env whole = (do let v ← whole; standAt e.pos; holding [v] (truthy v))) :
    PT X e (fun σ H Q => ta σ H fun x H1 => ∃ a dx fs, x = .ref a ∧ H1 a = some (.ins C dx fs) ∧ sp [.ref a] H1 (fun v H' => ∃ b : Bool, v = .bl b ∧ Q b H') E0) := by
  refine ⟨fun pins s σ H Q I h => ?_⟩
  refine isTrue_plain (thn (he.run pins s σ H _ I h) fun v s1 ⟨x, H1, I1, rx, q1⟩ => ?_) (hw _)
  obtain ⟨a, dx, fs, rfl, ha, hs⟩ := q1
  cases rx
  obtain ⟨_, J, _⟩ := ins_get I1.hok ha
  obtain ⟨od, J, _⟩ := J.look
  obtain ⟨mm, hF⟩ := I1.fr
  obtain ⟨f, hm, hw⟩ := run_vals M hr I1 (vs := [.ref a]) (us := [.ref a]) (.cons rfl .nil) hs
  refine PySem.W.truthy_K hF I1.ok.mod.kin J hm.at_ hm.fn (wpAny_mono hw (fun v s' ⟨z, H', I', rz, b, ez, q⟩ => ?_) fun _ _ z => z)
  subst ez
  cases rz
  exact ⟨H', I', q⟩
/-- // of whole numbers of any sign, the divisor below 2 ^ 9000 -/
def CDivZ (_ j : Int) : Prop := j ≠ 0 ∧ j.natAbs.log2 < 9000
theorem op_fdivZ : OpR X (binaryOp .FloorDiv) (rI CDivZ fun i j => .int (i.fdiv j)) := opI fun _ _ _ _ _ _ _ hc q => floordiv_int hc.1 q (.inl (PyProof.noPylong_of_log2 hc.2))
theorem div_z {i j : Int} {b : Nat} (h : j ≠ 0) (hb : j.natAbs < 2 ^ b) (h0 : 0 < b) (h9 : b ≤ 9000) : CDivZ i j := ⟨h, Nat.lt_of_lt_of_le (PySem.Flt.log2_lt_of h0 hb) h9⟩
end
/-! the head's facts, with tests of one's own -/
abbrev AlX : Type := AlP × Bool
def obsX (fa : List He.Fa) (fn : List He.DefD) (pr : List PrpD) (bs : List (PySem.W.Frag → Bool)) (K : PySem.W.Frag) : AlX := (obsP fa fn pr K, bs.all fun b => b K)
def valX (fn : List He.DefD) (pr : List PrpD) : AlX := (valP fn pr, true)
structure SaysX (fa : List He.Fa) (fn : List He.DefD) (pr : List PrpD) (bs : List (PySem.W.Frag → Bool)) (K : PySem.W.Frag) : Prop where
  eq : obsX fa fn pr bs K = valX fn pr
def obsXG (n : Nat) (fa : List He.Fa) (fn : List He.DefD) (pr : List PrpD) (bs : List (PySem.W.Frag → Bool)) (g : Addr → Option Obj) : AlX := obsX fa fn pr bs (He.frG g (He.asD g n))
def hookX (n : Nat) (fa : List He.Fa) (fn : List He.DefD) (pr : List PrpD) (bs : List (PySem.W.Frag → Bool)) : PySem.W.Hook where
  α := AlX
  obs := fun s => obsXG n fa fn pr bs s.heap.get?
  val := fun _ => valX fn pr
  says := fun _ h => ∃ K : PySem.W.Frag, K.In h ∧ SaysX fa fn pr bs K
  of := fun _ _ e => ⟨_, He.frG_in, ⟨e⟩⟩
  keeps := fun _ _ _ ⟨K, inK, c⟩ kp => ⟨K, PySem.W.Frag.In.keeps inK kp, c⟩
theorem obsXG_eq {n : Nat} {fa : List He.Fa} {fn : List He.DefD} {pr : List PrpD} {bs : List (PySem.W.Frag → Bool)} {g : Addr → Option Obj} {s : Shared} (h : ∀ a, g a = s.heap.get? a) : obsXG n fa fn pr bs g = (hookX n fa fn pr bs).obs s := by
  obtain rfl : g = s.heap.get? := funext h
  rfl
section
variable {fa : List He.Fa} {fn : List He.DefD} {pr : List PrpD} {bs : List (PySem.W.Frag → Bool)} {K : PySem.W.Frag}
theorem SaysX.p (c : SaysX fa fn pr bs K) : SaysP fa fn pr K := ⟨congrArg (fun z : AlX => z.1) c.eq⟩
theorem SaysX.test (c : SaysX fa fn pr bs K) (i : Nat) {b : PySem.W.Frag → Bool} (h : bs[i]? = some b := by rfl) : b K = true := by
  have z : (bs.all fun b => b K) = true := congrArg (fun z : AlX => z.2) c.eq
  exact List.all_eq_true.mp z b (List.mem_of_getElem? h)
end
/-! tests of the head -/
/-- an own class asked by isinstance -/
def insB (K : PySem.W.Frag) (c : Str) : Bool := decide (PySem.W.findIn K (.ref (He.ga K c)) "__class__" = some (some (.builtin "object.__class__"))) &&
  (decide (PySem.W.specialIn K (.builtin "object.__class__") "__get__" = some (some (.builtin "getset_descriptor.__get__"))) && (decide (PySem.W.takesIn K (.builtin "object.__class__") = some true) &&
  (decide (PySem.W.mroIn K (He.ga K c) (.type "object") = some true) && PySem.W.selfFirst K (He.ga K c))))
structure InsK (K : PySem.W.Frag) (C : Addr) : Prop where
  ha : PySem.W.findIn K (.ref C) "__class__" = some (some (.builtin "object.__class__"))
  hn : PySem.W.specialIn K (.builtin "object.__class__") "__get__" = some (some (.builtin "getset_descriptor.__get__"))
  htk : PySem.W.takesIn K (.builtin "object.__class__") = some true
  hm : PySem.W.mroIn K C (.type "object") = some true
  sf : PySem.W.selfFirst K C = true
theorem insB_ok {K : PySem.W.Frag} {c : Str} (h : insB K c = true) : InsK K (He.ga K c) := by
  obtain ⟨h1, h⟩ := He.ba h
  obtain ⟨h2, h⟩ := He.ba h
  obtain ⟨h3, h⟩ := He.ba h
  obtain ⟨h4, h5⟩ := He.ba h
  exact ⟨of_decide_eq_true h1, of_decide_eq_true h2, of_decide_eq_true h3, of_decide_eq_true h4, h5⟩
theorem InsK.ty {K : PySem.W.Frag} {C : Addr} {H : Hp} {a dx : Addr} {fs : List (Str × V)} (i : InsK K C) (c : Cls K C) (h : H a = some (.ins C dx fs)) : TyX K H (.ref a) (.ref C) := .base (.ins h c i.ha i.hn i.htk i.hm)
/-- isinstance of a value of the type t against the own class c -/
def kitB1 (K : PySem.W.Frag) (t : Value) (c : Str) (b : Bool) : Bool := decide (PySem.W.kitOne K t (.ref (He.ga K c)) = some b)
/-- a global that is a built-in -/
def bltB (K : PySem.W.Frag) (x : Str) (id : String) : Bool := decide (PySem.W.nsIn K mainGlobals x = some (some (.builtin id)))
theorem bltB_ok {K : PySem.W.Frag} {h : Heap} {mg : Str → Option Value} {x : Str} {id : String} (X : K.In h) (G : h.Ns mainGlobals mg) (c : bltB K x id = true) : mg x = some (.builtin id) := PySem.W.mg_of X G (of_decide_eq_true c)
end Q
namespace Q
open PySem PySem.Spec PyProof.Rows L2
theorem k_ownEq {X : Cx} {K : PySem.W.Frag} {C : Addr} {k : Nat} {ps : List Str} {sp : Sp} (ek : X.K = K) (M : MCal X.prog X.w X.K X.mg X.base C "__eq__" k ps sp) (hr : Room k X.A) : OpR X (compareOp .Eq) (rOwnEq K C sp) := by subst ek; exact op_ownEq M hr
theorem k_revL {X : Cx} {K : PySem.W.Frag} {e : Expr} {te : TE} {k : Nat} {p1 p2 p3 pos : Pos} (ek : X.K = K) (he : PE X e te) : PE X (.Subscript e (.Slice none none (some (.UnaryOp .USub (.Constant (.int 1) k p1) p2)) p3) pos) (tRevL K te) := by subst ek; exact pe_revL he
section
variable {σ : L2.St} {H : Hp} {Q : VK} {K : PySem.W.Frag} {C : Addr} {sp : Sp}
theorem g_ownBin {a b dx dx2 : Addr} {fs fs2 : List (Str × V)} (h1 : H a = some (.ins C dx fs)) (h2 : H b = some (.ins C dx2 fs2)) (q : sp [.ref a, .ref b] H Q E0) : rOwnBin C sp (.ref a) (.ref b) H Q := ⟨a, dx, fs, b, dx2, fs2, rfl, rfl, h1, h2, q⟩
theorem g_ownEq {a dx : Addr} {fs : List (Str × V)} {y : V} {t : Value} (h1 : H a = some (.ins C dx fs)) (ty : TyX K H y t) (nf : PySem.W.notFirst K C t = true) (q : sp [.ref a, y] H Q E0) : rOwnEq K C sp (.ref a) y H Q := ⟨a, dx, fs, t, rfl, h1, ty, nf, q⟩
theorem g_ownUn {a dx : Addr} {fs : List (Str × V)} (h1 : H a = some (.ins C dx fs)) (q : sp [.ref a] H Q E0) : rOwnUn C sp (.ref a) H Q := ⟨a, dx, fs, rfl, h1, q⟩
theorem g_gcd {a b : Int} (q : Q (.int ((Nat.gcd a.natAbs b.natAbs : Nat) : Int)) H) : rGcd [.int a, .int b] H Q := ⟨a, b, rfl, q⟩
/-- isinstance of anything against an own class -/
theorem g_isiC {x : V} {t : Value} {D : Addr} {b : Bool} (ty : TyX K H x t) (e : PySem.W.kitOne K t (.ref D) = some b) (q : Q (.bl b) H) : rIsi K [x, .ref D] H Q := ⟨x, .ref D, t, .ref D, b, rfl, .own D, ty, e, q⟩
end
end Q

set_option Elab.async false
set_option linter.all false
set_option maxRecDepth 100000
set_option maxHeartbeats 4000000
/-! what may raise: methods, own error classes without arguments, the suite -/
namespace Q
open PySem PySem.Spec PyProof.Rows L2
/-- what a caller needs of a method that may raise -/
structure MCalX (P : Program) (w : World) (K : PySem.W.Frag) (mg : Str → Option Value) (base : Heap) (C : Addr) (m : Str) (k : Nat) (ps : List Str) (sp : Sp) : Prop where
  ex : ∃ (f : Addr) (fd : FuncData), Meth K C m f ∧ FnOk P w K mg base (L2.CX P w) k f fd ps sp ∧ Binds K fd ps []
theorem mcalx_mk {P : Program} {w : World} {K : PySem.W.Frag} {mg : Str → Option Value} {base : Heap} {C : Addr} {m : Str} {x q : Str} {pa : Arguments} {bd : List Stmt} {sc : Scope} {dv : List V} {kw : List (Str × V)} {k : Nat} {ps : List Str} {sp : Sp} {f : Addr}
    (me : Meth K C m f) (h : ∃ (fd : FuncData), FunD K x q pa bd sc dv kw f fd)
    (ok : ∀ {f : Addr} {fd : FuncData}, FunD K x q pa bd sc dv kw f fd → FnOk P w K mg base (L2.CX P w) k f fd ps sp)
    (b : ∀ {f : Addr} {fd : FuncData}, FunD K x q pa bd sc dv kw f fd → Binds K fd ps []) : MCalX P w K mg base C m k ps sp := by
  obtain ⟨fd, F⟩ := h
  exact ⟨f, fd, me, ok F, b F⟩
def tMethX (C : Addr) (m : Str) (sp : Sp) (E : L2.St → XK) (ta : TE) (t : TA) : TE := fun σ H Q => ta σ H fun x H1 => ∃ a dx fs, x = .ref a ∧ H1 a = some (.ins C dx fs) ∧ fs.lookup m = none ∧ t σ H1 fun vs H2 => sp (x :: vs) H2 Q (E σ)
section
variable {X : Cx} {C : Addr} {m x : Str} {k : Nat} {ps : List Str} {sp : Sp} {o e : Expr} {es : List Expr} {ta : TE} {t : TA} {E : L2.St → XK} {p pos apos : Pos}
theorem pe_mcalX {pl : Sem Bool} (he : PE X o ta) (c : Cls X.K C) (M : MCalX X.prog X.w X.K X.mg X.base C m k ps sp) (hr : Room k X.A) (hx : ∀ σ, PassesAt (L2.CX X.prog X.w) X σ (E σ)) (ha : PA X (e :: es) t)
    (hst : starEach (e :: es) X.env = (false, eval e X.env) :: starEach es X.env := by rfl) (hpl : (backTo pos (starEach es X.env)).any (·.1) = false := by rfl)
    (ht : eval (.Call (.Attribute o m apos) (e :: es) [] pos) X.env = (do
      let ov ← eval o X.env
      standAt apos.atName
      let (f, first) ← holding [ov] (getMethod ov m pl)
      callWith pos f first (backTo pos (starEach (e :: es) X.env)) (backToKw pos (keywordEach [] X.env))) := by rfl) :
    PE X (.Call (.Attribute o m apos) (e :: es) [] pos) (tMethX C m sp E ta t) := by
  obtain ⟨f, fd, hm, F, hb⟩ := M.ex
  refine ⟨fun pins s σ H Q I h => ?_⟩
  refine PySem.W.methodCall_KW (pl := pl) (thn (he.run pins s σ H _ I h) fun u s1 ⟨y, H1, I1, rx, a, dx, fs, ex, ea, l, q⟩ => ?_) ht
  subst ex
  obtain rfl : u = Value.ref a := rx
  refine getmeth_ok I1 ea c hm l ?_
  refine PySem.W.callWith_K (first := [.ref a]) (h₀ := X.base) I.ok.mod.kin hm.kp (thn (ha.run pos pins s1 σ H1 _ I1 q) fun us s2 ⟨vs, H2, I2, r, q2⟩ => ⟨I2.kIn, ?_⟩) hst hpl
  exact run_fnS (us := .ref a :: us) (vs := .ref a :: vs) F hr hb (hx σ) I2 (.cons rfl r) q2
/-- X(), X an own exception class without own __init__ -/
theorem pmk_own0 {C : Addr} {bmB : List Value} {B newId initId : String} {x : Str} {p : Pos} (F : ExcBaseFacts B newId initId bmB) (q : PySem.W.excIn X.K C bmB newId = true) (gC : X.mg x = some (.ref C))
    (kC : PySem.W.keepIn X.K (.ref C) = true) (r : Raises X (.ref C)) (hg : Gl X x) (hdb : (x == ("__debug__" : Str)) = false := by decide) :
    PMk X (.Call (.Name x p) [] [] pos) (fun _ H Q => Q (.ref C) none H) := by
  intro pins s σ H Q I h
  refine wpAny_Call_Name_kw (ld_glob I hg gC ?_ hdb)
  refine PySem.W.callWith_K0 I.kIn kC ?_
  show wpAny _ _ (call (.ref C) []) _ _ _
  obtain ⟨bm, N, nm, qn, bs, hdct, sn, sub, ab, col, dd, k0, k1, k2, k3, k5, mN, hC, hN, hni, T⟩ := exc_obj I.kIn q
  refine wpAny_call_exc_subT F T hC hN hni (fun h' e hm => ?_) (Nat.zero_le _)
  exact mk_of I hm r h (I.hok.gone hm.new)
end
/-- facts of an own error class without own __init__, over ValueError -/
def excB (K : PySem.W.Frag) (c : Str) : Bool := PySem.W.excIn K (He.ga K c) He.veBase "ValueError.__new__" && (PySem.W.keepIn K (.ref (He.ga K c)) && (decide (PySem.W.subIn K (.ref (He.ga K c)) (.type "BaseException") = some true) &&
  (decide (PySem.W.typeIn K (.ref (He.ga K c)) = some (.type "type")) && (decide (PySem.W.exmOne K (.ref (He.ga K c)) (.ref (He.ga K c)) = some true) &&
  (decide (PySem.W.findIn K (.ref (He.ga K c)) "__getattribute__" = some (some (.builtin "BaseException.__getattribute__"))) && (decide (PySem.W.findIn K (.ref (He.ga K c)) "__getattr__" = some none) && (PySem.W.hasDictIn K (He.ga K c) &&
  (decide (PySem.W.findIn K (.ref (He.ga K c)) "__class__" = some (some (.builtin "object.__class__"))) && (decide (PySem.W.specialIn K (.builtin "object.__class__") "__get__" = some (some (.builtin "getset_descriptor.__get__"))) &&
  (decide (PySem.W.takesIn K (.builtin "object.__class__") = some true) && decide (PySem.W.mroIn K (He.ga K c) (.type "object") = some true)))))))))))
structure ExcK (K : PySem.W.Frag) (C : Addr) : Prop where
  xe : PySem.W.excIn K C He.veBase "ValueError.__new__" = true
  kp : PySem.W.keepIn K (.ref C) = true
  sb : PySem.W.subIn K (.ref C) (.type "BaseException") = some true
  ty : PySem.W.typeIn K (.ref C) = some (.type "type")
  me : PySem.W.exmOne K (.ref C) (.ref C) = some true
  cc : ExcC K C
theorem excB_ok {K : PySem.W.Frag} {c : Str} (h : excB K c = true) : ExcK K (He.ga K c) := by
  obtain ⟨h1, h⟩ := He.ba h
  obtain ⟨h2, h⟩ := He.ba h
  obtain ⟨h3, h⟩ := He.ba h
  obtain ⟨h4, h⟩ := He.ba h
  obtain ⟨h5, h⟩ := He.ba h
  obtain ⟨h6, h⟩ := He.ba h
  obtain ⟨h7, h⟩ := He.ba h
  obtain ⟨h8, h⟩ := He.ba h
  obtain ⟨h9, h⟩ := He.ba h
  obtain ⟨h10, h⟩ := He.ba h
  obtain ⟨h11, h12⟩ := He.ba h
  exact ⟨h1, h2, of_decide_eq_true h3, of_decide_eq_true h4, of_decide_eq_true h5, ⟨of_decide_eq_true h6, of_decide_eq_true h7, of_decide_eq_true h3, h8, of_decide_eq_true h9, of_decide_eq_true h10, of_decide_eq_true h11, of_decide_eq_true h12⟩⟩
end Q

set_option Elab.async false
set_option linter.all false
set_option maxRecDepth 100000
set_option maxHeartbeats 4000000
/-! small readings -/
namespace Q
open PySem PySem.Spec PyProof.Rows L2
theorem sm_putn {H H' : Hp} {p : Addr} {o : HO} (s : Same H H') (hp : H p = none) : Same H (L2.upd H' p o) := fun b u e => by
  rw [upd_ne (ne_of_none e hp)]
  exact s b u e
theorem log_pow {r k : Nat} (h : r < 2 ^ k) (h0 : 0 < k) (hk : k ≤ 1920) : (r : Int).natAbs.log2 < 1920 := Nat.lt_of_lt_of_le (PySem.Flt.log2_lt_of h0 h) hk
theorem log_small {r : Nat} (h : r < 10 ^ 9) : (r : Int).natAbs.log2 < 1920 := log_pow (k := 30) (Nat.lt_trans h (by decide)) (by decide) (by decide)
section
variable {σ : L2.St} {H : Hp} {Q : VK} {K : PySem.W.Frag}
def qAbs : List V → Hp → VK → Prop := fun xs H Q => ∃ i : Int, xs = [.int i] ∧ Q (.int ((i.natAbs : Nat) : Int)) H
theorem c_absN {X : Cx} : CallR X (.builtin "abs") qAbs := fun pins s σ H xs us Q I r ⟨i, e, q⟩ => call_abs pins s σ H xs us Q I r ⟨i, e, by
  rw [show (if i < 0 then -i else i) = ((i.natAbs : Nat) : Int) by split <;> omega]
  exact q⟩
theorem g_absN {i : Int} (q : Q (.int ((i.natAbs : Nat) : Int)) H) : qAbs [.int i] H Q := ⟨i, rfl, q⟩
def RevR (K : PySem.W.Frag) (Q : VK) (x : V) (H1 : Hp) : Prop := ∃ a xs, x = .ref a ∧ SqL K H1 a xs ∧ ∀ p, H1 p = none → Q (.ref p) (upd H1 p (.lst xs.reverse))
theorem g_rev {te : TE} (h : te σ H (RevR K Q)) : tRevL K te σ H Q := h
theorem g_revR {a : Addr} {xs : List V} (h : SqL K H a xs) (q : ∀ p, H p = none → Q (.ref p) (upd H p (.lst xs.reverse))) : RevR K Q (.ref a) H := ⟨a, xs, rfl, h, q⟩
end
end Q
namespace Q
open PySem PySem.Spec PyProof.Rows L2
section
variable {H : Hp} {Q : VK} {K : PySem.W.Frag}
theorem g_isiO {a dx C D : Addr} {fs : List (Str × V)} {b : Bool} (h : H a = some (.ins C dx fs)) (i : InsK K C) (c : Cls K C) (e : PySem.W.kitOne K (.ref C) (.ref D) = some b) (q : Q (.bl b) H) : rIsi K [.ref a, .ref D] H Q := g_isiC (i.ty c h) e q
theorem g_isiB {x : V} {t : String} {D : Addr} {b : Bool} (ty : TyX K H x (.type t)) (e : PySem.W.kitOne K (.type t) (.ref D) = some b) (q : Q (.bl b) H) : rIsi K [x, .ref D] H Q := g_isiC ty e q
end
theorem mul_c {i j : Int} {k : Nat} (hi : i.natAbs < 2 ^ k) (hj : j.natAbs < 2 ^ k) (h0 : 0 < k) (h : k ≤ 500000) : CMulW i j := wide_mul hi hj h0 h0 (by omega)
theorem mul_lt {i j : Int} {a b : Nat} (ha : i.natAbs < 2 ^ a) (hb : j.natAbs < 2 ^ b) : (i * j).natAbs < 2 ^ (a + b) := wide_lt ha hb
theorem add_lt {i j : Int} {a : Nat} (ha : i.natAbs < 2 ^ a) (hb : j.natAbs < 2 ^ a) : (i + j).natAbs < 2 ^ (a + 1) := by
  rw [Nat.pow_succ]
  omega
theorem sub_lt' {i j : Int} {a : Nat} (ha : i.natAbs < 2 ^ a) (hb : j.natAbs < 2 ^ a) : (i - j).natAbs < 2 ^ (a + 1) := by
  rw [Nat.pow_succ]
  omega
theorem lt_pow {x a b : Nat} (h : x < 2 ^ a) (hab : a ≤ b) : x < 2 ^ b := Nat.lt_of_lt_of_le h (Nat.pow_le_pow_right (by decide) hab)
end Q

set_option Elab.async false
set_option linter.all false
/-! fractions and number words: mathematics -/
namespace Q
open PySem
/-! ### lowest terms -/
def cmn (n d : Int) : Int := if d < 0 then -((Nat.gcd n.natAbs d.natAbs : Nat) : Int) else ((Nat.gcd n.natAbs d.natAbs : Nat) : Int)
def nT (n d : Int) : Int := n.fdiv (cmn n d)
def nB (n d : Int) : Int := d.fdiv (cmn n d)
/-- t / b in lowest terms -/
def Nrm (t b : Int) : Prop := 0 < b ∧ Nat.gcd t.natAbs b.natAbs = 1
/-- t / b in lowest terms is n / d -/
def Rep (t b n d : Int) : Prop := d ≠ 0 ∧ Nrm t b ∧ t * d = n * b
theorem gcd_pos {n d : Int} (h : d ≠ 0) : 0 < Nat.gcd n.natAbs d.natAbs := Nat.gcd_pos_of_pos_right _ (Int.natAbs_pos.mpr h)
theorem cmn_ne {n d : Int} (h : d ≠ 0) : cmn n d ≠ 0 := by
  have := gcd_pos (n := n) h
  unfold cmn
  split <;> omega
theorem cmn_abs (n d : Int) : (cmn n d).natAbs = Nat.gcd n.natAbs d.natAbs := by
  unfold cmn
  split <;> omega
theorem cmn_n (n d : Int) : nT n d * cmn n d = n := by
  unfold nT
  exact Int.fdiv_mul_cancel (Int.natAbs_dvd_natAbs.mp (by rw [cmn_abs]; exact Nat.gcd_dvd_left _ _))
theorem cmn_d (n d : Int) : nB n d * cmn n d = d := by
  unfold nB
  exact Int.fdiv_mul_cancel (Int.natAbs_dvd_natAbs.mp (by rw [cmn_abs]; exact Nat.gcd_dvd_right _ _))
theorem nB_pos {n d : Int} (h : d ≠ 0) : 0 < nB n d := by
  have e := cmn_d n d
  have g := gcd_pos (n := n) h
  rcases Int.lt_or_lt_of_ne h with h1 | h1
  · have c : cmn n d < 0 := by unfold cmn; rw [if_pos h1]; omega
    rcases Int.lt_trichotomy (nB n d) 0 with z | z | z
    · have := Int.mul_pos_of_neg_of_neg z c; omega
    · rw [z, Int.zero_mul] at e; omega
    · exact z
  · have c : 0 < cmn n d := by unfold cmn; rw [if_neg (by omega)]; omega
    rcases Int.lt_trichotomy (nB n d) 0 with z | z | z
    · have := Int.mul_neg_of_neg_of_pos z c; omega
    · rw [z, Int.zero_mul] at e; omega
    · exact z
theorem nrm {n d : Int} (h : d ≠ 0) : Nrm (nT n d) (nB n d) := by
  refine ⟨nB_pos h, ?_⟩
  have g := gcd_pos (n := n) h
  have e1 : (nT n d).natAbs * Nat.gcd n.natAbs d.natAbs = n.natAbs := by rw [← cmn_abs, ← Int.natAbs_mul, cmn_n]
  have e2 : (nB n d).natAbs * Nat.gcd n.natAbs d.natAbs = d.natAbs := by rw [← cmn_abs, ← Int.natAbs_mul, cmn_d]
  have e3 : Nat.gcd ((nT n d).natAbs * Nat.gcd n.natAbs d.natAbs) ((nB n d).natAbs * Nat.gcd n.natAbs d.natAbs) = Nat.gcd n.natAbs d.natAbs := by rw [e1, e2]
  rw [Nat.gcd_mul_right] at e3
  exact Nat.eq_of_mul_eq_mul_right g (by rw [e3, Nat.one_mul])
theorem nrm_rep {n d : Int} (h : d ≠ 0) : Rep (nT n d) (nB n d) n d := by
  refine ⟨h, nrm h, ?_⟩
  have e1 := cmn_n n d
  have e2 := cmn_d n d
  calc nT n d * d = nT n d * (nB n d * cmn n d) := by rw [e2]
    _ = (nT n d * cmn n d) * nB n d := by rw [Int.mul_comm (nB n d), ← Int.mul_assoc]
    _ = n * nB n d := by rw [e1]
theorem nrm_uniq {t b t' b' : Int} (h : Nrm t b) (h' : Nrm t' b') (e : t * b' = t' * b) : t = t' ∧ b = b' := by
  have en : t.natAbs * b'.natAbs = t'.natAbs * b.natAbs := by rw [← Int.natAbs_mul, ← Int.natAbs_mul, e]
  have d1 : b.natAbs ∣ b'.natAbs := by
    refine Nat.Coprime.dvd_of_dvd_mul_left (k := b.natAbs) (n := b'.natAbs) (m := t.natAbs) ?_ ⟨t'.natAbs, by rw [en, Nat.mul_comm]⟩
    exact (Nat.gcd_comm _ _).trans h.2
  have d2 : b'.natAbs ∣ b.natAbs := by
    refine Nat.Coprime.dvd_of_dvd_mul_left (k := b'.natAbs) (n := b.natAbs) (m := t'.natAbs) ?_ ⟨t.natAbs, by rw [← en, Nat.mul_comm]⟩
    exact (Nat.gcd_comm _ _).trans h'.2
  have eb : b.natAbs = b'.natAbs := Nat.dvd_antisymm d1 d2
  have h1 := h.1
  have h1' := h'.1
  have eb2 : b = b' := by omega
  subst eb2
  exact ⟨Int.eq_of_mul_eq_mul_right (by omega) e, rfl⟩
theorem rep_cross {t b n d t' b' n' d' : Int} (h : Rep t b n d) (h' : Rep t' b' n' d') : (t * b') * (d * d') = (n * d') * (b * b') := by
  have e1 := h.2.2
  calc (t * b') * (d * d') = (t * d) * (b' * d') := by simp only [Int.mul_assoc, Int.mul_comm, Int.mul_left_comm]
    _ = (n * b) * (b' * d') := by rw [e1]
    _ = (n * d') * (b * b') := by simp only [Int.mul_assoc, Int.mul_comm, Int.mul_left_comm]
theorem rep_eq {t b n d t' b' n' d' : Int} (h : Rep t b n d) (h' : Rep t' b' n' d') (e : n * d' = n' * d) : t = t' ∧ b = b' := by
  refine nrm_uniq h.2.1 h'.2.1 ?_
  have c1 := rep_cross h h'
  have c2 := rep_cross h' h
  have dd : d * d' ≠ 0 := Int.mul_ne_zero h.1 h'.1
  refine Int.eq_of_mul_eq_mul_right dd ?_
  rw [c1, Int.mul_comm d d', c2, e, Int.mul_comm b b']
theorem rep_self {t b n d : Int} (h : Rep t b n d) : t = nT n d ∧ b = nB n d := rep_eq h (nrm_rep h.1) rfl
theorem abs_le {x c n : Int} (e : x * c = n) (hc : c ≠ 0) : x.natAbs ≤ n.natAbs := by
  rw [← e, Int.natAbs_mul]
  exact Nat.le_mul_of_pos_right _ (Int.natAbs_pos.mpr hc)
theorem nT_le {n d : Int} (h : d ≠ 0) : (nT n d).natAbs ≤ n.natAbs := abs_le (cmn_n n d) (cmn_ne h)
theorem nB_le {n d : Int} (h : d ≠ 0) : (nB n d).natAbs ≤ d.natAbs := abs_le (cmn_d n d) (cmn_ne h)
theorem rep_le {t b n d : Int} (h : Rep t b n d) : t.natAbs ≤ n.natAbs ∧ b.natAbs ≤ d.natAbs := by
  obtain ⟨e1, e2⟩ := rep_self h
  rw [e1, e2]
  exact ⟨nT_le h.1, nB_le h.1⟩
theorem rep_zero {t b n d : Int} (h : Rep t b n d) : t = 0 ↔ n = 0 := by
  have e := h.2.2
  have hb := h.2.1.1
  constructor
  · intro z
    rw [z, Int.zero_mul] at e
    rcases Int.mul_eq_zero.mp e.symm with q | q
    · exact q
    · omega
  · intro z
    rw [z, Int.zero_mul] at e
    rcases Int.mul_eq_zero.mp e with q | q
    · exact q
    · exact absurd q h.1
theorem nrm_id {t b : Int} (h : Nrm t b) : Rep t b t b := ⟨by have := h.1; omega, h, rfl⟩
/-- from what the operation makes to what the pairs say -/
theorem rep_of {t b n d N D : Int} (h : Rep t b n d) (hD : D ≠ 0) (e : n * D = N * d) : Rep t b N D := by
  refine ⟨hD, h.2.1, ?_⟩
  have e1 := h.2.2
  refine Int.eq_of_mul_eq_mul_right h.1 ?_
  calc t * D * d = (t * d) * D := by rw [Int.mul_right_comm]
    _ = (n * b) * D := by rw [e1]
    _ = (n * D) * b := by rw [Int.mul_right_comm]
    _ = (N * d) * b := by rw [e]
    _ = N * b * d := by rw [Int.mul_right_comm]
section
variable {t b n d t' b' n' d' : Int}
theorem pos_ne {b : Int} (h : 0 < b) : b ≠ 0 := by omega
theorem rep_add (h : Rep t b n d) (h' : Rep t' b' n' d') : Rep (nT (t * b' + t' * b) (b * b')) (nB (t * b' + t' * b) (b * b')) (n * d' + n' * d) (d * d') := by
  refine rep_of (nrm_rep (Int.mul_ne_zero (pos_ne h.2.1.1) (pos_ne h'.2.1.1))) (Int.mul_ne_zero h.1 h'.1) ?_
  have c1 := rep_cross h h'
  have c2 := rep_cross h' h
  rw [Int.mul_comm d' d, Int.mul_comm b' b] at c2
  rw [Int.add_mul, Int.add_mul, c1, c2]
theorem rep_sub (h : Rep t b n d) (h' : Rep t' b' n' d') : Rep (nT (t * b' - t' * b) (b * b')) (nB (t * b' - t' * b) (b * b')) (n * d' - n' * d) (d * d') := by
  refine rep_of (nrm_rep (Int.mul_ne_zero (pos_ne h.2.1.1) (pos_ne h'.2.1.1))) (Int.mul_ne_zero h.1 h'.1) ?_
  have c1 := rep_cross h h'
  have c2 := rep_cross h' h
  rw [Int.mul_comm d' d, Int.mul_comm b' b] at c2
  rw [Int.sub_mul, Int.sub_mul, c1, c2]
theorem rep_mul (h : Rep t b n d) (h' : Rep t' b' n' d') : Rep (nT (t * t') (b * b')) (nB (t * t') (b * b')) (n * n') (d * d') := by
  refine rep_of (nrm_rep (Int.mul_ne_zero (pos_ne h.2.1.1) (pos_ne h'.2.1.1))) (Int.mul_ne_zero h.1 h'.1) ?_
  have e1 := h.2.2
  have e2 := h'.2.2
  calc t * t' * (d * d') = (t * d) * (t' * d') := by simp only [Int.mul_assoc, Int.mul_comm, Int.mul_left_comm]
    _ = (n * b) * (n' * b') := by rw [e1, e2]
    _ = n * n' * (b * b') := by simp only [Int.mul_assoc, Int.mul_comm, Int.mul_left_comm]
theorem rep_neg (h : Rep t b n d) : Rep (nT (-t) b) (nB (-t) b) (-n) d := by
  refine rep_of (nrm_rep (pos_ne h.2.1.1)) h.1 ?_
  rw [Int.neg_mul, Int.neg_mul, h.2.2]
theorem rep_over (h : Rep t b n d) (h' : Rep t' b' n' d') (z : n' ≠ 0) : Rep (nT (t * b') (b * t')) (nB (t * b') (b * t')) (n * d') (d * n') := by
  have zt : t' ≠ 0 := fun e => z ((rep_zero h').mp e)
  refine rep_of (nrm_rep (Int.mul_ne_zero (pos_ne h.2.1.1) zt)) (Int.mul_ne_zero h.1 z) ?_
  have e1 := h.2.2
  have e2 := h'.2.2
  calc t * b' * (d * n') = (t * d) * (n' * b') := by simp only [Int.mul_assoc, Int.mul_comm, Int.mul_left_comm]
    _ = (n * b) * (t' * d') := by rw [e1, e2]
    _ = n * d' * (b * t') := by simp only [Int.mul_assoc, Int.mul_comm, Int.mul_left_comm]
theorem sgn_iff {x y D B : Int} (hB : 0 < B) (hD : D ≠ 0) (key : x * D = y * B) : ((if D > 0 then (1 : Int) else -1) * y < 0) ↔ x < 0 := by
  by_cases h : D > 0
  · rw [if_pos h, Int.one_mul]
    constructor
    · intro hy
      rcases Int.lt_trichotomy x 0 with z | z | z
      · exact z
      · rw [z, Int.zero_mul] at key
        have := Int.mul_neg_of_neg_of_pos hy hB
        omega
      · have a := Int.mul_pos z h
        have := Int.mul_neg_of_neg_of_pos hy hB
        omega
    · intro hx
      rcases Int.lt_trichotomy y 0 with z | z | z
      · exact z
      · rw [z, Int.zero_mul] at key
        have := Int.mul_neg_of_neg_of_pos hx h
        omega
      · have a := Int.mul_pos z hB
        have := Int.mul_neg_of_neg_of_pos hx h
        omega
  · have hD' : D < 0 := by omega
    rw [if_neg h]
    constructor
    · intro hy
      have hy' : 0 < y := by omega
      rcases Int.lt_trichotomy x 0 with z | z | z
      · exact z
      · rw [z, Int.zero_mul] at key
        have := Int.mul_pos hy' hB
        omega
      · have a := Int.mul_neg_of_pos_of_neg z hD'
        have := Int.mul_pos hy' hB
        omega
    · intro hx
      have a := Int.mul_pos_of_neg_of_neg hx hD'
      rcases Int.lt_trichotomy y 0 with z | z | z
      · have := Int.mul_neg_of_neg_of_pos z hB
        omega
      · rw [z, Int.zero_mul] at key
        omega
      · omega
/-- the law's look which one is less -/
def lessN (n d n' d' : Int) : Bool := decide ((if d * d' > 0 then (1 : Int) else -1) * (n * d' - n' * d) < 0)
theorem rep_less (h : Rep t b n d) (h' : Rep t' b' n' d') : lessN n d n' d' = decide (t * b' < t' * b) := by
  have c1 := rep_cross h h'
  have c2 := rep_cross h' h
  rw [Int.mul_comm d' d, Int.mul_comm b' b] at c2
  have hb : 0 < b * b' := Int.mul_pos h.2.1.1 h'.2.1.1
  have hd : d * d' ≠ 0 := Int.mul_ne_zero h.1 h'.1
  have key : (t * b' - t' * b) * (d * d') = (n * d' - n' * d) * (b * b') := by rw [Int.sub_mul, Int.sub_mul, c1, c2]
  unfold lessN
  refine decide_eq_decide.mpr ?_
  rw [sgn_iff hb hd key]
  omega
theorem rep_eqD (h : Rep t b n d) (h' : Rep t' b' n' d') : (decide (t = t') && decide (b = b')) = (!lessN n d n' d' && !lessN n' d' n d) := by
  rw [rep_less h h', rep_less h' h]
  by_cases e : t * b' = t' * b
  · obtain ⟨e1, e2⟩ := nrm_uniq h.2.1 h'.2.1 e
    subst e1 e2
    simp
  · have c1 : (decide (t = t') && decide (b = b')) = false := by
      by_cases e1 : t = t'
      · by_cases e2 : b = b'
        · exact absurd (by rw [e1, e2]) e
        · rw [decide_eq_false e2, Bool.and_false]
      · rw [decide_eq_false e1, Bool.false_and]
    rw [c1]
    rcases Int.lt_or_gt_of_ne e with q | q
    · rw [decide_eq_true q]
      simp
    · rw [decide_eq_true (show t' * b < t * b' from q)]
      simp
end
/-! ### words of numbers -/
def dg (n : Nat) : List Nat := (Nat.toDigits 10 n).map Char.toNat
theorem dg_lt {n : Nat} (h : n < 10) : dg n = [48 + n] := by
  unfold dg
  rw [Nat.toDigits_of_lt_base h, List.map_cons, List.map_nil, Nat.toNat_digitChar_of_lt_ten h]
theorem dg_ge {n : Nat} (h : 10 ≤ n) : dg n = dg (n / 10) ++ [48 + n % 10] := by
  unfold dg
  rw [Nat.toDigits_of_base_le (by decide) h, List.map_append, List.map_cons, List.map_nil, Nat.toNat_digitChar_of_lt_ten (Nat.mod_lt _ (by decide))]
/-- k figures -/
def pd : Nat → Nat → List Nat
  | 0, _ => []
  | k + 1, r => pd k (r / 10) ++ [48 + r % 10]
theorem pd_zero : ∀ k, pd k 0 = List.replicate k 48
  | 0 => rfl
  | k + 1 => by
    unfold pd
    rw [Nat.zero_div, pd_zero k, List.replicate_succ']
theorem dg_split : ∀ (k q r : Nat), 0 < q → r < 10 ^ k → dg (q * 10 ^ k + r) = dg q ++ pd k r
  | 0, q, r, hq, hr => by
    obtain rfl : r = 0 := by omega
    rw [Nat.pow_zero, Nat.mul_one, Nat.add_zero]
    unfold pd
    rw [List.append_nil]
  | k + 1, q, r, hq, hr => by
    have e : q * 10 ^ (k + 1) + r = 10 * (q * 10 ^ k) + r := by rw [Nat.pow_succ, ← Nat.mul_assoc, Nat.mul_comm]
    have h1 : 1 ≤ q * 10 ^ k := Nat.mul_pos hq (Nat.pow_pos (by decide))
    have e1 : (10 * (q * 10 ^ k) + r) / 10 = q * 10 ^ k + r / 10 := by omega
    have e2 : (10 * (q * 10 ^ k) + r) % 10 = r % 10 := by omega
    rw [e, dg_ge (by omega), e1, e2, dg_split k q (r / 10) hq (by rw [Nat.pow_succ] at hr; omega), List.append_assoc]
    rfl
theorem dg_fill : ∀ (k r : Nat), 1 ≤ k → r < 10 ^ k → (dg r).length ≤ k ∧ List.replicate (k - (dg r).length) 48 ++ dg r = pd k r
  | 0, _, h, _ => by omega
  | k + 1, r, _, hr => by
    by_cases h10 : r < 10
    · rw [dg_lt h10]
      refine ⟨by simp, ?_⟩
      unfold pd
      rw [Nat.div_eq_of_lt h10, pd_zero, Nat.mod_eq_of_lt h10]
      rfl
    · have hk : 1 ≤ k := by
        rcases k with _ | k
        · simp at hr; omega
        · omega
      obtain ⟨i1, i2⟩ := dg_fill k (r / 10) hk (by rw [Nat.pow_succ] at hr; omega)
      rw [dg_ge (by omega)]
      refine ⟨by simp; omega, ?_⟩
      unfold pd
      rw [← i2, List.length_append, List.length_cons, List.length_nil, Nat.add_sub_add_right, List.append_assoc]
theorem dg_ne (n : Nat) : dg n ≠ [] := by
  unfold dg
  exact fun e => Nat.toDigits_ne_nil (List.map_eq_nil_iff.mp e)
/-- a number's word -/
def wrd (n : Int) : List Nat := if n < 0 then 45 :: dg n.natAbs else dg n.natAbs
end Q

set_option Elab.async false
set_option linter.all false
set_option maxRecDepth 100000
set_option maxHeartbeats 4000000
namespace Q
open PySem PySem.Spec L2
local macro_rules | `(tactic| walk_at "n") => `(tactic| first
  | with_reducible assumption
  | exact Ne.symm (by with_reducible assumption)
  | ((refine' ne_of_none ?k1 (by with_reducible assumption)); (case k1 => walk_at "h"))
  | ((refine' Ne.symm (ne_of_none ?k1 (by with_reducible assumption))); (case k1 => walk_at "h")))
local macro_rules | `(tactic| walk_at "h") => `(tactic| first
  | with_reducible assumption
  | with_reducible exact upd_same
  | ((with_reducible refine' h_ne ?k1 ?k2); (case k1 => walk_at "n"); (case k2 => walk_at "h"))
  | ((with_reducible refine' h_sm (by with_reducible assumption) ?k1); (case k1 => walk_at "h"))
  | ((with_reducible refine' h_chg (by with_reducible assumption) ?k1 ?k2); (case k1 => walk_at "n"); (case k2 => walk_at "h")))
local macro_rules | `(tactic| walk_at "l") => `(tactic| first
  | with_reducible assumption
  | ((with_reducible refine' SqL.of ?k1); (case k1 => walk_at "h"))
  | ((with_reducible refine' sqL_new (by with_reducible assumption) ?k1); (case k1 => walk_at "l"))
  | ((with_reducible refine' sqL_sm (by with_reducible assumption) ?k1); (case k1 => walk_at "l")))
local macro_rules | `(tactic| walk_at "t") => `(tactic| first
  | with_reducible assumption
  | ((with_reducible refine' SqT.of ?k1); (case k1 => walk_at "h"))
  | ((with_reducible refine' sqT_new (by with_reducible assumption) ?k1); (case k1 => walk_at "t"))
  | ((with_reducible refine' seqT_same (by with_reducible assumption) ?k1); (case k1 => walk_at "t")))
local macro_rules | `(tactic| walk_at "lt") => `(tactic| first
  | with_reducible assumption
  | ((refine' Or.inl ?k1); (case k1 => walk_at "l"))
  | ((refine' Or.inr ?k1); (case k1 => walk_at "t")))
local macro_rules | `(tactic| walk_at "c") => `(tactic| first
  | exact trivial
  | with_reducible assumption
  | exact wide_div (b := 100) (by decide) (by decide) (by decide) (by decide)
  | decide
  | omega
  | (refine' Or.inr ⟨?_, ?_⟩ <;> first | decide | omega)
  | (refine' Or.inl ⟨?_, ?_⟩ <;> first | decide | omega)
  | (refine' And.intro ?_ (And.intro ?_ ?_) <;> first | decide | omega)
  | (refine' And.intro ?_ ?_ <;> first | decide | omega))
local macro_rules | `(tactic| walk_at "ty") => `(tactic| first
  | exact .base (.int _)
  | exact .base (.str _)
  | exact .base (.bl _)
  | exact .base .non
  | ((with_reducible refine' tyL ?k1); (case k1 => walk_at "l"))
  | ((with_reducible refine' tyT ?k1); (case k1 => walk_at "t")))
local macro_rules | `(tactic| walk_at "kb") => `(tactic| first
  | exact kb_int_int
  | exact kb_int_str
  | exact kb_int_bool
  | exact kb_int_list
  | exact kb_int_tuple
  | exact kb_str_int
  | exact kb_str_str
  | exact kb_str_bool
  | exact kb_str_list
  | exact kb_str_tuple
  | exact kb_bool_int
  | exact kb_bool_str
  | exact kb_bool_bool
  | exact kb_bool_list
  | exact kb_bool_tuple
  | exact kb_NoneType_int
  | exact kb_NoneType_str
  | exact kb_NoneType_bool
  | exact kb_NoneType_list
  | exact kb_NoneType_tuple
  | exact kb_list_int
  | exact kb_list_str
  | exact kb_list_bool
  | exact kb_list_list
  | exact kb_list_tuple
  | exact kb_tuple_int
  | exact kb_tuple_str
  | exact kb_tuple_bool
  | exact kb_tuple_list
  | exact kb_tuple_tuple)
local macro_rules | `(tactic| walk_at "s") => `(tactic| first
  | with_reducible refine' g_seq ?_
  | with_reducible refine' g_asg ?_
  | with_reducible refine' g_ifS ?_
  | with_reducible refine' g_ret ?_
  | with_reducible refine' g_drop ?_
  | with_reducible refine' g_next ?_
  | with_reducible refine' g_op ?_
  | with_reducible refine' g_c ?_
  | with_reducible refine' g_v0 ?_
  | with_reducible refine' g_n0 ?_
  | with_reducible refine' g_v1 ?_
  | with_reducible refine' g_n1 ?_
  | with_reducible refine' g_v2 ?_
  | with_reducible refine' g_n2 ?_
  | with_reducible refine' g_v3 ?_
  | with_reducible refine' g_n3 ?_
  | with_reducible refine' g_v4 ?_
  | with_reducible refine' g_n4 ?_
  | with_reducible refine' g_v5 ?_
  | with_reducible refine' g_n5 ?_
  | with_reducible refine' g_v6 ?_
  | with_reducible refine' g_n6 ?_
  | with_reducible refine' g_v7 ?_
  | with_reducible refine' g_n7 ?_
  | with_reducible refine' g_v8 ?_
  | with_reducible refine' g_n8 ?_
  | with_reducible refine' g_v9 ?_
  | with_reducible refine' g_n9 ?_
  | with_reducible refine' g_v10 ?_
  | with_reducible refine' g_n10 ?_
  | with_reducible refine' g_v11 ?_
  | with_reducible refine' g_n11 ?_
  | with_reducible refine' g_v12 ?_
  | with_reducible refine' g_n12 ?_
  | with_reducible refine' g_v13 ?_
  | with_reducible refine' g_n13 ?_
  | with_reducible refine' g_v14 ?_
  | with_reducible refine' g_n14 ?_
  | with_reducible refine' g_v15 ?_
  | with_reducible refine' g_n15 ?_
  | with_reducible refine' g_sub ?_
  | with_reducible refine' g_rI0 ?_
  | with_reducible refine' g_p6 ?_
  | with_reducible refine' g_p18 ?_
  | ((with_reducible refine' g_rI ?_ ?_); (· walk_at "c"))
  | with_reducible refine' g_cb ?_
  | with_reducible refine' g_cons ?_
  | with_reducible refine' g_nil ?_
  | with_reducible refine' g_int ?_
  | ((with_reducible refine' g_ixL0 ?k1 ?_); (case k1 => walk_at "l"))
  | ((with_reducible refine' g_setL0 ?k1 ?_); (case k1 => walk_at "h"))
  | ((with_reducible refine' g_ixL1 ?k1 ?_); (case k1 => walk_at "l"))
  | ((with_reducible refine' g_setL1 ?k1 ?_); (case k1 => walk_at "h"))
  | ((with_reducible refine' g_ixL2 ?k1 ?_); (case k1 => walk_at "l"))
  | ((with_reducible refine' g_setL2 ?k1 ?_); (case k1 => walk_at "h"))
  | ((with_reducible refine' g_ixL3 ?k1 ?_); (case k1 => walk_at "l"))
  | ((with_reducible refine' g_setL3 ?k1 ?_); (case k1 => walk_at "h"))
  | ((with_reducible refine' g_ixL4 ?k1 ?_); (case k1 => walk_at "l"))
  | ((with_reducible refine' g_setL4 ?k1 ?_); (case k1 => walk_at "h"))
  | ((with_reducible refine' g_ixL5 ?k1 ?_); (case k1 => walk_at "l"))
  | ((with_reducible refine' g_setL5 ?k1 ?_); (case k1 => walk_at "h"))
  | ((with_reducible refine' g_ixL6 ?k1 ?_); (case k1 => walk_at "l"))
  | ((with_reducible refine' g_setL6 ?k1 ?_); (case k1 => walk_at "h"))
  | ((with_reducible refine' g_ixL7 ?k1 ?_); (case k1 => walk_at "l"))
  | ((with_reducible refine' g_setL7 ?k1 ?_); (case k1 => walk_at "h"))
  | ((with_reducible refine' g_ixL8 ?k1 ?_); (case k1 => walk_at "l"))
  | ((with_reducible refine' g_setL8 ?k1 ?_); (case k1 => walk_at "h"))
  | ((with_reducible refine' g_ixL9 ?k1 ?_); (case k1 => walk_at "l"))
  | ((with_reducible refine' g_setL9 ?k1 ?_); (case k1 => walk_at "h"))
  | ((with_reducible refine' g_ixL ?k1 ?k2 ?_); (case k1 => walk_at "l"); (case k2 => walk_at "a"))
  | ((with_reducible refine' g_setL ?k1 ?k2 ?_); (case k1 => walk_at "h"); (case k2 => rfl))
  | with_reducible refine' g_eqI ?_
  | with_reducible refine' g_neI ?_
  | with_reducible refine' g_eqS ?_
  | with_reducible refine' g_eqB ?_
  | with_reducible refine' g_neB ?_
  | with_reducible refine' g_test ?_
  | with_reducible refine' g_b ?_
  | with_reducible refine' g_bl ?_
  | with_reducible refine' g_and ?_
  | with_reducible refine' g_or ?_
  | with_reducible refine' g_not ?_
  | with_reducible refine' g_yes ?_
  | with_reducible refine' g_if ?_
  | with_reducible refine' g_andV ?_
  | with_reducible refine' g_orV ?_
  | with_reducible refine' g_notV ?_
  | with_reducible refine' g_call ?_
  | (with_reducible refine' g_lst ?_)
  | (with_reducible refine' g_tup ?_)
  | ((with_reducible refine' g_len ?k1 ?_); (case k1 => walk_at "lt"))
  | (with_reducible refine' g_un ?_)
  | (with_reducible refine' g_rU ?_)
  | with_reducible refine' g_isNr ?_
  | with_reducible refine' g_isNn ?_
  | with_reducible refine' g_isNi ?_
  | with_reducible refine' g_isNb ?_
  | with_reducible refine' g_isNs ?_
  | ((with_reducible refine' g_newL ?k1 ?_); (case k1 => (simp only [List.length_cons, List.length_nil, Nat.reduceAdd, Nat.reduceLeDiff])); intro p hp)
  | ((with_reducible refine' g_newT ?k1 ?_); (case k1 => (simp only [List.length_cons, List.length_nil, Nat.reduceAdd, Nat.reduceLeDiff])); intro p hp)
  | with_reducible refine' g_sl ?_
  | with_reducible refine' g_part ?_
  | with_reducible refine' g_partI ?_
  | with_reducible refine' g_noPart ?_
  | ((with_reducible refine' g_slL ?k1 ?_); (case k1 => walk_at "l"); intro p hp)
  | ((with_reducible refine' g_inI ?k1 ?_); (case k1 => walk_at "lt"))
  | ((with_reducible refine' g_notinI ?k1 ?_); (case k1 => walk_at "lt"))
  | ((with_reducible refine' g_cat ?k1 ?k2 ?k3 ?_); (case k1 => walk_at "h"); (case k2 => walk_at "h"); (case k3 => walk_at "len"); intro p hp)
  | ((with_reducible refine' g_list ?k1 ?_); (case k1 => walk_at "lt"); intro p hp)
  | ((with_reducible refine' g_tuple ?k1 ?_); (case k1 => walk_at "l"); intro p hp)
  | ((with_reducible refine' g_sum ?k1 ?_); (case k1 => walk_at "l"))
  | ((with_reducible refine' g_any ?k1 ?_); (case k1 => walk_at "l"))
  | ((with_reducible refine' g_all ?k1 ?_); (case k1 => walk_at "l"))
  | with_reducible refine' g_iEn2 ?_
  | with_reducible refine' g_iEnum ?_
  | ((with_reducible refine' g_en1 ?k1 ?_); (case k1 => walk_at "l"))
  | ((with_reducible refine' g_gTup ?k1 ?k2 ?_); (case k1 => walk_at "t"); (case k2 => rfl))
  | with_reducible refine' g_gCons ?_
  | with_reducible refine' g_gNil ?_
  | ((with_reducible refine' g_qix0 ?k1 ?_); (case k1 => walk_at "lt"))
  | ((with_reducible refine' g_qix1 ?k1 ?_); (case k1 => walk_at "lt"))
  | ((with_reducible refine' g_qix2 ?k1 ?_); (case k1 => walk_at "lt"))
  | ((with_reducible refine' g_qix3 ?k1 ?_); (case k1 => walk_at "lt"))
  | ((with_reducible refine' g_qix4 ?k1 ?_); (case k1 => walk_at "lt"))
  | ((with_reducible refine' g_qix5 ?k1 ?_); (case k1 => walk_at "lt"))
  | ((with_reducible refine' g_qix6 ?k1 ?_); (case k1 => walk_at "lt"))
  | ((with_reducible refine' g_qix7 ?k1 ?_); (case k1 => walk_at "lt"))
  | ((with_reducible refine' g_qix8 ?k1 ?_); (case k1 => walk_at "lt"))
  | ((with_reducible refine' g_qix9 ?k1 ?_); (case k1 => walk_at "lt"))
  | ((with_reducible refine' g_qix ?k1 ?k2 ?_); (case k1 => walk_at "lt"); (case k2 => walk_at "a"))
  | with_reducible refine' g_turn1 ?_
  | ((with_reducible refine' g_turnB ?k1 ?_); (case k1 => rfl))
  | with_reducible refine' g_turnCt ?_
  | with_reducible refine' g_aug ?_
  | with_reducible refine' g_ipI ?_
  | with_reducible refine' g_par ?_
  | with_reducible refine' g_parR ?_
  | with_reducible refine' g_par3 ?_
  | with_reducible refine' g_parR3 ?_
  | with_reducible refine' g_callN ?_
  | ((with_reducible refine' g_kArg ?k1 ?k2 ?k3 ?_); (case k1 => rfl); (case k2 => rfl); (case k3 => rfl))
  | with_reducible refine' g_bm ?_
  | ((with_reducible refine' g_bmL ?k1 ?_); (case k1 => walk_at "l"))
  | ((with_reducible refine' g_neDI ?k1 ?k2 ?_); (case k1 => walk_at "l"); (case k2 => walk_at "l"))
  | ((with_reducible refine' g_eqDI ?k1 ?k2 ?_); (case k1 => walk_at "l"); (case k2 => walk_at "l"))
  | with_reducible refine' g_ifT ?_
  | with_reducible refine' g_lstRg ?_
  | with_reducible refine' g_tRg1 ?_
  | with_reducible refine' g_rg1R ?_
  | ((with_reducible refine' g_rgNew ?_ ?_); (· (first | omega | (refine' And.intro ?_ (And.intro ?_ (And.intro ?_ ?_)) <;> omega))); intro p hp)
  | with_reducible refine' g_iZipA ?_
  | with_reducible refine' g_lc ?_
  | with_reducible refine' g_for ?_
  | with_reducible refine' g_iRng1 ?_
  | ((with_reducible refine' g_rng1 ?_ ?_); (· walk_at "c"))
  | with_reducible refine' g_iRng2 ?_
  | ((with_reducible refine' g_rng2 ?_ ?_); (· walk_at "c"))
  | with_reducible refine' g_iList ?_
  | ((with_reducible refine' g_lstR ?k1 ?_); (case k1 => walk_at "l"))
  | with_reducible refine' g_iTup ?_
  | ((with_reducible refine' g_tupR ?k1 ?_); (case k1 => walk_at "t"))
  | ((with_reducible refine' g_isi ?k1 ?k2 ?_); (case k1 => walk_at "ty"); (case k2 => walk_at "kb"))
  | ((with_reducible refine' g_isiT2 ?k1 ?k2 ?k3 ?k4 ?_); (case k1 => walk_at "h"); (case k2 => walk_at "ty"); (case k3 => walk_at "kb"); (case k4 => walk_at "kb"))
  | with_reducible refine' iteT ?_
  | with_reducible refine' iteF ?_
  | ((with_reducible refine' g_iteCT ?k1 ?_); (case k1 => decide))
  | ((with_reducible refine' g_iteCF ?k1 ?_); (case k1 => decide)))
local macro_rules | `(tactic| walk_at "s") => `(tactic| first
  | with_reducible refine' g_fld ?_
  | with_reducible refine' g_chain ?_
  | with_reducible refine' g_chR ?_
  | ((with_reducible refine' g_fldR ?k1 ?k2 ?k3 ?k4 ?_); (case k1 => walk_at "h"); (case k2 => (with_reducible assumption)); (case k3 => (with_reducible assumption)); (case k4 => rfl))
  | with_reducible refine' g_meth ?_
  | ((with_reducible refine' g_methR ?k1 ?k2 ?_); (case k1 => walk_at "h"); (case k2 => rfl))
  | with_reducible refine' g_sfld ?_
  | ((with_reducible refine' g_sfldR ?k1 ?k2 ?k3 ?k4 ?_); (case k1 => walk_at "h"); (case k2 => (with_reducible assumption)); (case k3 => (with_reducible assumption)); (case k4 => first | decide | exact (by decide : 1 < 1000) | exact (by decide : 2 < 1000) | exact (by decide : 3 < 1000) | exact (by decide : 4 < 1000) | exact (by decide : 5 < 1000) | exact (by decide : 6 < 1000) | exact (by decide : 7 < 1000) | exact (by decide : 8 < 1000) | exact (by decide : 9 < 1000) | exact (by decide : 10 < 1000) | exact (by decide : 11 < 1000) | exact (by decide : 12 < 1000) | exact (by decide : 13 < 1000) | exact (by decide : 14 < 1000) | exact (by decide : 15 < 1000) | exact (by decide : 16 < 1000) | exact (by decide : 17 < 1000) | exact (by decide : 18 < 1000) | exact (by decide : 19 < 1000) | exact (by decide : 20 < 1000))))
local macro_rules | `(tactic| walk_at "a") => `(tactic| first
  | rfl
  | (with_reducible assumption))
local macro_rules | `(tactic| walk_at "go") => `(tactic| repeat walk_at "s")
local macro_rules | `(tactic| walk_at "chg") => `(tactic| first
  | with_reducible assumption
  | with_reducible exact Chg.refl
  | ((with_reducible refine' Chg.put ?_); walk_at "chg")
  | ((with_reducible refine' Chg.lay ?_ (by with_reducible assumption)); walk_at "chg")
  | ((with_reducible refine' Chg.putn ?_ (by with_reducible assumption)); walk_at "chg")
  | ((with_reducible refine' Chg.trans ?_ (sm_chg (by with_reducible assumption))); walk_at "chg")
  | ((with_reducible refine' Chg.trans ?_ (by with_reducible assumption)); walk_at "chg"))
local macro_rules | `(tactic| walk_at "len") => `(tactic| (first
  | omega
  | ((try simp only [List.length_map, List.length_cons, List.length_nil, List.length_append, List.length_range]); omega)))

def topS (i : Nat) : Stmt := PySem.Challenge.pw_answersalone_k25_shares_by_hand.main.body.getD i (.Pass ⟨0, 0, 0, 0⟩)
abbrev s_number_word : Stmt := topS 7
abbrev N_number_word : List Str := ["number", "rest", "groups", "group", "digits"]
abbrev P_number_word : List Str := ["number"]
theorem sc_number_word : FnScope N_number_word P_number_word (defScope s_number_word) :=
  ⟨rfl, rfl, rfl, by decide +kernel, rfl, by decide +kernel, by decide +kernel⟩
abbrev s__law_bag : Stmt := topS 11
abbrev N__law_bag : List Str := ["script", "seed", "cell"]
abbrev P__law_bag : List Str := ["script"]
theorem sc__law_bag : FnScope N__law_bag P__law_bag (defScope s__law_bag) :=
  ⟨rfl, rfl, rfl, by decide +kernel, rfl, by decide +kernel, by decide +kernel⟩
abbrev s__law_draw : Stmt := topS 12
abbrev N__law_draw : List Str := ["bag", "many", "cell", "digit", "seed"]
abbrev P__law_draw : List Str := ["bag", "many"]
theorem sc__law_draw : FnScope N__law_draw P__law_draw (defScope s__law_draw) :=
  ⟨rfl, rfl, rfl, by decide +kernel, rfl, by decide +kernel, by decide +kernel⟩
abbrev s__law_of : Stmt := topS 13
abbrev N__law_of : List Str := ["bag", "things"]
abbrev P__law_of : List Str := ["bag", "things"]
theorem sc__law_of : FnScope N__law_of P__law_of (defScope s__law_of) :=
  ⟨rfl, rfl, rfl, by decide +kernel, rfl, by decide +kernel, by decide +kernel⟩
abbrev s__law_like : Stmt := topS 14
abbrev N__law_like : List Str := ["found", "due", "one", "two"]
abbrev P__law_like : List Str := ["found", "due"]
theorem sc__law_like : FnScope N__law_like P__law_like (defScope s__law_like) :=
  ⟨rfl, rfl, rfl, by decide +kernel, rfl, by decide +kernel, by decide +kernel⟩
abbrev s__law_common : Stmt := topS 15
abbrev N__law_common : List Str := ["one", "two", "big", "small"]
abbrev P__law_common : List Str := ["one", "two"]
theorem sc__law_common : FnScope N__law_common P__law_common (defScope s__law_common) :=
  ⟨rfl, rfl, rfl, by decide +kernel, rfl, by decide +kernel, by decide +kernel⟩
abbrev s__law_is_share : Stmt := topS 16
abbrev N__law_is_share : List Str := ["found", "num", "den", "high", "low"]
abbrev P__law_is_share : List Str := ["found", "num", "den"]
theorem sc__law_is_share : FnScope N__law_is_share P__law_is_share (defScope s__law_is_share) :=
  ⟨rfl, rfl, rfl, by decide +kernel, rfl, by decide +kernel, by decide +kernel⟩
abbrev s__law_part : Stmt := topS 17
abbrev N__law_part : List Str := ["bag", "road", "num", "den"]
abbrev P__law_part : List Str := ["bag"]
theorem sc__law_part : FnScope N__law_part P__law_part (defScope s__law_part) :=
  ⟨rfl, rfl, rfl, by decide +kernel, rfl, by decide +kernel, by decide +kernel⟩
abbrev s__law_told_like : Stmt := topS 18
abbrev N__law_told_like : List Str := ["one", "pair", "divisor", "sign", "high", "low", "due"]
abbrev P__law_told_like : List Str := ["one", "pair"]
theorem sc__law_told_like : FnScope N__law_told_like P__law_told_like (defScope s__law_told_like) :=
  ⟨rfl, rfl, rfl, by decide +kernel, rfl, by decide +kernel, by decide +kernel⟩
abbrev s__law_less : Stmt := topS 19
abbrev N__law_less : List Str := ["one", "two", "sign"]
abbrev P__law_less : List Str := ["one", "two"]
theorem sc__law_less : FnScope N__law_less P__law_less (defScope s__law_less) :=
  ⟨rfl, rfl, rfl, by decide +kernel, rfl, by decide +kernel, by decide +kernel⟩
abbrev s__law_refused : Stmt := topS 20
abbrev N__law_refused : List Str := ["one", "two", "e"]
abbrev P__law_refused : List Str := ["one", "two"]
theorem sc__law_refused : FnScope N__law_refused P__law_refused (defScope s__law_refused) :=
  ⟨rfl, rfl, rfl, by decide +kernel, rfl, by decide +kernel, by decide +kernel⟩
abbrev s__law_compared : Stmt := topS 21
abbrev N__law_compared : List Str := ["one", "two", "first", "second", "less", "more"]
abbrev P__law_compared : List Str := ["one", "two", "first", "second"]
theorem sc__law_compared : FnScope N__law_compared P__law_compared (defScope s__law_compared) :=
  ⟨rfl, rfl, rfl, by decide +kernel, rfl, by decide +kernel, by decide +kernel⟩
abbrev s__law_worked : Stmt := topS 22
abbrev N__law_worked : List Str := ["bag", "shares", "pairs", "a", "b", "one", "two", "first", "second", "road", "found", "due"]
abbrev P__law_worked : List Str := ["bag", "shares", "pairs"]
theorem sc__law_worked : FnScope N__law_worked P__law_worked (defScope s__law_worked) :=
  ⟨rfl, rfl, rfl, by decide +kernel, rfl, by decide +kernel, by decide +kernel⟩
abbrev s__law_back : Stmt := topS 23
abbrev N__law_back : List Str := ["one", "two", "first", "second"]
abbrev P__law_back : List Str := ["one", "two", "first", "second"]
theorem sc__law_back : FnScope N__law_back P__law_back (defScope s__law_back) :=
  ⟨rfl, rfl, rfl, by decide +kernel, rfl, by decide +kernel, by decide +kernel⟩
abbrev s_law : Stmt := topS 24
abbrev N_law : List Str := ["script", "bag", "shares", "pairs", "k", "pair", "one", "start", "a", "b", "others"]
abbrev P_law : List Str := ["script"]
theorem sc_law : FnScope N_law P_law (defScope s_law) :=
  ⟨rfl, rfl, rfl, by decide +kernel, rfl, by decide +kernel, by decide +kernel⟩
abbrev s_Share___init__ : Stmt := inClass (topS 9) 0
abbrev N_Share___init__ : List Str := ["self", "top", "bottom", "common"]
abbrev P_Share___init__ : List Str := ["self", "top", "bottom"]
theorem sc_Share___init__ : FnScope N_Share___init__ P_Share___init__ (defScope s_Share___init__) :=
  ⟨rfl, rfl, rfl, by decide +kernel, rfl, by decide +kernel, by decide +kernel⟩
abbrev s_Share_below : Stmt := inClass (topS 9) 1
abbrev N_Share_below : List Str := ["self", "other"]
abbrev P_Share_below : List Str := ["self", "other"]
theorem sc_Share_below : FnScope N_Share_below P_Share_below (defScope s_Share_below) :=
  ⟨rfl, rfl, rfl, by decide +kernel, rfl, by decide +kernel, by decide +kernel⟩
abbrev s_Share_over : Stmt := inClass (topS 9) 2
abbrev N_Share_over : List Str := ["self", "other"]
abbrev P_Share_over : List Str := ["self", "other"]
theorem sc_Share_over : FnScope N_Share_over P_Share_over (defScope s_Share_over) :=
  ⟨rfl, rfl, rfl, by decide +kernel, rfl, by decide +kernel, by decide +kernel⟩
abbrev s_Share___add__ : Stmt := inClass (topS 9) 3
abbrev N_Share___add__ : List Str := ["self", "other"]
abbrev P_Share___add__ : List Str := ["self", "other"]
theorem sc_Share___add__ : FnScope N_Share___add__ P_Share___add__ (defScope s_Share___add__) :=
  ⟨rfl, rfl, rfl, by decide +kernel, rfl, by decide +kernel, by decide +kernel⟩
abbrev s_Share___sub__ : Stmt := inClass (topS 9) 4
abbrev N_Share___sub__ : List Str := ["self", "other"]
abbrev P_Share___sub__ : List Str := ["self", "other"]
theorem sc_Share___sub__ : FnScope N_Share___sub__ P_Share___sub__ (defScope s_Share___sub__) :=
  ⟨rfl, rfl, rfl, by decide +kernel, rfl, by decide +kernel, by decide +kernel⟩
abbrev s_Share___mul__ : Stmt := inClass (topS 9) 5
abbrev N_Share___mul__ : List Str := ["self", "other"]
abbrev P_Share___mul__ : List Str := ["self", "other"]
theorem sc_Share___mul__ : FnScope N_Share___mul__ P_Share___mul__ (defScope s_Share___mul__) :=
  ⟨rfl, rfl, rfl, by decide +kernel, rfl, by decide +kernel, by decide +kernel⟩
abbrev s_Share___neg__ : Stmt := inClass (topS 9) 6
abbrev N_Share___neg__ : List Str := ["self"]
abbrev P_Share___neg__ : List Str := ["self"]
theorem sc_Share___neg__ : FnScope N_Share___neg__ P_Share___neg__ (defScope s_Share___neg__) :=
  ⟨rfl, rfl, rfl, by decide +kernel, rfl, by decide +kernel, by decide +kernel⟩
abbrev s_Share___eq__ : Stmt := inClass (topS 9) 7
abbrev N_Share___eq__ : List Str := ["self", "other"]
abbrev P_Share___eq__ : List Str := ["self", "other"]
theorem sc_Share___eq__ : FnScope N_Share___eq__ P_Share___eq__ (defScope s_Share___eq__) :=
  ⟨rfl, rfl, rfl, by decide +kernel, rfl, by decide +kernel, by decide +kernel⟩
abbrev s_Share___bool__ : Stmt := inClass (topS 9) 8
abbrev N_Share___bool__ : List Str := ["self"]
abbrev P_Share___bool__ : List Str := ["self"]
theorem sc_Share___bool__ : FnScope N_Share___bool__ P_Share___bool__ (defScope s_Share___bool__) :=
  ⟨rfl, rfl, rfl, by decide +kernel, rfl, by decide +kernel, by decide +kernel⟩
abbrev s_Share___str__ : Stmt := inClass (topS 9) 9
abbrev N_Share___str__ : List Str := ["self"]
abbrev P_Share___str__ : List Str := ["self"]
theorem sc_Share___str__ : FnScope N_Share___str__ P_Share___str__ (defScope s_Share___str__) :=
  ⟨rfl, rfl, rfl, by decide +kernel, rfl, by decide +kernel, by decide +kernel⟩
abbrev s_Share___repr__ : Stmt := inClass (topS 9) 10
abbrev N_Share___repr__ : List Str := ["self"]
abbrev P_Share___repr__ : List Str := ["self"]
theorem sc_Share___repr__ : FnScope N_Share___repr__ P_Share___repr__ (defScope s_Share___repr__) :=
  ⟨rfl, rfl, rfl, by decide +kernel, rfl, by decide +kernel, by decide +kernel⟩

/-- the bag of a law -/
def Bag (H : Hp) (a l : Addr) : Prop := ∃ (ns : List Int) (i g m c : Int),
  H a = some (.lst [.ref l, .int i, .int g, .int m, .int c]) ∧ H l = some (.lst (ns.map V.int)) ∧ l ≠ a ∧
  0 ≤ i ∧ 0 ≤ g ∧ 0 ≤ m ∧ m < 2147483563 ∧ 0 ≤ c

abbrev CS (K : PySem.W.Frag) : Addr := He.ga K "Share"
structure Top (K : PySem.W.Frag) (mg : Str → Option Value) : Prop where
  f_number_word : ∃ (f : Addr) (fd : FuncData), FunD K "number_word" "number_word" (defArgs s_number_word) (defBody s_number_word) (defScope s_number_word) [] [] f fd ∧ mg "number_word" = some (.ref f)
  f__law_bag : ∃ (f : Addr) (fd : FuncData), FunD K "_law_bag" "_law_bag" (defArgs s__law_bag) (defBody s__law_bag) (defScope s__law_bag) [] [] f fd ∧ mg "_law_bag" = some (.ref f)
  f__law_draw : ∃ (f : Addr) (fd : FuncData), FunD K "_law_draw" "_law_draw" (defArgs s__law_draw) (defBody s__law_draw) (defScope s__law_draw) [] [] f fd ∧ mg "_law_draw" = some (.ref f)
  f__law_of : ∃ (f : Addr) (fd : FuncData), FunD K "_law_of" "_law_of" (defArgs s__law_of) (defBody s__law_of) (defScope s__law_of) [] [] f fd ∧ mg "_law_of" = some (.ref f)
  f__law_like : ∃ (f : Addr) (fd : FuncData), FunD K "_law_like" "_law_like" (defArgs s__law_like) (defBody s__law_like) (defScope s__law_like) [] [] f fd ∧ mg "_law_like" = some (.ref f)
  f__law_common : ∃ (f : Addr) (fd : FuncData), FunD K "_law_common" "_law_common" (defArgs s__law_common) (defBody s__law_common) (defScope s__law_common) [] [] f fd ∧ mg "_law_common" = some (.ref f)
  f__law_is_share : ∃ (f : Addr) (fd : FuncData), FunD K "_law_is_share" "_law_is_share" (defArgs s__law_is_share) (defBody s__law_is_share) (defScope s__law_is_share) [] [] f fd ∧ mg "_law_is_share" = some (.ref f)
  f__law_part : ∃ (f : Addr) (fd : FuncData), FunD K "_law_part" "_law_part" (defArgs s__law_part) (defBody s__law_part) (defScope s__law_part) [] [] f fd ∧ mg "_law_part" = some (.ref f)
  f__law_told_like : ∃ (f : Addr) (fd : FuncData), FunD K "_law_told_like" "_law_told_like" (defArgs s__law_told_like) (defBody s__law_told_like) (defScope s__law_told_like) [] [] f fd ∧ mg "_law_told_like" = some (.ref f)
  f__law_less : ∃ (f : Addr) (fd : FuncData), FunD K "_law_less" "_law_less" (defArgs s__law_less) (defBody s__law_less) (defScope s__law_less) [] [] f fd ∧ mg "_law_less" = some (.ref f)
  f__law_refused : ∃ (f : Addr) (fd : FuncData), FunD K "_law_refused" "_law_refused" (defArgs s__law_refused) (defBody s__law_refused) (defScope s__law_refused) [] [] f fd ∧ mg "_law_refused" = some (.ref f)
  f__law_compared : ∃ (f : Addr) (fd : FuncData), FunD K "_law_compared" "_law_compared" (defArgs s__law_compared) (defBody s__law_compared) (defScope s__law_compared) [] [] f fd ∧ mg "_law_compared" = some (.ref f)
  f__law_worked : ∃ (f : Addr) (fd : FuncData), FunD K "_law_worked" "_law_worked" (defArgs s__law_worked) (defBody s__law_worked) (defScope s__law_worked) [] [] f fd ∧ mg "_law_worked" = some (.ref f)
  f__law_back : ∃ (f : Addr) (fd : FuncData), FunD K "_law_back" "_law_back" (defArgs s__law_back) (defBody s__law_back) (defScope s__law_back) [] [] f fd ∧ mg "_law_back" = some (.ref f)
  f_law : ∃ (f : Addr) (fd : FuncData), FunD K "law" "law" (defArgs s_law) (defBody s_law) (defScope s_law) [] [] f fd ∧ mg "law" = some (.ref f)
  g_Share : mg "Share" = some (.ref (He.ga K "Share"))
  cl_Share : Cls K (He.ga K "Share")
  na_Share_top : NoAttr K (He.ga K "Share") "top"
  na_Share_bottom : NoAttr K (He.ga K "Share") "bottom"
  mk_Share : Mk K (He.ga K "Share") (He.ma K (He.ga K "Share") "__init__")
  f_Share___init__ : ∃ (fd : FuncData), FunD K "__init__" "Share.__init__" (defArgs s_Share___init__) (defBody s_Share___init__) (defScope s_Share___init__) [.int 1] [] (He.ma K (He.ga K "Share") "__init__") fd
  me_Share_below : Meth K (He.ga K "Share") "below" (He.ma K (He.ga K "Share") "below")
  f_Share_below : ∃ (fd : FuncData), FunD K "below" "Share.below" (defArgs s_Share_below) (defBody s_Share_below) (defScope s_Share_below) [] [] (He.ma K (He.ga K "Share") "below") fd
  me_Share_over : Meth K (He.ga K "Share") "over" (He.ma K (He.ga K "Share") "over")
  f_Share_over : ∃ (fd : FuncData), FunD K "over" "Share.over" (defArgs s_Share_over) (defBody s_Share_over) (defScope s_Share_over) [] [] (He.ma K (He.ga K "Share") "over") fd
  me_Share___add__ : Meth K (He.ga K "Share") "__add__" (He.ma K (He.ga K "Share") "__add__")
  f_Share___add__ : ∃ (fd : FuncData), FunD K "__add__" "Share.__add__" (defArgs s_Share___add__) (defBody s_Share___add__) (defScope s_Share___add__) [] [] (He.ma K (He.ga K "Share") "__add__") fd
  me_Share___sub__ : Meth K (He.ga K "Share") "__sub__" (He.ma K (He.ga K "Share") "__sub__")
  f_Share___sub__ : ∃ (fd : FuncData), FunD K "__sub__" "Share.__sub__" (defArgs s_Share___sub__) (defBody s_Share___sub__) (defScope s_Share___sub__) [] [] (He.ma K (He.ga K "Share") "__sub__") fd
  me_Share___mul__ : Meth K (He.ga K "Share") "__mul__" (He.ma K (He.ga K "Share") "__mul__")
  f_Share___mul__ : ∃ (fd : FuncData), FunD K "__mul__" "Share.__mul__" (defArgs s_Share___mul__) (defBody s_Share___mul__) (defScope s_Share___mul__) [] [] (He.ma K (He.ga K "Share") "__mul__") fd
  me_Share___neg__ : Meth K (He.ga K "Share") "__neg__" (He.ma K (He.ga K "Share") "__neg__")
  f_Share___neg__ : ∃ (fd : FuncData), FunD K "__neg__" "Share.__neg__" (defArgs s_Share___neg__) (defBody s_Share___neg__) (defScope s_Share___neg__) [] [] (He.ma K (He.ga K "Share") "__neg__") fd
  me_Share___eq__ : Meth K (He.ga K "Share") "__eq__" (He.ma K (He.ga K "Share") "__eq__")
  f_Share___eq__ : ∃ (fd : FuncData), FunD K "__eq__" "Share.__eq__" (defArgs s_Share___eq__) (defBody s_Share___eq__) (defScope s_Share___eq__) [] [] (He.ma K (He.ga K "Share") "__eq__") fd
  me_Share___bool__ : Meth K (He.ga K "Share") "__bool__" (He.ma K (He.ga K "Share") "__bool__")
  f_Share___bool__ : ∃ (fd : FuncData), FunD K "__bool__" "Share.__bool__" (defArgs s_Share___bool__) (defBody s_Share___bool__) (defScope s_Share___bool__) [] [] (He.ma K (He.ga K "Share") "__bool__") fd
  me_Share___str__ : Meth K (He.ga K "Share") "__str__" (He.ma K (He.ga K "Share") "__str__")
  f_Share___str__ : ∃ (fd : FuncData), FunD K "__str__" "Share.__str__" (defArgs s_Share___str__) (defBody s_Share___str__) (defScope s_Share___str__) [] [] (He.ma K (He.ga K "Share") "__str__") fd
  me_Share___repr__ : Meth K (He.ga K "Share") "__repr__" (He.ma K (He.ga K "Share") "__repr__")
  f_Share___repr__ : ∃ (fd : FuncData), FunD K "__repr__" "Share.__repr__" (defArgs s_Share___repr__) (defBody s_Share___repr__) (defScope s_Share___repr__) [] [] (He.ma K (He.ga K "Share") "__repr__") fd
  k_GROUP_DIGITS : ∃ u, mg "GROUP_DIGITS" = some u ∧ RelV (.int 9) u
  k_GROUP : ∃ u, mg "GROUP" = some u ∧ RelV (.int 1000000000) u
  z_ValueError : mg "ValueError" = none
  z_abs : mg "abs" = none
  z_divmod : mg "divmod" = none
  z_str : mg "str" = none
  z_bool : mg "bool" = none
  z_isinstance : mg "isinstance" = none
  z_list : mg "list" = none
  z_int : mg "int" = none
  z_len : mg "len" = none
  z_tuple : mg "tuple" = none
  z_all : mg "all" = none
  z_zip : mg "zip" = none
  z_repr : mg "repr" = none
  z_range : mg "range" = none
  in_Share : InsK K (He.ga K "Share")
  ki_o_Share_o_Share : PySem.W.kitOne K (.ref (He.ga K "Share")) (.ref (He.ga K "Share")) = some true
  ki_int_o_Share : PySem.W.kitOne K (.type "int") (.ref (He.ga K "Share")) = some false
  ki_bool_o_Share : PySem.W.kitOne K (.type "bool") (.ref (He.ga K "Share")) = some false
  ki_NoneType_o_Share : PySem.W.kitOne K (.type "NoneType") (.ref (He.ga K "Share")) = some false
  ki_str_o_Share : PySem.W.kitOne K (.type "str") (.ref (He.ga K "Share")) = some false
  ki_list_o_Share : PySem.W.kitOne K (.type "list") (.ref (He.ga K "Share")) = some false
  ki_tuple_o_Share : PySem.W.kitOne K (.type "tuple") (.ref (He.ga K "Share")) = some false
  nf_Share_o_Share : PySem.W.notFirst K (He.ga K "Share") (.ref (He.ga K "Share")) = true
  nf_Share_int : PySem.W.notFirst K (He.ga K "Share") (.type "int") = true
  nf_Share_bool : PySem.W.notFirst K (He.ga K "Share") (.type "bool") = true
  nf_Share_NoneType : PySem.W.notFirst K (He.ga K "Share") (.type "NoneType") = true
  nf_Share_str : PySem.W.notFirst K (He.ga K "Share") (.type "str") = true
  nf_Share_list : PySem.W.notFirst K (He.ga K "Share") (.type "list") = true
  nf_Share_tuple : PySem.W.notFirst K (He.ga K "Share") (.type "tuple") = true
  b_gcd : mg "gcd" = some (.builtin "math.gcd")
  g_InvalidWeights : mg "InvalidWeights" = some (.ref (He.ga K "InvalidWeights"))
  g_InvalidError : mg "InvalidError" = some (.ref (He.ga K "InvalidError"))
  ex_InvalidWeights : ExcK K (He.ga K "InvalidWeights")
  ki_o_InvalidWeights_o_InvalidError : PySem.W.kitOne K (.ref (He.ga K "InvalidWeights")) (.ref (He.ga K "InvalidError")) = some true
  ki_o_InvalidWeights_ValueError : PySem.W.kitOne K (.ref (He.ga K "InvalidWeights")) (.type "ValueError") = some true
section
variable {P : Program} {w : World} {K : PySem.W.Frag} {mg : Str → Option Value} {base : Heap}
def spDraw (B : Int) : Sp := fun vs H Q _ => ∃ (a l : Addr) (size : Int), vs = [.ref a, .int size] ∧ Bag H a l ∧ 1 ≤ size ∧ size ≤ B ∧
  ∀ (r : Int) (H' : Hp), 0 ≤ r → r < size → Bag H' a l → Chg a H H' → Q (.int r) H'
theorem ok_draw1 {f : Addr} {fd : FuncData} (T : Top K mg) (F : FunD K "_law_draw" "_law_draw" (defArgs s__law_draw) (defBody s__law_draw) (defScope s__law_draw) [] [] f fd) :
    FnOk P w K mg base CX0 1 f fd P__law_draw (spDraw 1000000) := by
  refine F.ok sc__law_draw (fun vs H Q E h => ?_) (fun cdv A outer s H vs Q E hr h => ?_)
  · obtain ⟨a, l, size, rfl, _⟩ := h
    rfl
  · obtain ⟨a, l, size, rfl, ⟨ns, i, g, m, c, hB, hl, hla, hi, hg, hm, hm', hc⟩, h1, h2, q⟩ := h
    refine ⟨_, PSs.nox (C8.pss_cut (ps_asg (pe_op op_add (pe_ix (k_ix (K := K) (by rfl)) (pv 0) pe_int (fun _ _ => rfl)) pe_int) (pg_sub (pv 0) pe_int set_list))
    (C8.pss_cut (ps_if (PW.pt (pw_and (pt_cmpR op_eq (pe_ix (k_ix (K := K) (by rfl)) (pv 0) pe_int (fun _ _ => rfl)) pe_int (nomark _)) (pw_and1 (pt_cmpR op_lt (pe_ix (k_ix (K := K) (by rfl)) (pv 0) pe_int (fun _ _ => rfl)) (pe_callB (k_len (K := K) (by rfl)) (by rfl) T.z_len (by decide +kernel) (pa_cons (pe_ix (k_ix (K := K) (by rfl)) (pv 0) pe_int (fun _ _ => rfl)) pa_nil)) (nomark _)))))
    (pss_cons (ps_set (i := 2) sc__law_draw.nd rfl (by first | exact Or.inl rfl | exact Or.inr rfl) (pe_ix (k_ix (K := K) (by rfl)) (pe_ix (k_ix (K := K) (by rfl)) (pv 0) pe_int (fun _ _ => rfl)) (pe_ix (k_ix (K := K) (by rfl)) (pv 0) pe_int (fun _ _ => rfl)) (fun _ _ => rfl)))
    (pss_cons (ps_asg (pe_op op_add (pe_ix (k_ix (K := K) (by rfl)) (pv 0) pe_int (fun _ _ => rfl)) pe_int) (pg_sub (pv 0) pe_int set_list))
    (pss_one (ps_if (pt_cmpR op_ge (pv 2) (pe_op op_pow pe_int pe_int) (nomark _))
    (pss_one (ps_asg (pv 2) (pg_sub (pv 0) pe_int set_list)))
    (pss_one (ps_asg (pe_op op_mod (pe_callTy c_int (by rfl) T.z_int (by decide +kernel) (pa_cons (pe_op op_add (pe_op op_add (pe_op op_mul (pe_ix (k_ix (K := K) (by rfl)) (pv 0) pe_int (fun _ _ => rfl)) pe_int) (pe_op op_mul (pe_op op_mod (pe_callTy c_int (by rfl) T.z_int (by decide +kernel) (pa_cons (pv 2) pa_nil)) pe_int) pe_int)) pe_int) pa_nil)) pe_int) (pg_sub (pv 0) pe_int set_list)))))))
    pss_nil)
    (pss_cons (ps_if (pt_cmpR op_gt (pe_ix (k_ix (K := K) (by rfl)) (pv 0) pe_int (fun _ _ => rfl)) pe_int (nomark _))
    (pss_cons (ps_set (i := 3) sc__law_draw.nd rfl (by first | exact Or.inl rfl | exact Or.inr rfl) (pe_op op_mod (pe_callTy c_int (by rfl) T.z_int (by decide +kernel) (pa_cons (pe_ix (k_ix (K := K) (by rfl)) (pv 0) pe_int (fun _ _ => rfl)) pa_nil)) (pv 1)))
    (pss_cons (ps_asg (pe_op op_fdivW (pe_ix (k_ix (K := K) (by rfl)) (pv 0) pe_int (fun _ _ => rfl)) (pv 1)) (pg_sub (pv 0) pe_int set_list))
    (pss_one (ps_ret (pv 3)))))
    pss_nil)
    (pss_cons (ps_if (pt_cmpR op_gt (pv 1) (pe_op op_pow pe_int pe_int) (nomark _))
    pss_never
    pss_nil)
    (pss_cons (ps_set (i := 4) sc__law_draw.nd rfl (by first | exact Or.inl rfl | exact Or.inr rfl) (pe_ix (k_ix (K := K) (by rfl)) (pv 0) pe_int (fun _ _ => rfl)))
    (pss_cons (ps_asg (pe_op op_mod (pe_callTy c_int (by rfl) T.z_int (by decide +kernel) (pa_cons (pe_op op_add (pe_op op_add (pe_op op_add (pe_op op_mul (pe_op op_mul (pv 4) (pv 4)) pe_int) (pe_op op_mul (pv 4) pe_int)) (pe_op op_mul (pe_ix (k_ix (K := K) (by rfl)) (pv 0) pe_int (fun _ _ => rfl)) pe_int)) pe_int) pa_nil)) pe_int) (pg_sub (pv 0) pe_int set_list))
    (pss_one (ps_ret (pe_op op_mod (pe_callTy c_int (by rfl) T.z_int (by decide +kernel) (pa_cons (pe_op op_add (pe_op op_fdivW (pe_ix (k_ix (K := K) (by rfl)) (pv 0) pe_int (fun _ _ => rfl)) pe_int) (pe_op op_mul (pe_op op_mod (pe_callTy c_int (by rfl) T.z_int (by decide +kernel) (pa_cons (pe_ix (k_ix (K := K) (by rfl)) (pv 0) pe_int (fun _ _ => rfl)) pa_nil)) pe_int) pe_int)) pa_nil)) (pv 1)))))))))), ?_⟩
    try simp only [cxK]
    rw [show L2.start N__law_draw [V.ref a, V.int size] = [some (.ref a), some (.int size), none, none, none] from rfl]
    refine g_cut (fun σ' H' => σ' = [some (.ref a), some (.int size), none, none, none] ∧ ∃ c', H' = upd H a (.lst [V.ref l, V.int i, V.int g, V.int m, V.int c']) ∧ 0 ≤ c') ?_ ?_
    · walk_at "go"
      exact ⟨rfl, _, rfl, by omega⟩
    rintro σ' H' ⟨rfl, c', rfl, hc'⟩
    refine g_cut (fun σ' H' => ∃ x2, σ' = [some (.ref a), some (.int size), x2, none, none] ∧ ∃ i' g' m', H' a = some (.lst [V.ref l, V.int i', V.int g', V.int m', V.int c']) ∧
      0 ≤ i' ∧ 0 ≤ g' ∧ 0 ≤ m' ∧ m' < 2147483563 ∧ Chg a H H') ?_ ?_
    · walk_at "go"
      refine g_iteD (fun h3 => ?_) (fun h3 => ?_)
      · walk_at "go"
        refine g_iteD (fun h4 => ?_) (fun h4 => ?_)
        · have e : atI (ns.map V.int) i = some (.int (ns.getD i.toNat 0)) := by
            have z := atI_nat (xs := ns.map V.int) (j := i.toNat) (v := .int (ns.getD i.toNat 0)) (by
              rw [List.getElem?_map, List.getD_eq_getElem?_getD, List.getElem?_eq_getElem (by rw [List.length_map] at h4; omega)]; rfl)
            rwa [Int.toNat_of_nonneg hi] at z
          walk_at "go"
          refine g_iteD (fun h5 => ?_) (fun h5 => ?_)
          · walk_at "go"
            exact ⟨_, rfl, _, _, _, by walk_at "h", by omega, by omega, hm, hm', by walk_at "chg"⟩
          · walk_at "go"
            exact ⟨_, rfl, _, _, _, by walk_at "h", by omega, by omega, by omega, by omega, by walk_at "chg"⟩
        · walk_at "go"
          exact ⟨_, rfl, i, g, m, by walk_at "h", hi, hg, hm, hm', by walk_at "chg"⟩
      · walk_at "go"
        exact ⟨_, rfl, i, g, m, by walk_at "h", hi, hg, hm, hm', by walk_at "chg"⟩
    rintro σ' H' ⟨x2, rfl, i', g', m', hB', hi', hg', hm1, hm2, ch⟩
    have hl' : H' l = some (HO.lst (List.map V.int ns)) := by walk_at "h"
    walk_at "go"
    refine g_iteD (fun h3 => ?_) (fun h3 => ?_)
    · have hs : 0 < size := by omega
      have hd : CDivW g' size := wide_div (b := 200) hs (Nat.lt_of_le_of_lt (m := 100000000000000000000000000000000000000000) (by omega) (by decide)) (by decide) (by decide)
      walk_at "go"
      exact q _ _ (Int.emod_nonneg _ (by omega)) (Int.emod_lt_of_pos _ (by omega))
        ⟨ns, _, _, _, _, by walk_at "h", by walk_at "h", hla, hi', Int.ediv_nonneg hg' (by omega), hm1, hm2, hc'⟩ (by walk_at "chg")
    · have hs : 0 < size := by omega
      walk_at "go"
      refine g_iteX (by omega) ?_
      walk_at "go"
      exact q _ _ (Int.emod_nonneg _ (by omega)) (Int.emod_lt_of_pos _ (by omega))
        ⟨ns, _, _, _, _, by walk_at "h", by walk_at "h", hla, hi', hg', by omega, by omega, hc'⟩ (by walk_at "chg")

theorem c_draw1 (T : Top K mg) : Cal P w K mg base "_law_draw" 1 P__law_draw (spDraw 1000000) := cal_mk T.f__law_draw (ok_draw1 T) (fun F => F.bindsN fun _ _ _ _ _ _ us hl => match us, hl with | [_, _], _ => rfl)
end

set_option Elab.async false
set_option linter.all false
set_option maxRecDepth 100000
set_option maxHeartbeats 4000000
open PySem PySem.Spec L2

section
variable {P : Program} {w : World} {K : PySem.W.Frag} {mg : Str → Option Value} {base : Heap}

abbrev FnP (K : PySem.W.Frag) (x : Str) (st : Stmt) (f : Addr) (fd : FuncData) : Prop := FunD K x x (defArgs st) (defBody st) (defScope st) [] [] f fd
/-! _law_like of equal data -/
theorem dp_same {H H' : Hp} (s : Same H H') : ∀ {v : V} {d : PyData}, Dp K H v d → Dp K H' v d := by
  intro v d h
  exact Dp.rec (motive_1 := fun v d _ => Dp K H' v d) (motive_2 := fun vs ds _ => DpAll K H' vs ds) .non (fun b => .bl b) (fun i => .int i) (fun x => .str x)
    (fun h1 _ ih => .lst (s.seq h1) ih) (fun h1 _ ih => .tup (seqT_same s h1) ih) .nil (fun _ _ i1 i2 => .cons i1 i2) h
theorem dpAll_len {H : Hp} : ∀ {vs : List V} {ds : List PyData}, DpAll K H vs ds → vs.length = ds.length
  | _, _, .nil => rfl
  | _, _, .cons _ h => congrArg Nat.succ (dpAll_len h)
theorem dpAll_at {H : Hp} : ∀ {vs : List V} {ds : List PyData} {i : Nat} {v : V}, DpAll K H vs ds → vs[i]? = some v → ∃ d, ds[i]? = some d ∧ Dp K H v d
  | _, _, i, v, .nil, e => by simp at e
  | _, _, 0, v, .cons (d := d) h _, e => ⟨d, rfl, by
      obtain rfl := Option.some.inj e
      exact h⟩
  | _, _, i + 1, v, .cons _ h, e => dpAll_at (i := i) h e
theorem all_rep (n : Nat) : (List.replicate n true).all id = true := by
  induction n with
  | zero => rfl
  | succ n ih => rw [List.replicate_succ, List.all_cons, ih]; rfl
mutual
def smallD : PyData → Bool
  | .list xs => decide (xs.length ≤ 1000) && smallAll xs
  | .tuple xs => decide (xs.length ≤ 1000) && smallAll xs
  | _ => true
def smallAll : List PyData → Bool
  | [] => true
  | x :: xs => smallD x && smallAll xs
end
theorem smallAll_mem : ∀ {xs : List PyData} {x : PyData}, smallAll xs = true → x ∈ xs → smallD x = true
  | y :: ys, x, h, m => by
    have h2 : (smallD y && smallAll ys) = true := h
    rw [Bool.and_eq_true] at h2
    rcases List.mem_cons.mp m with e | m
    · rw [e]; exact h2.1
    · exact smallAll_mem h2.2 m
def spLike (K : PySem.W.Frag) (n : Nat) : Sp := fun vs H Q _ => ∃ (x y : V) (d : PyData), vs = [x, y] ∧ Dp K H x d ∧ Dp K H y d ∧ d.depth ≤ n ∧ smallD d = true ∧ ∀ H', Same H H' → Q (.bl true) H'
theorem g_likeD {n : Nat} {x y : V} {d : PyData} {H : Hp} {Q : VK} {E : XK} (h1 : Dp K H x d) (h2 : Dp K H y d) (hd : d.depth ≤ n) (hs : smallD d = true) (q : ∀ H', Same H H' → Q (.bl true) H') : spLike K n [x, y] H Q E := ⟨x, y, d, rfl, h1, h2, hd, hs, q⟩
theorem ok_like {n : Nat} {f : Addr} {fd : FuncData} (T : Top K mg) (C__law_like : Cal P w K mg base "_law_like" (n + 1) P__law_like (spLike K n)) (F : FnP K "_law_like" s__law_like f fd) :
    FnOk P w K mg base CX0 (n + 2) f fd P__law_like (spLike K (n + 1)) := by
  refine F.ok sc__law_like (fun vs H Q E h => ?_) (fun cdv A outer s H vs Q E hr h => ?_)
  · obtain ⟨x, y, d, rfl, _⟩ := h
    rfl
  · obtain ⟨x, y, d, rfl, hx, hy, hd, hs, q⟩ := h
    refine ⟨_, PSs.nox (pss_cons (ps_if (pt_val (pe_callB (k_isiT (K := K) (by rfl)) (by rfl) T.z_isinstance (by decide +kernel) (pa_cons (pv 1) (pa_cons (pe_tup (pa_cons (pe_bltn (v := .ty "list") (u := .type "list") (by rfl) T.z_list (by decide +kernel) rfl) (pa_cons (pe_bltn (v := .ty "tuple") (u := .type "tuple") (by rfl) T.z_tuple (by decide +kernel) rfl) pa_nil))) pa_nil))))
    (pss_cons (ps_if (PW.pt (pw_or (pt_cmpR op_ne (pe_callB (k_isi (K := K) (by rfl)) (by rfl) T.z_isinstance (by decide +kernel) (pa_cons (pv 0) (pa_cons (pe_bltn (v := .ty "list") (u := .type "list") (by rfl) T.z_list (by decide +kernel) rfl) pa_nil))) (pe_callB (k_isi (K := K) (by rfl)) (by rfl) T.z_isinstance (by decide +kernel) (pa_cons (pv 1) (pa_cons (pe_bltn (v := .ty "list") (u := .type "list") (by rfl) T.z_list (by decide +kernel) rfl) pa_nil))) (nomark _)) (pw_or1 (pt_cmpR op_ne (pe_callB (k_isi (K := K) (by rfl)) (by rfl) T.z_isinstance (by decide +kernel) (pa_cons (pv 0) (pa_cons (pe_bltn (v := .ty "tuple") (u := .type "tuple") (by rfl) T.z_tuple (by decide +kernel) rfl) pa_nil))) (pe_callB (k_isi (K := K) (by rfl)) (by rfl) T.z_isinstance (by decide +kernel) (pa_cons (pv 1) (pa_cons (pe_bltn (v := .ty "tuple") (u := .type "tuple") (by rfl) T.z_tuple (by decide +kernel) rfl) pa_nil))) (nomark _)))))
    (pss_one (ps_ret pe_bl))
    pss_nil)
    (pss_one (ps_ret (pe_and (pe_cmpR op_eq (pe_callB (k_len (K := K) (by rfl)) (by rfl) T.z_len (by decide +kernel) (pa_cons (pv 0) pa_nil)) (pe_callB (k_len (K := K) (by rfl)) (by rfl) T.z_len (by decide +kernel) (pa_cons (pv 1) pa_nil)) (nomark _)) (pe_one (pe_callB (k_all (K := K) (by rfl) (by rfl)) (by rfl) T.z_all (by decide +kernel) (pa_cons (pe_lc (own := [("one", 2), ("two", 3)]) (g := gTup K 2 (gCons (gName 2) (gCons (gName 3) gNil))) (by rfl) sc__law_like.nd (k_zip (K := K) (by rfl) (by rfl) T.z_zip (pa_cons (pv 0) (pa_cons (pv 1) pa_nil))) (blkOk_by (own := [("one", 2), ("two", 3)]) (N := N__law_like) (sc := defScope s__law_like) (by decide +kernel)) (fun _ _ _ _ _ => (k_pgt (K := K) (n := 2) (by rfl) (by rfl) (pgs_cons (pg_name (i := 2) sc__law_like.nd rfl (Or.inl rfl)) (pgs_cons (pg_name (i := 3) sc__law_like.nd rfl (Or.inl rfl)) pgs_nil)) (by rfl) (by rfl))) (fun _ _ _ _ _ => pts_nil) (fun _ _ _ _ _ => (pe_cal C__law_like (hr.mono (by first | decide | omega)) (by rfl) (pa_cons (pv 2) (pa_cons (pv 3) pa_nil))))) pa_nil)))))))
    pss_nil)
    (pss_cons (ps_if (PW.pt (pw_or (pt_cmpR o_isN (pv 1) pe_non (nomark _)) (pw_or1 (pt_cmpR o_isN (pv 0) pe_non (nomark _)))))
    (pss_one (ps_ret (pe_and (pe_cmpR o_isN (pv 1) pe_non (nomark _)) (pe_one (pe_cmpR o_isN (pv 0) pe_non (nomark _))))))
    pss_nil)
    (pss_cons (ps_if (PW.pt (pw_or (pt_val (pe_callB (k_isi (K := K) (by rfl)) (by rfl) T.z_isinstance (by decide +kernel) (pa_cons (pv 1) (pa_cons (pe_bltn (v := .ty "bool") (u := .type "bool") (by rfl) T.z_bool (by decide +kernel) rfl) pa_nil)))) (pw_or1 (pt_val (pe_callB (k_isi (K := K) (by rfl)) (by rfl) T.z_isinstance (by decide +kernel) (pa_cons (pv 0) (pa_cons (pe_bltn (v := .ty "bool") (u := .type "bool") (by rfl) T.z_bool (by decide +kernel) rfl) pa_nil)))))))
    (pss_one (ps_ret (pe_and (pe_callB (k_isi (K := K) (by rfl)) (by rfl) T.z_isinstance (by decide +kernel) (pa_cons (pv 0) (pa_cons (pe_bltn (v := .ty "bool") (u := .type "bool") (by rfl) T.z_bool (by decide +kernel) rfl) pa_nil))) (pe_and (pe_callB (k_isi (K := K) (by rfl)) (by rfl) T.z_isinstance (by decide +kernel) (pa_cons (pv 1) (pa_cons (pe_bltn (v := .ty "bool") (u := .type "bool") (by rfl) T.z_bool (by decide +kernel) rfl) pa_nil))) (pe_one (pe_cmpR op_eq (pv 0) (pv 1) (nomark _)))))))
    pss_nil)
    (pss_cons (ps_if (pt_val (pe_callB (k_isi (K := K) (by rfl)) (by rfl) T.z_isinstance (by decide +kernel) (pa_cons (pv 1) (pa_cons (pe_bltn (v := .ty "str") (u := .type "str") (by rfl) T.z_str (by decide +kernel) rfl) pa_nil))))
    (pss_one (ps_ret (pe_and (pe_callB (k_isi (K := K) (by rfl)) (by rfl) T.z_isinstance (by decide +kernel) (pa_cons (pv 0) (pa_cons (pe_bltn (v := .ty "str") (u := .type "str") (by rfl) T.z_str (by decide +kernel) rfl) pa_nil))) (pe_one (pe_cmpR op_eq (pv 0) (pv 1) (nomark _))))))
    pss_nil)
    (pss_one (ps_ret (pe_and (pe_callB (k_isi (K := K) (by rfl)) (by rfl) T.z_isinstance (by decide +kernel) (pa_cons (pv 0) (pa_cons (pe_bltn (v := .ty "int") (u := .type "int") (by rfl) T.z_int (by decide +kernel) rfl) pa_nil))) (pe_one (pe_cmpR op_eq (pv 0) (pv 1) (nomark _)))))))))), ?_⟩
    rw [show L2.start N__law_like [x, y] = [some x, some y, none, none] from rfl]
    cases d with
    | none =>
      cases hx
      cases hy
      walk_at "go"
      exact q _ (same_new (by assumption))
    | bool b =>
      cases hx
      cases hy
      walk_at "go"
      rw [decide_eq_true rfl]
      exact q _ (same_new (by assumption))
    | int b =>
      cases hx
      cases hy
      walk_at "go"
      rw [decide_eq_true rfl]
      exact q _ (same_new (by assumption))
    | str b =>
      cases hx
      cases hy
      walk_at "go"
      rw [decide_eq_true rfl]
      exact q _ (same_new (by assumption))
    | dict kvs => cases hx
    | list ds =>
      cases hx with
      | @lst a xs _ ha hda =>
        cases hy with
        | @lst b ys _ hb hdb =>
          walk_at "go"
          rename_i pt hpt
          have hl : xs.length = ys.length := (dpAll_len hda).trans (dpAll_len hdb).symm
          have hs2 : (decide (ds.length ≤ 1000) && smallAll ds) = true := hs
          rw [Bool.and_eq_true] at hs2
          have hl2 : ds.length ≤ 1000 := of_decide_eq_true hs2.1
          have hl3 := dpAll_len hda
          have hdep : PyData.depthAll ds + 1 ≤ n + 1 := hd
          refine g_iteY (by omega) ?_
          walk_at "go"
          refine g_zipL (by walk_at "l") (by walk_at "l") ?_
          have s1 : Same H (upd H pt (.tup [V.ty "list", V.ty "tuple"])) := same_new hpt
          generalize upd H pt (.tup [V.ty "list", V.ty "tuple"]) = H1 at s1 ⊢
          refine lcZ hl (σ0 := [some (.ref a), some (.ref b), none, none]) rfl fun D hD => ⟨fun i H' => H' D = some (.lst ((List.replicate i true).map V.bl)) ∧ Chg D H1 H', ⟨upd_same, Chg.upd⟩, ?_, ?_, ?_⟩
          · rintro i H' ⟨e1, c1⟩
            have s := s1.trans (chg_same c1 hD)
            exact ⟨sqL_sm s ha, sqL_sm s hb⟩
          · rintro i x y T H' hx hy ⟨e1, c1⟩ hT
            obtain ⟨d1, hd1, px⟩ := dpAll_at hda hx
            obtain ⟨d2, hd2, py⟩ := dpAll_at hdb hy
            obtain rfl : d1 = d2 := Option.some.inj (hd1.symm.trans hd2)
            have s2 : Same H (upd H' T (.tup [x, y])) := (s1.trans (chg_same c1 hD)).trans (same_new hT)
            have hlt : i < xs.length := (List.getElem?_eq_some_iff.mp hx).1
            have mem := List.mem_of_getElem? hd1
            have nT : T ≠ D := Ne.symm (ne_of_none e1 hT)
            walk_at "go"
            refine g_likeD (dp_same s2 px) (dp_same s2 py) (by have := PyData.depth_le_depthAll ds d1 mem; omega) (smallAll_mem hs2.2 mem) fun H3 s3 => ?_
            have e3 : H3 D = some (.lst ((List.replicate i true).map V.bl)) := by walk_at "h"
            refine g_turnD e3 (by rw [List.length_map, List.length_replicate]; omega) ⟨?_, by walk_at "chg"⟩
            rw [upd_same, List.replicate_succ', List.map_append]
            rfl
          · rintro H' ⟨e1, c1⟩
            walk_at "go"
            rw [all_rep]
            exact q _ (s1.trans (chg_same c1 hD))

    | tuple ds =>
      cases hx with
      | @tup a xs _ ha hda =>
        cases hy with
        | @tup b ys _ hb hdb =>
          walk_at "go"
          rename_i pt hpt
          have hl : xs.length = ys.length := (dpAll_len hda).trans (dpAll_len hdb).symm
          have hs2 : (decide (ds.length ≤ 1000) && smallAll ds) = true := hs
          rw [Bool.and_eq_true] at hs2
          have hl2 : ds.length ≤ 1000 := of_decide_eq_true hs2.1
          have hl3 := dpAll_len hda
          have hdep : PyData.depthAll ds + 1 ≤ n + 1 := hd
          refine g_iteY (by omega) ?_
          walk_at "go"
          refine g_zipT (by walk_at "t") (by walk_at "t") ?_
          have s1 : Same H (upd H pt (.tup [V.ty "list", V.ty "tuple"])) := same_new hpt
          generalize upd H pt (.tup [V.ty "list", V.ty "tuple"]) = H1 at s1 ⊢
          refine lcZT hl (σ0 := [some (.ref a), some (.ref b), none, none]) rfl fun D hD => ⟨fun i H' => H' D = some (.lst ((List.replicate i true).map V.bl)) ∧ Chg D H1 H', ⟨upd_same, Chg.upd⟩, ?_, ?_, ?_⟩
          · rintro i H' ⟨e1, c1⟩
            have s := s1.trans (chg_same c1 hD)
            exact ⟨seqT_same s ha, seqT_same s hb⟩
          · rintro i x y T H' hx hy ⟨e1, c1⟩ hT
            obtain ⟨d1, hd1, px⟩ := dpAll_at hda hx
            obtain ⟨d2, hd2, py⟩ := dpAll_at hdb hy
            obtain rfl : d1 = d2 := Option.some.inj (hd1.symm.trans hd2)
            have s2 : Same H (upd H' T (.tup [x, y])) := (s1.trans (chg_same c1 hD)).trans (same_new hT)
            have hlt : i < xs.length := (List.getElem?_eq_some_iff.mp hx).1
            have mem := List.mem_of_getElem? hd1
            have nT : T ≠ D := Ne.symm (ne_of_none e1 hT)
            walk_at "go"
            refine g_likeD (dp_same s2 px) (dp_same s2 py) (by have := PyData.depth_le_depthAll ds d1 mem; omega) (smallAll_mem hs2.2 mem) fun H3 s3 => ?_
            have e3 : H3 D = some (.lst ((List.replicate i true).map V.bl)) := by walk_at "h"
            refine g_turnD e3 (by rw [List.length_map, List.length_replicate]; omega) ⟨?_, by walk_at "chg"⟩
            rw [upd_same, List.replicate_succ', List.map_append]
            rfl
          · rintro H' ⟨e1, c1⟩
            walk_at "go"
            rw [all_rep]
            exact q _ (s1.trans (chg_same c1 hD))

end

set_option Elab.async false
set_option linter.all false
set_option maxRecDepth 100000
set_option maxHeartbeats 4000000
open PySem PySem.Spec L2

section
variable {P : Program} {w : World} {K : PySem.W.Frag} {mg : Str → Option Value} {base : Heap}
theorem g_drawB {B : Int} {a l : Addr} {size : Int} {H : Hp} {Q : VK} {E : XK} (hB : Bag H a l) (h1 : 1 ≤ size ∧ size ≤ B) (q : ∀ (r : Int) (H' : Hp), 0 ≤ r → r < size → Bag H' a l → Chg a H H' → Q (.int r) H') :
    spDraw B [.ref a, .int size] H Q E := ⟨a, l, size, rfl, hB, h1.1, h1.2, q⟩
theorem bag_new {H : Hp} {a l p : Addr} {o : HO} (h : Bag H a l) (hp : H p = none) : Bag (L2.upd H p o) a l := by
  obtain ⟨ns, i, g, m, c, hB, hl, r⟩ := h
  exact ⟨ns, i, g, m, c, h_ne (ne_of_none hB hp) hB, h_ne (ne_of_none hl hp) hl, r⟩
theorem bag_sm {H H' : Hp} {a l : Addr} (h : Bag H a l) (s : Same H H') : Bag H' a l := by
  obtain ⟨ns, i, g, m, c, hB, hl, r⟩ := h
  exact ⟨ns, i, g, m, c, s _ _ hB, s _ _ hl, r⟩
theorem bag_chg {H : Hp} {a l D : Addr} {o : HO} (h : Bag H a l) (h1 : D ≠ a) (h2 : D ≠ l) : Bag (L2.upd H D o) a l := by
  obtain ⟨ns, i, g, m, c, hB, hl, r⟩ := h
  exact ⟨ns, i, g, m, c, h_ne (Ne.symm h1) hB, h_ne (Ne.symm h2) hl, r⟩
theorem bag_apart {H : Hp} {a l D : Addr} (h : Bag H a l) (hD : H D = none) : D ≠ a ∧ D ≠ l := by
  obtain ⟨ns, i, g, m, c, hB, hl, r⟩ := h
  exact ⟨Ne.symm (ne_of_none hB hD), Ne.symm (ne_of_none hl hD)⟩
theorem ne_bag {H : Hp} {a l p : Addr} (h : Bag H a l) (hp : H p = none) : p ≠ a := by
  obtain ⟨ns, i, g, m, c, hB, _⟩ := h
  exact Ne.symm (ne_of_none hB hp)
theorem ok_drawN {n : Nat} {B B2 : Int} (hb1 : 1000000 ≤ B) (hb2 : B2 < B * 1000000) (hb3 : B2 ≤ 100000000000000000000000000000000000000000) {f : Addr} {fd : FuncData} (T : Top K mg) (C__law_draw : Cal P w K mg base "_law_draw" (n + 1) P__law_draw (spDraw B)) (F : FnP K "_law_draw" s__law_draw f fd) :
    FnOk P w K mg base CX0 (n + 2) f fd P__law_draw (spDraw B2) := by
  refine F.ok sc__law_draw (fun vs H Q E h => ?_) (fun cdv A outer s H vs Q E hr h => ?_)
  · obtain ⟨a, l, size, rfl, _⟩ := h
    rfl
  · obtain ⟨a, l, size, rfl, ⟨ns, i, g, m, c, hB, hl, hla, hi, hg, hm, hm', hc⟩, h1, h2, q⟩ := h
    refine ⟨_, PSs.nox (C8.pss_cut (ps_asg (pe_op op_add (pe_ix (k_ix (K := K) (by rfl)) (pv 0) pe_int (fun _ _ => rfl)) pe_int) (pg_sub (pv 0) pe_int set_list))
    (C8.pss_cut (ps_if (PW.pt (pw_and (pt_cmpR op_eq (pe_ix (k_ix (K := K) (by rfl)) (pv 0) pe_int (fun _ _ => rfl)) pe_int (nomark _)) (pw_and1 (pt_cmpR op_lt (pe_ix (k_ix (K := K) (by rfl)) (pv 0) pe_int (fun _ _ => rfl)) (pe_callB (k_len (K := K) (by rfl)) (by rfl) T.z_len (by decide +kernel) (pa_cons (pe_ix (k_ix (K := K) (by rfl)) (pv 0) pe_int (fun _ _ => rfl)) pa_nil)) (nomark _)))))
    (pss_cons (ps_set (i := 2) sc__law_draw.nd rfl (by first | exact Or.inl rfl | exact Or.inr rfl) (pe_ix (k_ix (K := K) (by rfl)) (pe_ix (k_ix (K := K) (by rfl)) (pv 0) pe_int (fun _ _ => rfl)) (pe_ix (k_ix (K := K) (by rfl)) (pv 0) pe_int (fun _ _ => rfl)) (fun _ _ => rfl)))
    (pss_cons (ps_asg (pe_op op_add (pe_ix (k_ix (K := K) (by rfl)) (pv 0) pe_int (fun _ _ => rfl)) pe_int) (pg_sub (pv 0) pe_int set_list))
    (pss_one (ps_if (pt_cmpR op_ge (pv 2) (pe_op op_pow pe_int pe_int) (nomark _))
    (pss_one (ps_asg (pv 2) (pg_sub (pv 0) pe_int set_list)))
    (pss_one (ps_asg (pe_op op_mod (pe_callTy c_int (by rfl) T.z_int (by decide +kernel) (pa_cons (pe_op op_add (pe_op op_add (pe_op op_mul (pe_ix (k_ix (K := K) (by rfl)) (pv 0) pe_int (fun _ _ => rfl)) pe_int) (pe_op op_mul (pe_op op_mod (pe_callTy c_int (by rfl) T.z_int (by decide +kernel) (pa_cons (pv 2) pa_nil)) pe_int) pe_int)) pe_int) pa_nil)) pe_int) (pg_sub (pv 0) pe_int set_list)))))))
    pss_nil)
    (pss_cons (ps_if (pt_cmpR op_gt (pe_ix (k_ix (K := K) (by rfl)) (pv 0) pe_int (fun _ _ => rfl)) pe_int (nomark _))
    (pss_cons (ps_set (i := 3) sc__law_draw.nd rfl (by first | exact Or.inl rfl | exact Or.inr rfl) (pe_op op_mod (pe_callTy c_int (by rfl) T.z_int (by decide +kernel) (pa_cons (pe_ix (k_ix (K := K) (by rfl)) (pv 0) pe_int (fun _ _ => rfl)) pa_nil)) (pv 1)))
    (pss_cons (ps_asg (pe_op op_fdivW (pe_ix (k_ix (K := K) (by rfl)) (pv 0) pe_int (fun _ _ => rfl)) (pv 1)) (pg_sub (pv 0) pe_int set_list))
    (pss_one (ps_ret (pv 3)))))
    pss_nil)
    (pss_cons (ps_if (pt_cmpR op_gt (pv 1) (pe_op op_pow pe_int pe_int) (nomark _))
    (pss_one (ps_ret (pe_op op_mod (pe_callTy c_int (by rfl) T.z_int (by decide +kernel) (pa_cons (pe_op op_add (pe_op op_mul (pe_cal C__law_draw (hr.mono (by first | decide | omega)) (by rfl) (pa_cons (pv 0) (pa_cons (pe_op op_add (pe_op op_fdivW (pv 1) (pe_op op_pow pe_int pe_int)) pe_int) pa_nil))) (pe_op op_pow pe_int pe_int)) (pe_cal C__law_draw (hr.mono (by first | decide | omega)) (by rfl) (pa_cons (pv 0) (pa_cons (pe_op op_pow pe_int pe_int) pa_nil)))) pa_nil)) (pv 1))))
    pss_nil)
    (pss_cons (ps_set (i := 4) sc__law_draw.nd rfl (by first | exact Or.inl rfl | exact Or.inr rfl) (pe_ix (k_ix (K := K) (by rfl)) (pv 0) pe_int (fun _ _ => rfl)))
    (pss_cons (ps_asg (pe_op op_mod (pe_callTy c_int (by rfl) T.z_int (by decide +kernel) (pa_cons (pe_op op_add (pe_op op_add (pe_op op_add (pe_op op_mul (pe_op op_mul (pv 4) (pv 4)) pe_int) (pe_op op_mul (pv 4) pe_int)) (pe_op op_mul (pe_ix (k_ix (K := K) (by rfl)) (pv 0) pe_int (fun _ _ => rfl)) pe_int)) pe_int) pa_nil)) pe_int) (pg_sub (pv 0) pe_int set_list))
    (pss_one (ps_ret (pe_op op_mod (pe_callTy c_int (by rfl) T.z_int (by decide +kernel) (pa_cons (pe_op op_add (pe_op op_fdivW (pe_ix (k_ix (K := K) (by rfl)) (pv 0) pe_int (fun _ _ => rfl)) pe_int) (pe_op op_mul (pe_op op_mod (pe_callTy c_int (by rfl) T.z_int (by decide +kernel) (pa_cons (pe_ix (k_ix (K := K) (by rfl)) (pv 0) pe_int (fun _ _ => rfl)) pa_nil)) pe_int) pe_int)) pa_nil)) (pv 1)))))))))), ?_⟩
    try simp only [cxK]
    rw [show L2.start N__law_draw [V.ref a, V.int size] = [some (.ref a), some (.int size), none, none, none] from rfl]
    refine g_cut (fun σ' H' => σ' = [some (.ref a), some (.int size), none, none, none] ∧ ∃ c', H' = upd H a (.lst [V.ref l, V.int i, V.int g, V.int m, V.int c']) ∧ 0 ≤ c') ?_ ?_
    · walk_at "go"
      exact ⟨rfl, _, rfl, by omega⟩
    rintro σ' H' ⟨rfl, c', rfl, hc'⟩
    refine g_cut (fun σ' H' => ∃ x2, σ' = [some (.ref a), some (.int size), x2, none, none] ∧ ∃ i' g' m', H' a = some (.lst [V.ref l, V.int i', V.int g', V.int m', V.int c']) ∧
      0 ≤ i' ∧ 0 ≤ g' ∧ 0 ≤ m' ∧ m' < 2147483563 ∧ Chg a H H') ?_ ?_
    · walk_at "go"
      refine g_iteD (fun h3 => ?_) (fun h3 => ?_)
      · walk_at "go"
        refine g_iteD (fun h4 => ?_) (fun h4 => ?_)
        · have e : atI (ns.map V.int) i = some (.int (ns.getD i.toNat 0)) := by
            have z := atI_nat (xs := ns.map V.int) (j := i.toNat) (v := .int (ns.getD i.toNat 0)) (by
              rw [List.getElem?_map, List.getD_eq_getElem?_getD, List.getElem?_eq_getElem (by rw [List.length_map] at h4; omega)]; rfl)
            rwa [Int.toNat_of_nonneg hi] at z
          walk_at "go"
          refine g_iteD (fun h5 => ?_) (fun h5 => ?_)
          · walk_at "go"
            exact ⟨_, rfl, _, _, _, by walk_at "h", by omega, by omega, hm, hm', by walk_at "chg"⟩
          · walk_at "go"
            exact ⟨_, rfl, _, _, _, by walk_at "h", by omega, by omega, by omega, by omega, by walk_at "chg"⟩
        · walk_at "go"
          exact ⟨_, rfl, i, g, m, by walk_at "h", hi, hg, hm, hm', by walk_at "chg"⟩
      · walk_at "go"
        exact ⟨_, rfl, i, g, m, by walk_at "h", hi, hg, hm, hm', by walk_at "chg"⟩
    rintro σ' H' ⟨x2, rfl, i', g', m', hB', hi', hg', hm1, hm2, ch⟩
    have hl' : H' l = some (HO.lst (List.map V.int ns)) := by walk_at "h"
    walk_at "go"
    refine g_iteD (fun h3 => ?_) (fun h3 => ?_)
    · have hs : 0 < size := by omega
      have hd : CDivW g' size := wide_div (b := 200) hs (Nat.lt_of_le_of_lt (m := 100000000000000000000000000000000000000000) (by omega) (by decide)) (by decide) (by decide)
      walk_at "go"
      exact q _ _ (Int.emod_nonneg _ (by omega)) (Int.emod_lt_of_pos _ (by omega))
        ⟨ns, _, _, _, _, by walk_at "h", by walk_at "h", hla, hi', Int.ediv_nonneg hg' (by omega), hm1, hm2, hc'⟩ (by walk_at "chg")
    · have hs : 0 < size := by omega
      walk_at "go"
      refine g_iteD (fun h6 => ?_) (fun h6 => ?_)
      · have hBag : Bag H' a l := ⟨ns, _, _, _, _, by walk_at "h", by walk_at "h", hla, hi', hg', hm1, hm2, hc'⟩
        walk_at "go"
        have hq : size / 1000000 + 1 ≤ B := by omega
        refine g_drawB hBag ⟨by omega, by first | exact hq | omega⟩ fun r1 H1 r1a r1b B1 ch1 => ?_
        walk_at "go"
        refine g_drawB B1 ⟨by omega, by omega⟩ fun r2 H2 r2a r2b B2 ch2 => ?_
        walk_at "go"
        exact q _ _ (Int.emod_nonneg _ (by omega)) (Int.emod_lt_of_pos _ (by omega)) B2 (by walk_at "chg")
      walk_at "go"
      exact q _ _ (Int.emod_nonneg _ (by omega)) (Int.emod_lt_of_pos _ (by omega))
        ⟨ns, _, _, _, _, by walk_at "h", by walk_at "h", hla, hi', hg', by omega, by omega, hc'⟩ (by walk_at "chg")
theorem c_drawN {n : Nat} {B B2 : Int} (hb1 : 1000000 ≤ B) (hb2 : B2 < B * 1000000) (hb3 : B2 ≤ 100000000000000000000000000000000000000000) (T : Top K mg) (C : Cal P w K mg base "_law_draw" (n + 1) P__law_draw (spDraw B)) : Cal P w K mg base "_law_draw" (n + 2) P__law_draw (spDraw B2) := cal_mk T.f__law_draw (ok_drawN hb1 hb2 hb3 T C) (fun F => F.bindsN fun _ _ _ _ _ _ us hl => match us, hl with | [_, _], _ => rfl)
theorem c_draw2 (T : Top K mg) : Cal P w K mg base "_law_draw" 2 P__law_draw (spDraw 100000000000) := c_drawN (by decide) (by decide) (by decide) T (c_draw1 T)
theorem c_draw8 (T : Top K mg) : Cal P w K mg base "_law_draw" 8 P__law_draw (spDraw 100000000000000000000000000000000000000000) :=
  c_drawN (B := 1000000000000000000000000000000000000) (by decide) (by decide) (by decide) T (c_drawN (B := 10000000000000000000000000000000) (by decide) (by decide) (by decide) T (c_drawN (B := 100000000000000000000000000) (by decide) (by decide) (by decide) T
    (c_drawN (B := 1000000000000000000000) (by decide) (by decide) (by decide) T (c_drawN (B := 10000000000000000) (by decide) (by decide) (by decide) T (c_drawN (B := 100000000000) (by decide) (by decide) (by decide) T (c_draw2 T))))))
/-! _law_of -/
def spOf : Sp := fun vs H Q _ => ∃ (a l t : Addr) (xs : List V), vs = [.ref a, .ref t] ∧ Bag H a l ∧ H t = some (.lst xs) ∧ t ≠ a ∧ (1 ≤ xs.length ∧ xs.length ≤ 1000000) ∧
  ∀ (x : V) (H' : Hp), x ∈ xs → Bag H' a l → Chg a H H' → Q x H'
theorem g_of {a l t : Addr} {xs : List V} {H : Hp} {Q : VK} {E : XK} (hB : Bag H a l) (ht : H t = some (.lst xs)) (n : t ≠ a) (hl : 1 ≤ xs.length ∧ xs.length ≤ 1000000)
    (q : ∀ (x : V) (H' : Hp), x ∈ xs → Bag H' a l → Chg a H H' → Q x H') : spOf [.ref a, .ref t] H Q E := ⟨a, l, t, xs, rfl, hB, ht, n, hl, q⟩
theorem ok_of {f : Addr} {fd : FuncData} (T : Top K mg) (F : FnP K "_law_of" s__law_of f fd) : FnOk P w K mg base CX0 2 f fd P__law_of spOf := by
  have C__law_draw : Cal P w K mg base "_law_draw" 1 P__law_draw (spDraw 1000000) := c_draw1 T
  refine F.ok sc__law_of (fun vs H Q E h => ?_) (fun cdv A outer s H vs Q E hr h => ?_)
  · obtain ⟨a, l, t, xs, rfl, _⟩ := h
    rfl
  · obtain ⟨a, l, t, xs, rfl, hB, ht, hn, hl, q⟩ := h
    refine ⟨_, PSs.nox (pss_one (ps_ret (pe_ix (k_ix (K := K) (by rfl)) (pv 1) (pe_cal C__law_draw (hr.mono (by first | decide | omega)) (by rfl) (pa_cons (pv 0) (pa_cons (pe_callB (k_len (K := K) (by rfl)) (by rfl) T.z_len (by decide +kernel) (pa_cons (pv 1) pa_nil)) pa_nil))) (fun _ _ => rfl)))), ?_⟩
    try simp only [cxK]
    rw [show L2.start N__law_of [V.ref a, V.ref t] = [some (.ref a), some (.ref t)] from rfl]
    walk_at "go"
    refine g_drawB hB ⟨by omega, by omega⟩ fun r H1 ra rb B1 ch1 => ?_
    have e : atI xs r = some (xs.getD r.toNat .non) := by
      have z := atI_nat (xs := xs) (j := r.toNat) (v := xs.getD r.toNat .non) (by
        rw [List.getD_eq_getElem?_getD, List.getElem?_eq_getElem (by omega)]; rfl)
      rwa [Int.toNat_of_nonneg ra] at z
    walk_at "go"
    refine q _ _ ?_ B1 ch1
    rw [List.getD_eq_getElem?_getD, List.getElem?_eq_getElem (by omega)]
    exact List.getElem_mem _
theorem c_of (T : Top K mg) : Cal P w K mg base "_law_of" 2 P__law_of spOf := cal_mk T.f__law_of (ok_of T) (fun F => F.bindsN fun _ _ _ _ _ _ us hl => match us, hl with | [_, _], _ => rfl)
/-! _law_bag -/
def spBag (K : PySem.W.Frag) : Sp := fun vs H Q _ => ∃ (a : Addr) (ns : List Int), vs = [.ref a] ∧ SqL K H a (ns.map V.int) ∧ ∀ (p l : Addr) (H' : Hp), Bag H' p l → H p = none → Same H H' → Q (.ref p) H'
theorem ok_bag {f : Addr} {fd : FuncData} (T : Top K mg) (F : FnP K "_law_bag" s__law_bag f fd) : FnOk P w K mg base CX0 1 f fd P__law_bag (spBag K) := by
  refine F.ok sc__law_bag (fun vs H Q E h => ?_) (fun cdv A outer s H vs Q E hr h => ?_)
  · obtain ⟨a, ns, rfl, _⟩ := h
    rfl
  · obtain ⟨a, ns, rfl, hS, q⟩ := h
    refine ⟨_, PSs.nox (pss_cons (ps_set (i := 1) sc__law_bag.nd rfl (by first | exact Or.inl rfl | exact Or.inr rfl) pe_int)
    (pss_cons (ps_for PassesOwn.never rfl (k_pil (K := K) (by rfl) (pe_slice (k_sl (K := K) (by rfl)) (pv 0) po_none (po_some pe_int))) (pg_name (i := 2) sc__law_bag.nd rfl (by first | exact Or.inl rfl | exact Or.inr rfl))
    (pss_one (ps_set (i := 1) sc__law_bag.nd rfl (by first | exact Or.inl rfl | exact Or.inr rfl) (pe_op op_mod (pe_callTy c_int (by rfl) T.z_int (by decide +kernel) (pa_cons (pe_op op_add (pe_op op_add (pe_op op_mul (pv 1) pe_int) (pe_op op_mod (pe_callTy c_int (by rfl) T.z_int (by decide +kernel) (pa_cons (pv 2) pa_nil)) pe_int)) pe_int) pa_nil)) pe_int))))
    (pss_one (ps_ret (pe_lst (pa_cons (pe_callTy (k_list (K := K) (by rfl)) (by rfl) T.z_list (by decide +kernel) (pa_cons (pe_slice (k_sl (K := K) (by rfl)) (pv 0) po_none (po_some pe_int)) pa_nil)) (pa_cons pe_int (pa_cons pe_int (pa_cons (pv 1) (pa_cons pe_int pa_nil)))))))))), ?_⟩
    try simp only [cxK]
    rw [show L2.start N__law_bag [V.ref a] = [some (.ref a), none, none] from rfl]
    walk_at "go"
    rename_i p hp
    have ec : cutV (ns.map V.int) none (some 63) = (ns.take 63).map V.int := by
      unfold cutV
      rw [HT.sIx_none, show HT.sIx (ns.map V.int).length (ns.map V.int).length (some 63) = min 63 (ns.map V.int).length from HT.sIx_nat _ _ 63]
      rw [List.drop_zero, Nat.sub_zero, ← List.map_take]
      congr 1
      rw [List.length_map]
      rcases Nat.le_total 63 ns.length with z | z
      · rw [Nat.min_eq_left z]
      · rw [Nat.min_eq_right z, List.take_length, List.take_of_length_le z]
    rw [ec]
    have s1 : Same H (upd H p (.lst ((ns.take 63).map V.int))) := same_new hp
    refine forL (xs := (ns.take 63).map V.int) ⟨fun i σ' H' => ∃ m y, σ' = [some (.ref a), some (.int m), y] ∧ 0 ≤ m ∧ m < 2147483563 ∧ H' = upd H p (.lst ((ns.take 63).map V.int)), ⟨_, _, rfl, by decide, by decide, rfl⟩, ?_, ?_, ?_⟩
    · rintro i σ' H' _ ⟨m, y, rfl, _, _, rfl⟩
      exact SqL.of upd_same
    · rintro i x σ' H' hx ⟨m, y, rfl, hm, hm', rfl⟩
      rw [List.getElem?_map, Option.map_eq_some_iff] at hx
      obtain ⟨n, _, rfl⟩ := hx
      walk_at "go"
      exact ⟨_, _, rfl, by omega, by omega, rfl⟩
    · rintro σ' H' ⟨m, y, rfl, hm, hm', rfl⟩
      have hS1 : SqL K (upd H p (.lst ((ns.take 63).map V.int))) a (ns.map V.int) := s1.seq hS
      walk_at "go"
      rename_i p2 hp2 p3 hp3 p1 hp1
      rw [ec] at *
      have s2 := same_new hp2 (o := .lst ((ns.take 63).map V.int))
      have s3 := same_new hp3 (o := .lst ((ns.take 63).map V.int))
      have s4 := same_new hp1 (o := .lst [V.ref p3, V.int 0, V.int 0, V.int m, V.int 0])
      refine q p1 p3 _ ⟨ns.take 63, 0, 0, m, 0, upd_same, s4 _ _ upd_same, ?_, by decide, by decide, hm, hm', by decide⟩ (((s1.trans s2).trans s3).free hp1) (((s1.trans s2).trans s3).trans s4)
      exact ne_of_none upd_same hp1
theorem c_bag (T : Top K mg) : Cal P w K mg base "_law_bag" 1 P__law_bag (spBag K) := cal_mk T.f__law_bag (ok_bag T) (fun F => F.bindsN fun _ _ _ _ _ _ us hl => match us, hl with | [_], _ => rfl)
/-! _law_like -/
theorem ok_like0 {f : Addr} {fd : FuncData} (T : Top K mg) (F : FnP K "_law_like" s__law_like f fd) : FnOk P w K mg base CX0 1 f fd P__law_like (spLike K 0) := by
  refine F.ok sc__law_like (fun vs H Q E h => ?_) (fun cdv A outer s H vs Q E hr h => ?_)
  · obtain ⟨x, y, d, rfl, _⟩ := h
    rfl
  · obtain ⟨x, y, d, rfl, hx, hy, hd, hs, q⟩ := h
    refine ⟨_, PSs.nox (pss_cons (ps_if (pt_val (pe_callB (k_isiT (K := K) (by rfl)) (by rfl) T.z_isinstance (by decide +kernel) (pa_cons (pv 1) (pa_cons (pe_tup (pa_cons (pe_bltn (v := .ty "list") (u := .type "list") (by rfl) T.z_list (by decide +kernel) rfl) (pa_cons (pe_bltn (v := .ty "tuple") (u := .type "tuple") (by rfl) T.z_tuple (by decide +kernel) rfl) pa_nil))) pa_nil))))
    pss_never
    pss_nil)
    (pss_cons (ps_if (PW.pt (pw_or (pt_cmpR o_isN (pv 1) pe_non (nomark _)) (pw_or1 (pt_cmpR o_isN (pv 0) pe_non (nomark _)))))
    (pss_one (ps_ret (pe_and (pe_cmpR o_isN (pv 1) pe_non (nomark _)) (pe_one (pe_cmpR o_isN (pv 0) pe_non (nomark _))))))
    pss_nil)
    (pss_cons (ps_if (PW.pt (pw_or (pt_val (pe_callB (k_isi (K := K) (by rfl)) (by rfl) T.z_isinstance (by decide +kernel) (pa_cons (pv 1) (pa_cons (pe_bltn (v := .ty "bool") (u := .type "bool") (by rfl) T.z_bool (by decide +kernel) rfl) pa_nil)))) (pw_or1 (pt_val (pe_callB (k_isi (K := K) (by rfl)) (by rfl) T.z_isinstance (by decide +kernel) (pa_cons (pv 0) (pa_cons (pe_bltn (v := .ty "bool") (u := .type "bool") (by rfl) T.z_bool (by decide +kernel) rfl) pa_nil)))))))
    (pss_one (ps_ret (pe_and (pe_callB (k_isi (K := K) (by rfl)) (by rfl) T.z_isinstance (by decide +kernel) (pa_cons (pv 0) (pa_cons (pe_bltn (v := .ty "bool") (u := .type "bool") (by rfl) T.z_bool (by decide +kernel) rfl) pa_nil))) (pe_and (pe_callB (k_isi (K := K) (by rfl)) (by rfl) T.z_isinstance (by decide +kernel) (pa_cons (pv 1) (pa_cons (pe_bltn (v := .ty "bool") (u := .type "bool") (by rfl) T.z_bool (by decide +kernel) rfl) pa_nil))) (pe_one (pe_cmpR op_eq (pv 0) (pv 1) (nomark _)))))))
    pss_nil)
    (pss_cons (ps_if (pt_val (pe_callB (k_isi (K := K) (by rfl)) (by rfl) T.z_isinstance (by decide +kernel) (pa_cons (pv 1) (pa_cons (pe_bltn (v := .ty "str") (u := .type "str") (by rfl) T.z_str (by decide +kernel) rfl) pa_nil))))
    (pss_one (ps_ret (pe_and (pe_callB (k_isi (K := K) (by rfl)) (by rfl) T.z_isinstance (by decide +kernel) (pa_cons (pv 0) (pa_cons (pe_bltn (v := .ty "str") (u := .type "str") (by rfl) T.z_str (by decide +kernel) rfl) pa_nil))) (pe_one (pe_cmpR op_eq (pv 0) (pv 1) (nomark _))))))
    pss_nil)
    (pss_one (ps_ret (pe_and (pe_callB (k_isi (K := K) (by rfl)) (by rfl) T.z_isinstance (by decide +kernel) (pa_cons (pv 0) (pa_cons (pe_bltn (v := .ty "int") (u := .type "int") (by rfl) T.z_int (by decide +kernel) rfl) pa_nil))) (pe_one (pe_cmpR op_eq (pv 0) (pv 1) (nomark _)))))))))), ?_⟩
    rw [show L2.start N__law_like [x, y] = [some x, some y, none, none] from rfl]
    cases d with
    | none =>
      cases hx
      cases hy
      walk_at "go"
      exact q _ (same_new (by assumption))
    | bool b =>
      cases hx
      cases hy
      walk_at "go"
      rw [decide_eq_true rfl]
      exact q _ (same_new (by assumption))
    | int b =>
      cases hx
      cases hy
      walk_at "go"
      rw [decide_eq_true rfl]
      exact q _ (same_new (by assumption))
    | str b =>
      cases hx
      cases hy
      walk_at "go"
      rw [decide_eq_true rfl]
      exact q _ (same_new (by assumption))
    | dict kvs => cases hx
    | list ds => exact absurd hd (by show ¬ PyData.depthAll ds + 1 ≤ 0; omega)
    | tuple ds => exact absurd hd (by show ¬ PyData.depthAll ds + 1 ≤ 0; omega)
theorem c_like (T : Top K mg) : ∀ n : Nat, Cal P w K mg base "_law_like" (n + 1) P__law_like (spLike K n)
  | 0 => cal_mk T.f__law_like (ok_like0 T) (fun F => F.bindsN fun _ _ _ _ _ _ us hl => match us, hl with | [_, _], _ => rfl)
  | n + 1 => cal_mk T.f__law_like (ok_like T (c_like T n)) (fun F => F.bindsN fun _ _ _ _ _ _ us hl => match us, hl with | [_, _], _ => rfl)
end

set_option Elab.async false
set_option linter.all false
set_option maxRecDepth 100000
set_option maxHeartbeats 4000000
open PySem PySem.Spec L2

local macro_rules | `(tactic| walk_at "s") => `(tactic| first
  | with_reducible refine' g_prop ?_
  | with_reducible refine' g_m1 ?_
  | with_reducible refine' g_m1R ?_
  | with_reducible refine' g_fmt ?_
  | with_reducible refine' g_jsC ?_
  | with_reducible refine' g_jsN ?_
  | with_reducible refine' g_mk ?_
  | with_reducible refine' g_methN ?_
  | with_reducible refine' g_iZm ?_
  | ((with_reducible refine' g_gLst ?k1 ?k2 ?_); (case k1 => walk_at "l"); (case k2 => rfl))
  | ((with_reducible refine' g_methN2 ?k1 ?k2 ?_); (case k1 => walk_at "h"); (case k2 => rfl))
  | ((with_reducible refine' g_methN3 ?k1 ?k2 ?k3 ?_); (case k1 => rfl); (case k2 => rfl); (case k3 => rfl))
  | with_reducible refine' g_brk ?_
  | with_reducible refine' g_cont ?_
  | with_reducible refine' g_iStr ?_
  | with_reducible refine' g_strR ?_
  | with_reducible refine' g_min2 ?_
  | with_reducible refine' g_max2 ?_
  | with_reducible refine' g_intB ?_)

local macro_rules | `(tactic| walk_at "s") => `(tactic| first
  | ((with_reducible refine' g_ownBin ?k1 ?k2 ?_); (case k1 => walk_at "h"); (case k2 => walk_at "h"))
  | ((with_reducible refine' g_ownUn ?k1 ?_); (case k1 => walk_at "h"))
  | ((with_reducible refine' g_isiO ?k1 ?k2 ?k3 ?k4 ?_); (case k1 => walk_at "h"); (case k2 => (with_reducible assumption)); (case k3 => (with_reducible assumption)); (case k4 => (with_reducible assumption)))
  | ((with_reducible refine' g_isiB ?k1 ?k2 ?_); (case k1 => walk_at "ty"); (case k2 => (with_reducible assumption)))
  | with_reducible refine' g_absN ?_
  | with_reducible refine' g_rev ?_
  | ((with_reducible refine' g_revR ?k1 ?_); (case k1 => walk_at "l"); intro p hp)
  | with_reducible refine' g_gcd ?_)

/-! words of numbers -/
theorem ofS (s : String) : Str.ofString s = sOf (s.toList.map Char.toNat) := Str.ofString_eq_toList s
theorem nat_word (n : Nat) : Str.ofString (toString n) = sOf (dg n) := by
  rw [ofS, Nat.toString_eq_repr, Nat.toList_repr]
  rfl
theorem int_word (n : Int) : Str.ofString (toString n) = sOf (wrd n) := by
  cases n with
  | ofNat m =>
    rw [show toString (Int.ofNat m) = toString m from rfl, nat_word]
    unfold wrd
    rw [if_neg (by simp)]
    rfl
  | negSucc m =>
    rw [show toString (Int.negSucc m) = "-" ++ toString (m + 1) from rfl, ofS, String.toList_append, List.map_append]
    rw [Nat.toString_eq_repr, Nat.toList_repr]
    unfold wrd
    rw [if_pos (Int.negSucc_lt_zero m)]
    rfl
theorem zf9 {r : Nat} (h : r < 10 ^ 9) : Txt.zfill (sOf (dg r)) 9 = sOf (pd 9 r) := by
  obtain ⟨h1, h2⟩ := dg_fill 9 r (by decide) h
  unfold Txt.zfill
  rw [sOf_len]
  by_cases e : (9 : Int) ≤ ((dg r).length : Int)
  · rw [if_pos e]
    have e2 : (dg r).length = 9 := by omega
    rw [e2] at h2
    rw [← h2]
    rfl
  · rw [if_neg e]
    have hd : ∃ c cs, dg r = c :: cs ∧ 48 ≤ c := by
      by_cases h10 : r < 10
      · exact ⟨_, _, dg_lt h10, by omega⟩
      · have : ∀ n, ∃ c cs, dg n = c :: cs ∧ 48 ≤ c := by
          intro n
          induction n using Nat.strongRecOn with
          | ind n ih =>
            by_cases h : n < 10
            · exact ⟨_, _, dg_lt h, by omega⟩
            · obtain ⟨c, cs, e, l⟩ := ih (n / 10) (by omega)
              exact ⟨c, cs ++ [48 + n % 10], by rw [dg_ge (by omega), e]; rfl, l⟩
        exact this r
    obtain ⟨c, cs, ec, hc⟩ := hd
    have hne1 : c ≠ 43 := by omega
    have hne2 : c ≠ 45 := by omega
    have e3 : PySem.zfilled (sOf (dg r)) ((9 : Int).toNat - (dg r).length) = Builtin.Str.padded (sOf (dg r)) ((9 : Int).toNat - (dg r).length) 0 48 := by
      unfold PySem.zfilled
      rw [ec]
      show (match (c :: cs).toArray[0]? with
        | some 43 => _
        | some 45 => _
        | _ => _) = _
      simp only [List.getElem?_toArray, List.getElem?_cons_zero]
      split
      · rename_i q; exact absurd (Option.some.inj q) hne1
      · rename_i q; exact absurd (Option.some.inj q) hne2
      · rfl
    rw [e3]
    unfold Builtin.Str.padded
    rw [← h2]
    show (⟨Array.replicate ((9 : Int).toNat - (dg r).length) 48 ++ (dg r).toArray ++ Array.replicate 0 48⟩ : Str) = ⟨(List.replicate (9 - (dg r).length) 48 ++ dg r).toArray⟩
    congr 1
    apply Array.ext'
    simp
/-- the groups so far (the later ones stand ahead), what is left -/
theorem grp_step {m : Nat} (gs : List (List Nat)) (n : Nat) (h : dg n = dg m ++ gs.reverse.flatten) (hm : 10 ^ 9 ≤ m) :
    dg n = dg (m / 10 ^ 9) ++ (gs ++ [pd 9 (m % 10 ^ 9)]).reverse.flatten := by
  have e : m = m / 10 ^ 9 * 10 ^ 9 + m % 10 ^ 9 := by omega
  have s := dg_split 9 (m / 10 ^ 9) (m % 10 ^ 9) (Nat.div_pos hm (by decide)) (Nat.mod_lt _ (by decide))
  rw [← e] at s
  rw [h, s, List.reverse_append, List.append_assoc]
  rfl
section
variable {P : Program} {w : World} {K : PySem.W.Frag} {mg : Str → Option Value} {base : Heap}
def spWord : Sp := fun vs H Q _ => ∃ n : Int, vs = [.int n] ∧ n.natAbs < 2 ^ 1800 ∧ ∀ H', Same H H' → Q (.str (sOf (wrd n))) H'
theorem ok_word (T : Top K mg) {f : Addr} {fd : FuncData} (F : FnP K "number_word" s_number_word f fd) : FnOk P w K mg base CX0 1 f fd P_number_word spWord := by
  refine F.ok sc_number_word (fun vs H Q E h => ?_) (fun cdv A outer s H vs Q E hr h => ?_)
  · obtain ⟨n, rfl, _⟩ := h
    rfl
  · obtain ⟨n, rfl, hn, q⟩ := h
    refine ⟨_, PSs.nox (pss_cons (ps_set (i := 1) sc_number_word.nd rfl (by first | exact Or.inl rfl | exact Or.inr rfl) (pe_callB c_absN (by rfl) T.z_abs (by decide +kernel) (pa_cons (pv 0) pa_nil)))
    (pss_cons (ps_set (i := 2) sc_number_word.nd rfl (by first | exact Or.inl rfl | exact Or.inr rfl) (pe_lst pa_nil))
    (pss_cons (ps_while PassesOwn.never (pt_cmpR op_ge (pv 1) (C8.pe_gc (v := .int 1000000000) (by rfl) T.k_GROUP) (nomark _))
    (pss_cons (ps_asg (pe_callB call_divmodW (by rfl) T.z_divmod (by decide +kernel) (pa_cons (pv 1) (pa_cons (C8.pe_gc (v := .int 1000000000) (by rfl) T.k_GROUP) pa_nil))) (k_pgt (K := K) (n := 2) (by rfl) (by rfl) (pgs_cons (pg_name (i := 1) sc_number_word.nd rfl (by first | exact Or.inl rfl | exact Or.inr rfl)) (pgs_cons (pg_name (i := 3) sc_number_word.nd rfl (by first | exact Or.inl rfl | exact Or.inr rfl)) pgs_nil)) (by rfl) (by rfl)))
    (pss_one (ps_expr (pe_bm PySem.F.plainAttrs_list PySem.F.slot_list_append PySem.F.type_list_append mt_append (pv 2) (pa_cons (pe_m1 PySem.F.slot_str_zfill PySem.F.type_str_zfill mt_zfill (pe_callTy call_str_int (by rfl) T.z_str (by decide +kernel) (pa_cons (pv 3) pa_nil)) (C8.pe_gc (v := .int 9) (by rfl) T.k_GROUP_DIGITS)) pa_nil))))))
    (pss_cons (ps_expr (pe_bm PySem.F.plainAttrs_list PySem.F.slot_list_append PySem.F.type_list_append mt_append (pv 2) (pa_cons (pe_callTy call_str_int (by rfl) T.z_str (by decide +kernel) (pa_cons (pv 1) pa_nil)) pa_nil)))
    (pss_cons (ps_set (i := 4) sc_number_word.nd rfl (by first | exact Or.inl rfl | exact Or.inr rfl) (k_join (K := K) (by rfl) pe_str (k_revL (K := K) (by rfl) (pv 2))))
    (pss_one (ps_ret (pe_ifExp (pt_cmpR op_lt (pv 0) pe_int (nomark _)) (pe_joined (.cons pe_str (.cons (pe_fmt (pv 4)) .nil))) (pv 4))))))))), ?_⟩
    try simp only [cxK]
    rw [show L2.start N_number_word [V.int n] = [some (.int n), none, none, none, none] from rfl]
    walk_at "go"
    rename_i p hp
    refine g_while (fun m σ' H' => ∃ (rest : Nat) (gs : List (List Nat)) (y : Option V), σ' = [some (.int n), some (.int rest), some (.ref p), y, none] ∧ H' p = some (.lst (gs.map fun z => V.str (sOf z))) ∧ Same H H' ∧
      dg n.natAbs = dg rest ++ gs.reverse.flatten ∧ rest ≤ n.natAbs ∧ rest < 10 ^ (9 * m) ∧ gs.length + m = 200)
      ⟨200, n.natAbs, [], none, rfl, upd_same, same_new hp, by simp, Nat.le_refl _, Nat.lt_of_lt_of_le hn (by decide +kernel), rfl⟩ ?_
    rintro m σ' H' ⟨rest, gs, y, rfl, hL, sm, hd, hrn, hr1, hm⟩
    have hlen : (dg n.natAbs).length ≤ 1800 := by
      unfold dg
      rw [List.length_map]
      exact (Nat.length_toDigits_le_iff (by decide) (by decide)).mpr (Nat.lt_of_lt_of_le hn (by decide +kernel))
    walk_at "go"
    refine g_whB (fun h1 => ?_) (fun h1 => ?_)
    · have h2 : 10 ^ 9 ≤ rest := by omega
      have hm2 : 2 ≤ m := by
        rcases m with _ | _ | m
        · simp at hr1; omega
        · simp at hr1; omega
        · omega
      have e1 : (rest : Int) / 1000000000 = ((rest / 10 ^ 9 : Nat) : Int) := by omega
      have e2 : (rest : Int) % 1000000000 = ((rest % 10 ^ 9 : Nat) : Int) := by omega
      have hr9 : rest % 10 ^ 9 < 10 ^ 9 := Nat.mod_lt _ (by decide)
      have hb : Builtin.Int.intBits (rest : Int) ≤ Builtin.Int.intBits 1000000000 + 4000 := by
        have l : (rest : Int).natAbs.log2 < 1801 := PySem.Flt.log2_lt_of (k := 1801) (by decide) (Nat.lt_trans (Nat.lt_of_le_of_lt hrn hn) (Nat.pow_lt_pow_right (by decide) (by decide)))
        unfold Builtin.Int.intBits
        split <;> split <;> omega
      walk_at "go"
      refine ⟨_, _, rfl, divp_ok (by decide) hb, fun p2 hp2 => ?_⟩
      rw [e1, e2]
      walk_at "go"
      refine ⟨_, rfl, log_small hr9, ?_⟩
      rw [int_word]
      unfold wrd
      rw [if_neg (by omega), Int.natAbs_natCast]
      walk_at "go"
      refine ⟨_, _, rfl, rfl, rfl, ?_⟩
      rw [zf9 hr9]
      walk_at "go"
      have hL2 : upd H' p2 (.tup [V.int ((rest / 10 ^ 9 : Nat) : Int), V.int ((rest % 10 ^ 9 : Nat) : Int)]) p = some (.lst (gs.map fun z => V.str (sOf z))) := h_ne (ne_of_none hL hp2) hL
      refine g_app hL2 (by rw [List.length_map]; omega) ?_
      refine ⟨m - 1, by omega, rest / 10 ^ 9, gs ++ [pd 9 (rest % 10 ^ 9)], _, rfl, ?_, ?_, grp_step gs _ hd h2, by omega, ?_, ?_⟩
      · rw [List.map_append]
        exact upd_same
      · exact sm_putn (Same.lay sm hp2) hp
      · rw [show 9 * m = 9 * (m - 1) + 9 by omega, Nat.pow_add] at hr1
        exact Nat.div_lt_of_lt_mul (by rw [Nat.mul_comm]; exact hr1)
      · rw [List.length_append, List.length_cons, List.length_nil]
        omega
    · have h2 : rest < 10 ^ 9 := by omega
      walk_at "go"
      refine ⟨_, rfl, log_small h2, ?_⟩
      rw [int_word]
      unfold wrd
      rw [if_neg (by omega), Int.natAbs_natCast]
      walk_at "go"
      refine g_app hL (by rw [List.length_map]; omega) ?_
      walk_at "go"
      rename_i p2 hp2
      have eL : (gs.map (fun z => V.str (sOf z)) ++ [V.str (sOf (dg rest))]).reverse = (((gs ++ [dg rest]).reverse).map sOf).map V.str := by
        rw [List.map_map, List.map_reverse, List.map_append]
        rfl
      have eF : (gs ++ [dg rest]).reverse.flatten = dg n.natAbs := by
        rw [List.reverse_append, hd]
        rfl
      refine ⟨_, p2, ((gs ++ [dg rest]).reverse).map sOf, rfl, rfl, .inl (.of (by rw [← eL]; exact upd_same)), ?_, ?_⟩
      · rw [List.map_map, show (fun x : Str => x.length) ∘ sOf = List.length from funext sOf_len, ← List.length_flatten, eF, show (Str.ofString "").length = 0 from rfl, Nat.mul_zero]
        omega
      rw [show Str.ofString "" = sOf [] from rfl, join_e, eF]
      have sm2 := Same.lay (sm_putn sm hp (o := .lst (gs.map (fun z => V.str (sOf z)) ++ [V.str (sOf (dg rest))]))) hp2 (o := .lst (gs.map (fun z => V.str (sOf z)) ++ [V.str (sOf (dg rest))]).reverse)
      walk_at "go"
      refine g_iteD (fun h3 => ?_) (fun h3 => ?_)
      · walk_at "go"
        refine g_jR (sz_ok (by decide)) ?_
        walk_at "go"
        refine g_fmtS (sz_ok (by rw [sOf_len]; omega)) (g_jR (sz_ok (by rw [show Str.empty ++ Str.ofString "-" = sOf [45] from rfl, sOf_app, sOf_len, List.length_append]; simp; omega)) ?_)
        walk_at "go"
        rw [show Str.empty ++ Str.ofString "-" = sOf [45] from rfl, sOf_app]
        have z := q _ sm2
        unfold wrd at z
        rw [if_pos h3] at z
        exact z
      · walk_at "go"
        have z := q _ sm2
        unfold wrd at z
        rw [if_neg h3] at z
        exact z
theorem c_word (T : Top K mg) : Cal P w K mg base "number_word" 1 P_number_word spWord := cal_mk T.f_number_word (ok_word T) (fun F => F.bindsN fun _ _ _ _ _ _ us hl => match us, hl with | [_], _ => rfl)
end

set_option Elab.async false
set_option linter.all false
set_option maxRecDepth 100000
set_option maxHeartbeats 4000000
set_option exponentiation.threshold 5000
open PySem PySem.Spec L2



section
variable {P : Program} {w : World} {K : PySem.W.Frag} {mg : Str → Option Value} {base : Heap}
abbrev shF (t b : Int) : List (Str × V) := [("top", .int t), ("bottom", .int b)]
/-- a share: t / b -/
def Sh (K : PySem.W.Frag) (H : Hp) (p : Addr) (t b : Int) : Prop := ∃ dx, H p = some (.ins (CS K) dx (shF t b))
theorem Sh.sm {H H' : Hp} {p : Addr} {t b : Int} (h : Sh K H p t b) (s : Same H H') : Sh K H' p t b := by
  obtain ⟨dx, e⟩ := h
  exact ⟨dx, s _ _ e⟩
theorem Sh.chg {H H' : Hp} {a p : Addr} {t b : Int} (h : Sh K H p t b) (ne : p ≠ a) (c : Chg a H H') : Sh K H' p t b := by
  obtain ⟨dx, e⟩ := h
  exact ⟨dx, c _ _ ne e⟩
theorem gcd_le {n d : Int} (h : d ≠ 0) : Nat.gcd n.natAbs d.natAbs ≤ d.natAbs := Nat.le_of_dvd (Int.natAbs_pos.mpr h) (Nat.gcd_dvd_right _ _)
theorem cmn_c {n d m : Int} {k : Nat} (h : d ≠ 0) (hd : d.natAbs < 2 ^ k) (h0 : 0 < k) (h9 : k ≤ 9000) : CDivZ m (cmn n d) := div_z (cmn_ne h) (Nat.lt_of_le_of_lt (by rw [cmn_abs]; exact gcd_le h) hd) h0 h9
def spShare (K : PySem.W.Frag) : Sp := fun vs H Q _ => ∃ (x dx : Addr) (n d : Int), vs = [.ref x, .int n, .int d] ∧ H x = some (.ins (CS K) dx []) ∧ d ≠ 0 ∧ d.natAbs < 2 ^ 4000 ∧ Q .non (upd H x (.ins (CS K) dx (shF (nT n d) (nB n d))))
theorem ok_Share___init__ (T : Top K mg) {f : Addr} {fd : FuncData} (F : FunD K "__init__" "Share.__init__" (defArgs s_Share___init__) (defBody s_Share___init__) (defScope s_Share___init__) [.int 1] [] f fd) : FnOk P w K mg base CX0 1 f fd P_Share___init__ (spShare K) := by
  have cl_Share := T.cl_Share; have na_Share_top := T.na_Share_top; have na_Share_bottom := T.na_Share_bottom; have in_Share := T.in_Share; have ki_o_Share_o_Share := T.ki_o_Share_o_Share; have ki_int_o_Share := T.ki_int_o_Share; have ki_bool_o_Share := T.ki_bool_o_Share; have ki_NoneType_o_Share := T.ki_NoneType_o_Share; have ki_str_o_Share := T.ki_str_o_Share; have ki_list_o_Share := T.ki_list_o_Share; have ki_tuple_o_Share := T.ki_tuple_o_Share; have nf_Share_o_Share := T.nf_Share_o_Share; have nf_Share_int := T.nf_Share_int; have nf_Share_bool := T.nf_Share_bool; have nf_Share_NoneType := T.nf_Share_NoneType; have nf_Share_str := T.nf_Share_str; have nf_Share_list := T.nf_Share_list; have nf_Share_tuple := T.nf_Share_tuple
  refine F.ok sc_Share___init__ (fun vs H Q E h => ?_) (fun cdv A outer s H vs Q E hr h => ?_)
  · obtain ⟨x, dx, n, d, rfl, _⟩ := h
    rfl
  · obtain ⟨x, dx, n, d, rfl, hx, hd, hs, q⟩ := h
    refine ⟨_, PSs.nox (pss_cons (ps_set (i := 3) sc_Share___init__.nd rfl (by first | exact Or.inl rfl | exact Or.inr rfl) (pe_callBfun cr_gcd (by rfl) T.b_gcd (pa_cons (pv 1) (pa_cons (pv 2) pa_nil))))
    (pss_cons (ps_if (pt_cmpR op_lt (pv 2) pe_int (nomark _))
    (pss_one (ps_set (i := 3) sc_Share___init__.nd rfl (by first | exact Or.inl rfl | exact Or.inr rfl) (pe_un un_neg (pv 3))))
    pss_nil)
    (pss_cons (k_sfld (K := K) (by rfl) (pv 0) (pe_op op_fdivZ (pv 1) (pv 3)) rfl)
    (pss_one (k_sfld (K := K) (by rfl) (pv 0) (pe_op op_fdivZ (pv 2) (pv 3)) rfl))))), ?_⟩
    try simp only [cxK]
    rw [show L2.start N_Share___init__ [.ref x, .int n, .int d] = [some (.ref x), some (.int n), some (.int d), none] from rfl]
    walk_at "go"
    refine g_iteD (fun h1 => ?_) (fun h1 => ?_)
    · have e : -((Nat.gcd n.natAbs d.natAbs : Nat) : Int) = cmn n d := by unfold cmn; rw [if_pos h1]
      have c1 : CDivZ n (cmn n d) := cmn_c hd hs (by decide) (by decide)
      have c2 : CDivZ d (cmn n d) := cmn_c hd hs (by decide) (by decide)
      walk_at "go"
      rw [e]
      walk_at "go"
      rw [upd_upd]
      exact q
    · have e : ((Nat.gcd n.natAbs d.natAbs : Nat) : Int) = cmn n d := by unfold cmn; rw [if_neg h1]
      have c1 : CDivZ n (cmn n d) := cmn_c hd hs (by decide) (by decide)
      have c2 : CDivZ d (cmn n d) := cmn_c hd hs (by decide) (by decide)
      rw [e]
      walk_at "go"
      rw [upd_upd]
      exact q
theorem kk_Share_2_ (T : Top K mg) : MkK P w K mg base (He.ga K "Share") 1 2 [] (fun vs zs => pick [(0, 0), (0, 1), (0, 2)] vs ([.int 1] : List V) zs) (spShare K) := mkk_mk (ps := P_Share___init__) T.mk_Share T.f_Share___init__ (ok_Share___init__ T) (fun F => mkbD F 3 [] [(0, 0), (0, 1), (0, 2)] (by simp) fun _ _ _ _ _ _ _ us its ws l1 l2 l3 => match us, its, ws, l1, l2, l3 with | [_, _, _], [_], [], _, _, _ => ⟨_, rfl, rfl⟩)
theorem kk_Share_1_ (T : Top K mg) : MkK P w K mg base (He.ga K "Share") 1 1 [] (fun vs zs => pick [(0, 0), (0, 1), (1, 0)] vs ([.int 1] : List V) zs) (spShare K) := mkk_mk (ps := P_Share___init__) T.mk_Share T.f_Share___init__ (ok_Share___init__ T) (fun F => mkbD F 2 [] [(0, 0), (0, 1), (1, 0)] (by simp) fun _ _ _ _ _ _ _ us its ws l1 l2 l3 => match us, its, ws, l1, l2, l3 with | [_, _], [_], [], _, _, _ => ⟨_, rfl, rfl⟩)
theorem kk_Share_0_top (T : Top K mg) : MkK P w K mg base (He.ga K "Share") 1 0 ["top"] (fun vs zs => pick [(0, 0), (2, 0), (1, 0)] vs ([.int 1] : List V) zs) (spShare K) := mkk_mk (ps := P_Share___init__) T.mk_Share T.f_Share___init__ (ok_Share___init__ T) (fun F => mkbD F 1 ["top"] [(0, 0), (2, 0), (1, 0)] (by simp) fun _ _ _ _ _ _ _ us its ws l1 l2 l3 => match us, its, ws, l1, l2, l3 with | [_], [_], [_], _, _, _ => ⟨_, rfl, rfl⟩)
theorem kk_Share_0_bottom_top (T : Top K mg) : MkK P w K mg base (He.ga K "Share") 1 0 ["bottom", "top"] (fun vs zs => pick [(0, 0), (2, 1), (2, 0)] vs ([.int 1] : List V) zs) (spShare K) := mkk_mk (ps := P_Share___init__) T.mk_Share T.f_Share___init__ (ok_Share___init__ T) (fun F => mkbD F 1 ["bottom", "top"] [(0, 0), (2, 1), (2, 0)] (by simp) fun _ _ _ _ _ _ _ us its ws l1 l2 l3 => match us, its, ws, l1, l2, l3 with | [_], [_], [_, _], _, _, _ => ⟨_, rfl, rfl⟩)
theorem g_share {n m : Nat} {gV : List V → List V → List V} {vs zs : List V} {t b : Int} {H : Hp} {Q : VK} (h1 : vs.length = n) (h2 : zs.length = m) (e : ∀ x, gV (.ref x :: vs) zs = [.ref x, .int t, .int b]) (hd : b ≠ 0) (hs : b.natAbs < 2 ^ 4000)
    (q : ∀ r H', H r = none → Same H H' → Sh K H' r (nT t b) (nB t b) → Q (.ref r) H') : MkR (CS K) n m (spShare K) gV Q vs zs H :=
  g_mkR (ws := [.int t, .int b]) h1 h2 e fun x dx2 f1 f2 n12 => ⟨x, dx2, t, b, rfl, upd_same, hd, hs, rfl, by
    rw [upd_upd]
    refine q x _ f1 (fun c o eo => ?_) ⟨dx2, upd_same⟩
    rw [upd_ne (ne_of_none eo f1), upd_ne (ne_of_none eo f2)]
    exact eo⟩

def spAdd (K : PySem.W.Frag) : Sp := fun vs H Q _ => ∃ (p q : Addr) (t b u c : Int), vs = [.ref p, .ref q] ∧ Sh K H p t b ∧ Sh K H q u c ∧ (t.natAbs < 2 ^ 900 ∧ b.natAbs < 2 ^ 900 ∧ u.natAbs < 2 ^ 900 ∧ c.natAbs < 2 ^ 900) ∧ b * c ≠ 0 ∧
  ∀ r H', H r = none → Same H H' → Sh K H' r (nT (t * c + u * b) (b * c)) (nB (t * c + u * b) (b * c)) → Q (.ref r) H'
theorem ok_Share___add__ (T : Top K mg) {f : Addr} {fd : FuncData} (F : FunD K "__add__" "Share.__add__" (defArgs s_Share___add__) (defBody s_Share___add__) (defScope s_Share___add__) [] [] f fd) : FnOk P w K mg base CX0 3 f fd P_Share___add__ (spAdd K) := by
  have cl_Share := T.cl_Share; have na_Share_top := T.na_Share_top; have na_Share_bottom := T.na_Share_bottom; have in_Share := T.in_Share; have ki_o_Share_o_Share := T.ki_o_Share_o_Share; have ki_int_o_Share := T.ki_int_o_Share; have ki_bool_o_Share := T.ki_bool_o_Share; have ki_NoneType_o_Share := T.ki_NoneType_o_Share; have ki_str_o_Share := T.ki_str_o_Share; have ki_list_o_Share := T.ki_list_o_Share; have ki_tuple_o_Share := T.ki_tuple_o_Share; have nf_Share_o_Share := T.nf_Share_o_Share; have nf_Share_int := T.nf_Share_int; have nf_Share_bool := T.nf_Share_bool; have nf_Share_NoneType := T.nf_Share_NoneType; have nf_Share_str := T.nf_Share_str; have nf_Share_list := T.nf_Share_list; have nf_Share_tuple := T.nf_Share_tuple
  have KK_Share_2_ := kk_Share_2_ (P := P) (w := w) (base := base) T
  refine F.ok sc_Share___add__ (fun vs H Q E h => ?_) (fun cdv A outer s H vs Q E hr h => ?_)
  · obtain ⟨p, q, t, b, u, c, rfl, _⟩ := h
    rfl
  · obtain ⟨p, q, t, b, u, c, rfl, ⟨dx, hp⟩, ⟨dy, hq⟩, ⟨l1, l2, l3, l4⟩, hd, k⟩ := h
    refine ⟨_, PSs.nox (pss_cons (ps_if (pt_not (pt_val (pe_callB (k_isi (K := K) (by rfl)) (by rfl) T.z_isinstance (by decide +kernel) (pa_cons (pv 1) (pa_cons (pe_glob (v := .ref (He.ga K "Share")) (by rfl) T.g_Share rfl) pa_nil)))))
    (pss_one ps_never)
    pss_nil)
    (pss_one (ps_ret (pe_mkk T.g_Share KK_Share_2_ (hr.mono (by first | decide | omega)) (by rfl) (pa_cons (pe_op op_add (pe_op op_mulW (k_fld (K := K) (by rfl) (pv 0) rfl) (k_fld (K := K) (by rfl) (pv 1) rfl)) (pe_op op_mulW (k_fld (K := K) (by rfl) (pv 1) rfl) (k_fld (K := K) (by rfl) (pv 0) rfl))) (pa_cons (pe_op op_mulW (k_fld (K := K) (by rfl) (pv 0) rfl) (k_fld (K := K) (by rfl) (pv 1) rfl)) pa_nil)) pk_nil)))), ?_⟩
    try simp only [cxK]
    rw [show L2.start N_Share___add__ [.ref p, .ref q] = [some (.ref p), some (.ref q)] from rfl]
    have m1 : CMulW t c := mul_c l1 l4 (by decide) (by decide)
    have m2 : CMulW u b := mul_c l3 l2 (by decide) (by decide)
    have m3 : CMulW b c := mul_c l2 l4 (by decide) (by decide)
    have m4 : CMulW t u := mul_c l1 l3 (by decide) (by decide)
    have m5 : CMulW b u := mul_c l2 l3 (by decide) (by decide)
    walk_at "go"
    refine g_share rfl rfl (fun _ => rfl) hd ?_ k
    exact lt_pow (mul_lt l2 l4) (by decide)
theorem mc_Share___add__ (T : Top K mg) : MCal P w K mg base (CS K) "__add__" 3 P_Share___add__ (spAdd K) := mcal_mk T.me_Share___add__ T.f_Share___add__ (ok_Share___add__ T) (fun F => F.bindsN fun _ _ _ _ _ _ us hl => match us, hl with | [_, _], _ => rfl)

def spSub (K : PySem.W.Frag) : Sp := fun vs H Q _ => ∃ (p q : Addr) (t b u c : Int), vs = [.ref p, .ref q] ∧ Sh K H p t b ∧ Sh K H q u c ∧ (t.natAbs < 2 ^ 900 ∧ b.natAbs < 2 ^ 900 ∧ u.natAbs < 2 ^ 900 ∧ c.natAbs < 2 ^ 900) ∧ b * c ≠ 0 ∧
  ∀ r H', H r = none → Same H H' → Sh K H' r (nT (t * c - u * b) (b * c)) (nB (t * c - u * b) (b * c)) → Q (.ref r) H'
theorem ok_Share___sub__ (T : Top K mg) {f : Addr} {fd : FuncData} (F : FunD K "__sub__" "Share.__sub__" (defArgs s_Share___sub__) (defBody s_Share___sub__) (defScope s_Share___sub__) [] [] f fd) : FnOk P w K mg base CX0 3 f fd P_Share___sub__ (spSub K) := by
  have cl_Share := T.cl_Share; have na_Share_top := T.na_Share_top; have na_Share_bottom := T.na_Share_bottom; have in_Share := T.in_Share; have ki_o_Share_o_Share := T.ki_o_Share_o_Share; have ki_int_o_Share := T.ki_int_o_Share; have ki_bool_o_Share := T.ki_bool_o_Share; have ki_NoneType_o_Share := T.ki_NoneType_o_Share; have ki_str_o_Share := T.ki_str_o_Share; have ki_list_o_Share := T.ki_list_o_Share; have ki_tuple_o_Share := T.ki_tuple_o_Share; have nf_Share_o_Share := T.nf_Share_o_Share; have nf_Share_int := T.nf_Share_int; have nf_Share_bool := T.nf_Share_bool; have nf_Share_NoneType := T.nf_Share_NoneType; have nf_Share_str := T.nf_Share_str; have nf_Share_list := T.nf_Share_list; have nf_Share_tuple := T.nf_Share_tuple
  have KK_Share_2_ := kk_Share_2_ (P := P) (w := w) (base := base) T
  refine F.ok sc_Share___sub__ (fun vs H Q E h => ?_) (fun cdv A outer s H vs Q E hr h => ?_)
  · obtain ⟨p, q, t, b, u, c, rfl, _⟩ := h
    rfl
  · obtain ⟨p, q, t, b, u, c, rfl, ⟨dx, hp⟩, ⟨dy, hq⟩, ⟨l1, l2, l3, l4⟩, hd, k⟩ := h
    refine ⟨_, PSs.nox (pss_cons (ps_if (pt_not (pt_val (pe_callB (k_isi (K := K) (by rfl)) (by rfl) T.z_isinstance (by decide +kernel) (pa_cons (pv 1) (pa_cons (pe_glob (v := .ref (He.ga K "Share")) (by rfl) T.g_Share rfl) pa_nil)))))
    (pss_one ps_never)
    pss_nil)
    (pss_one (ps_ret (pe_mkk T.g_Share KK_Share_2_ (hr.mono (by first | decide | omega)) (by rfl) (pa_cons (pe_op op_sub (pe_op op_mulW (k_fld (K := K) (by rfl) (pv 0) rfl) (k_fld (K := K) (by rfl) (pv 1) rfl)) (pe_op op_mulW (k_fld (K := K) (by rfl) (pv 1) rfl) (k_fld (K := K) (by rfl) (pv 0) rfl))) (pa_cons (pe_op op_mulW (k_fld (K := K) (by rfl) (pv 0) rfl) (k_fld (K := K) (by rfl) (pv 1) rfl)) pa_nil)) pk_nil)))), ?_⟩
    try simp only [cxK]
    rw [show L2.start N_Share___sub__ [.ref p, .ref q] = [some (.ref p), some (.ref q)] from rfl]
    have m1 : CMulW t c := mul_c l1 l4 (by decide) (by decide)
    have m2 : CMulW u b := mul_c l3 l2 (by decide) (by decide)
    have m3 : CMulW b c := mul_c l2 l4 (by decide) (by decide)
    have m4 : CMulW t u := mul_c l1 l3 (by decide) (by decide)
    have m5 : CMulW b u := mul_c l2 l3 (by decide) (by decide)
    walk_at "go"
    refine g_share rfl rfl (fun _ => rfl) hd ?_ k
    exact lt_pow (mul_lt l2 l4) (by decide)
theorem mc_Share___sub__ (T : Top K mg) : MCal P w K mg base (CS K) "__sub__" 3 P_Share___sub__ (spSub K) := mcal_mk T.me_Share___sub__ T.f_Share___sub__ (ok_Share___sub__ T) (fun F => F.bindsN fun _ _ _ _ _ _ us hl => match us, hl with | [_, _], _ => rfl)

def spMul (K : PySem.W.Frag) : Sp := fun vs H Q _ => ∃ (p q : Addr) (t b u c : Int), vs = [.ref p, .ref q] ∧ Sh K H p t b ∧ Sh K H q u c ∧ (t.natAbs < 2 ^ 900 ∧ b.natAbs < 2 ^ 900 ∧ u.natAbs < 2 ^ 900 ∧ c.natAbs < 2 ^ 900) ∧ b * c ≠ 0 ∧
  ∀ r H', H r = none → Same H H' → Sh K H' r (nT (t * u) (b * c)) (nB (t * u) (b * c)) → Q (.ref r) H'
theorem ok_Share___mul__ (T : Top K mg) {f : Addr} {fd : FuncData} (F : FunD K "__mul__" "Share.__mul__" (defArgs s_Share___mul__) (defBody s_Share___mul__) (defScope s_Share___mul__) [] [] f fd) : FnOk P w K mg base CX0 3 f fd P_Share___mul__ (spMul K) := by
  have cl_Share := T.cl_Share; have na_Share_top := T.na_Share_top; have na_Share_bottom := T.na_Share_bottom; have in_Share := T.in_Share; have ki_o_Share_o_Share := T.ki_o_Share_o_Share; have ki_int_o_Share := T.ki_int_o_Share; have ki_bool_o_Share := T.ki_bool_o_Share; have ki_NoneType_o_Share := T.ki_NoneType_o_Share; have ki_str_o_Share := T.ki_str_o_Share; have ki_list_o_Share := T.ki_list_o_Share; have ki_tuple_o_Share := T.ki_tuple_o_Share; have nf_Share_o_Share := T.nf_Share_o_Share; have nf_Share_int := T.nf_Share_int; have nf_Share_bool := T.nf_Share_bool; have nf_Share_NoneType := T.nf_Share_NoneType; have nf_Share_str := T.nf_Share_str; have nf_Share_list := T.nf_Share_list; have nf_Share_tuple := T.nf_Share_tuple
  have KK_Share_2_ := kk_Share_2_ (P := P) (w := w) (base := base) T
  refine F.ok sc_Share___mul__ (fun vs H Q E h => ?_) (fun cdv A outer s H vs Q E hr h => ?_)
  · obtain ⟨p, q, t, b, u, c, rfl, _⟩ := h
    rfl
  · obtain ⟨p, q, t, b, u, c, rfl, ⟨dx, hp⟩, ⟨dy, hq⟩, ⟨l1, l2, l3, l4⟩, hd, k⟩ := h
    refine ⟨_, PSs.nox (pss_cons (ps_if (pt_not (pt_val (pe_callB (k_isi (K := K) (by rfl)) (by rfl) T.z_isinstance (by decide +kernel) (pa_cons (pv 1) (pa_cons (pe_glob (v := .ref (He.ga K "Share")) (by rfl) T.g_Share rfl) pa_nil)))))
    (pss_one ps_never)
    pss_nil)
    (pss_one (ps_ret (pe_mkk T.g_Share KK_Share_2_ (hr.mono (by first | decide | omega)) (by rfl) (pa_cons (pe_op op_mulW (k_fld (K := K) (by rfl) (pv 0) rfl) (k_fld (K := K) (by rfl) (pv 1) rfl)) (pa_cons (pe_op op_mulW (k_fld (K := K) (by rfl) (pv 0) rfl) (k_fld (K := K) (by rfl) (pv 1) rfl)) pa_nil)) pk_nil)))), ?_⟩
    try simp only [cxK]
    rw [show L2.start N_Share___mul__ [.ref p, .ref q] = [some (.ref p), some (.ref q)] from rfl]
    have m1 : CMulW t c := mul_c l1 l4 (by decide) (by decide)
    have m2 : CMulW u b := mul_c l3 l2 (by decide) (by decide)
    have m3 : CMulW b c := mul_c l2 l4 (by decide) (by decide)
    have m4 : CMulW t u := mul_c l1 l3 (by decide) (by decide)
    have m5 : CMulW b u := mul_c l2 l3 (by decide) (by decide)
    walk_at "go"
    refine g_share rfl rfl (fun _ => rfl) hd ?_ k
    exact lt_pow (mul_lt l2 l4) (by decide)
theorem mc_Share___mul__ (T : Top K mg) : MCal P w K mg base (CS K) "__mul__" 3 P_Share___mul__ (spMul K) := mcal_mk T.me_Share___mul__ T.f_Share___mul__ (ok_Share___mul__ T) (fun F => F.bindsN fun _ _ _ _ _ _ us hl => match us, hl with | [_, _], _ => rfl)

def spNeg (K : PySem.W.Frag) : Sp := fun vs H Q _ => ∃ (p : Addr) (t b : Int), vs = [.ref p] ∧ Sh K H p t b ∧ (t.natAbs < 2 ^ 900 ∧ b.natAbs < 2 ^ 900) ∧ b ≠ 0 ∧
  ∀ r H', H r = none → Same H H' → Sh K H' r (nT (-t) (b)) (nB (-t) (b)) → Q (.ref r) H'
theorem ok_Share___neg__ (T : Top K mg) {f : Addr} {fd : FuncData} (F : FunD K "__neg__" "Share.__neg__" (defArgs s_Share___neg__) (defBody s_Share___neg__) (defScope s_Share___neg__) [] [] f fd) : FnOk P w K mg base CX0 3 f fd P_Share___neg__ (spNeg K) := by
  have cl_Share := T.cl_Share; have na_Share_top := T.na_Share_top; have na_Share_bottom := T.na_Share_bottom; have in_Share := T.in_Share; have ki_o_Share_o_Share := T.ki_o_Share_o_Share; have ki_int_o_Share := T.ki_int_o_Share; have ki_bool_o_Share := T.ki_bool_o_Share; have ki_NoneType_o_Share := T.ki_NoneType_o_Share; have ki_str_o_Share := T.ki_str_o_Share; have ki_list_o_Share := T.ki_list_o_Share; have ki_tuple_o_Share := T.ki_tuple_o_Share; have nf_Share_o_Share := T.nf_Share_o_Share; have nf_Share_int := T.nf_Share_int; have nf_Share_bool := T.nf_Share_bool; have nf_Share_NoneType := T.nf_Share_NoneType; have nf_Share_str := T.nf_Share_str; have nf_Share_list := T.nf_Share_list; have nf_Share_tuple := T.nf_Share_tuple
  have KK_Share_2_ := kk_Share_2_ (P := P) (w := w) (base := base) T
  refine F.ok sc_Share___neg__ (fun vs H Q E h => ?_) (fun cdv A outer s H vs Q E hr h => ?_)
  · obtain ⟨p, t, b, rfl, _⟩ := h
    rfl
  · obtain ⟨p, t, b, rfl, ⟨dx, hp⟩, ⟨l1, l2⟩, hd, k⟩ := h
    refine ⟨_, PSs.nox (pss_one (ps_ret (pe_mkk T.g_Share KK_Share_2_ (hr.mono (by first | decide | omega)) (by rfl) (pa_cons (pe_un un_neg (k_fld (K := K) (by rfl) (pv 0) rfl)) (pa_cons (k_fld (K := K) (by rfl) (pv 0) rfl) pa_nil)) pk_nil))), ?_⟩
    try simp only [cxK]
    rw [show L2.start N_Share___neg__ [.ref p] = [some (.ref p)] from rfl]
    walk_at "go"
    refine g_share rfl rfl (fun _ => rfl) hd ?_ k
    exact lt_pow l2 (by decide)
theorem mc_Share___neg__ (T : Top K mg) : MCal P w K mg base (CS K) "__neg__" 3 P_Share___neg__ (spNeg K) := mcal_mk T.me_Share___neg__ T.f_Share___neg__ (ok_Share___neg__ T) (fun F => F.bindsN fun _ _ _ _ _ _ us hl => match us, hl with | [_], _ => rfl)

def spOver (K : PySem.W.Frag) : Sp := fun vs H Q _ => ∃ (p q : Addr) (t b u c : Int), vs = [.ref p, .ref q] ∧ Sh K H p t b ∧ Sh K H q u c ∧ (t.natAbs < 2 ^ 900 ∧ b.natAbs < 2 ^ 900 ∧ u.natAbs < 2 ^ 900 ∧ c.natAbs < 2 ^ 900) ∧ b * u ≠ 0 ∧
  ∀ r H', H r = none → Same H H' → Sh K H' r (nT (t * c) (b * u)) (nB (t * c) (b * u)) → Q (.ref r) H'
theorem ok_Share_over (T : Top K mg) {f : Addr} {fd : FuncData} (F : FunD K "over" "Share.over" (defArgs s_Share_over) (defBody s_Share_over) (defScope s_Share_over) [] [] f fd) : FnOk P w K mg base CX0 3 f fd P_Share_over (spOver K) := by
  have cl_Share := T.cl_Share; have na_Share_top := T.na_Share_top; have na_Share_bottom := T.na_Share_bottom; have in_Share := T.in_Share; have ki_o_Share_o_Share := T.ki_o_Share_o_Share; have ki_int_o_Share := T.ki_int_o_Share; have ki_bool_o_Share := T.ki_bool_o_Share; have ki_NoneType_o_Share := T.ki_NoneType_o_Share; have ki_str_o_Share := T.ki_str_o_Share; have ki_list_o_Share := T.ki_list_o_Share; have ki_tuple_o_Share := T.ki_tuple_o_Share; have nf_Share_o_Share := T.nf_Share_o_Share; have nf_Share_int := T.nf_Share_int; have nf_Share_bool := T.nf_Share_bool; have nf_Share_NoneType := T.nf_Share_NoneType; have nf_Share_str := T.nf_Share_str; have nf_Share_list := T.nf_Share_list; have nf_Share_tuple := T.nf_Share_tuple
  have KK_Share_2_ := kk_Share_2_ (P := P) (w := w) (base := base) T
  refine F.ok sc_Share_over (fun vs H Q E h => ?_) (fun cdv A outer s H vs Q E hr h => ?_)
  · obtain ⟨p, q, t, b, u, c, rfl, _⟩ := h
    rfl
  · obtain ⟨p, q, t, b, u, c, rfl, ⟨dx, hp⟩, ⟨dy, hq⟩, ⟨l1, l2, l3, l4⟩, hd, k⟩ := h
    refine ⟨_, PSs.nox (pss_cons (ps_if (pt_cmpR op_eq (k_fld (K := K) (by rfl) (pv 1) rfl) pe_int (nomark _))
    (pss_one ps_never)
    pss_nil)
    (pss_one (ps_ret (pe_mkk T.g_Share KK_Share_2_ (hr.mono (by first | decide | omega)) (by rfl) (pa_cons (pe_op op_mulW (k_fld (K := K) (by rfl) (pv 0) rfl) (k_fld (K := K) (by rfl) (pv 1) rfl)) (pa_cons (pe_op op_mulW (k_fld (K := K) (by rfl) (pv 0) rfl) (k_fld (K := K) (by rfl) (pv 1) rfl)) pa_nil)) pk_nil)))), ?_⟩
    try simp only [cxK]
    rw [show L2.start N_Share_over [.ref p, .ref q] = [some (.ref p), some (.ref q)] from rfl]
    have m1 : CMulW t c := mul_c l1 l4 (by decide) (by decide)
    have m2 : CMulW u b := mul_c l3 l2 (by decide) (by decide)
    have m3 : CMulW b c := mul_c l2 l4 (by decide) (by decide)
    have m4 : CMulW t u := mul_c l1 l3 (by decide) (by decide)
    have m5 : CMulW b u := mul_c l2 l3 (by decide) (by decide)
    have hu : u ≠ 0 := fun e => hd (by rw [e, Int.mul_zero])
    walk_at "go"
    refine g_iteX hu ?_
    walk_at "go"
    refine g_share rfl rfl (fun _ => rfl) hd ?_ k
    exact lt_pow (mul_lt l2 l3) (by decide)
theorem mc_Share_over (T : Top K mg) : MCal P w K mg base (CS K) "over" 3 P_Share_over (spOver K) := mcal_mk T.me_Share_over T.f_Share_over (ok_Share_over T) (fun F => F.bindsN fun _ _ _ _ _ _ us hl => match us, hl with | [_, _], _ => rfl)
end

set_option Elab.async false
set_option linter.all false
set_option maxRecDepth 100000
set_option maxHeartbeats 4000000
set_option exponentiation.threshold 5000
open PySem PySem.Spec L2



section
variable {P : Program} {w : World} {K : PySem.W.Frag} {mg : Str → Option Value} {base : Heap}
def spBelow (K : PySem.W.Frag) : Sp := fun vs H Q _ => ∃ (p q : Addr) (t b u c : Int), vs = [.ref p, .ref q] ∧ Sh K H p t b ∧ Sh K H q u c ∧ (t.natAbs < 2 ^ 900 ∧ b.natAbs < 2 ^ 900 ∧ u.natAbs < 2 ^ 900 ∧ c.natAbs < 2 ^ 900) ∧ Q (.bl (decide (t * c < u * b))) H
theorem ok_Share_below (T : Top K mg) {f : Addr} {fd : FuncData} (F : FunD K "below" "Share.below" (defArgs s_Share_below) (defBody s_Share_below) (defScope s_Share_below) [] [] f fd) : FnOk P w K mg base CX0 1 f fd P_Share_below (spBelow K) := by
  have cl_Share := T.cl_Share; have na_Share_top := T.na_Share_top; have na_Share_bottom := T.na_Share_bottom; have in_Share := T.in_Share; have ki_o_Share_o_Share := T.ki_o_Share_o_Share; have ki_int_o_Share := T.ki_int_o_Share; have ki_bool_o_Share := T.ki_bool_o_Share; have ki_NoneType_o_Share := T.ki_NoneType_o_Share; have ki_str_o_Share := T.ki_str_o_Share; have ki_list_o_Share := T.ki_list_o_Share; have ki_tuple_o_Share := T.ki_tuple_o_Share; have nf_Share_o_Share := T.nf_Share_o_Share; have nf_Share_int := T.nf_Share_int; have nf_Share_bool := T.nf_Share_bool; have nf_Share_NoneType := T.nf_Share_NoneType; have nf_Share_str := T.nf_Share_str; have nf_Share_list := T.nf_Share_list; have nf_Share_tuple := T.nf_Share_tuple
  refine F.ok sc_Share_below (fun vs H Q E h => ?_) (fun cdv A outer s H vs Q E hr h => ?_)
  · obtain ⟨p, q, t, b, u, c, rfl, _⟩ := h
    rfl
  · obtain ⟨p, q, t, b, u, c, rfl, ⟨dx, hp⟩, ⟨dy, hq⟩, ⟨l1, l2, l3, l4⟩, k⟩ := h
    refine ⟨_, PSs.nox (pss_one (ps_ret (pe_cmpR op_lt (pe_op op_mulW (k_fld (K := K) (by rfl) (pv 0) rfl) (k_fld (K := K) (by rfl) (pv 1) rfl)) (pe_op op_mulW (k_fld (K := K) (by rfl) (pv 1) rfl) (k_fld (K := K) (by rfl) (pv 0) rfl)) (nomark _)))), ?_⟩
    try simp only [cxK]
    rw [show L2.start N_Share_below [.ref p, .ref q] = [some (.ref p), some (.ref q)] from rfl]
    have m1 : CMulW t c := mul_c l1 l4 (by decide) (by decide)
    have m2 : CMulW u b := mul_c l3 l2 (by decide) (by decide)
    walk_at "go"
    exact k
theorem mc_Share_below (T : Top K mg) : MCal P w K mg base (CS K) "below" 1 P_Share_below (spBelow K) := mcal_mk T.me_Share_below T.f_Share_below (ok_Share_below T) (fun F => F.bindsN fun _ _ _ _ _ _ us hl => match us, hl with | [_, _], _ => rfl)
theorem km_Share_below_0_other (T : Top K mg) : MKCal P w K mg base (He.ga K "Share") "below" 1 0 ["other"] (fun vs zs => pick [(0, 0), (2, 0)] vs ([] : List V) zs) (spBelow K) := mkcal_mk (ps := P_Share_below) T.me_Share_below T.f_Share_below (ok_Share_below T) (fun F => kbindsN F 1 ["other"] [(0, 0), (2, 0)] fun _ _ _ _ _ _ us ws l1 l2 => match us, ws, l1, l2 with | [_], [_], _, _ => rfl)
theorem km_Share_over_0_other (T : Top K mg) : MKCal P w K mg base (He.ga K "Share") "over" 3 0 ["other"] (fun vs zs => pick [(0, 0), (2, 0)] vs ([] : List V) zs) (spOver K) := mkcal_mk (ps := P_Share_over) T.me_Share_over T.f_Share_over (ok_Share_over T) (fun F => kbindsN F 1 ["other"] [(0, 0), (2, 0)] fun _ _ _ _ _ _ us ws l1 l2 => match us, ws, l1, l2 with | [_], [_], _, _ => rfl)
def spEqS (K : PySem.W.Frag) : Sp := fun vs H Q _ => ∃ (p : Addr) (y : V) (t b : Int), vs = [.ref p, y] ∧ Sh K H p t b ∧ ((∃ q u c, y = .ref q ∧ Sh K H q u c ∧ Q (.bl (decide (t = u) && decide (b = c))) H) ∨
  ∃ ty, TyX K H y (.type ty) ∧ PySem.W.kitOne K (.type ty) (.ref (CS K)) = some false ∧ Q (.bl false) H)
theorem ok_Share___eq__ (T : Top K mg) {f : Addr} {fd : FuncData} (F : FunD K "__eq__" "Share.__eq__" (defArgs s_Share___eq__) (defBody s_Share___eq__) (defScope s_Share___eq__) [] [] f fd) : FnOk P w K mg base CX0 1 f fd P_Share___eq__ (spEqS K) := by
  have cl_Share := T.cl_Share; have na_Share_top := T.na_Share_top; have na_Share_bottom := T.na_Share_bottom; have in_Share := T.in_Share; have ki_o_Share_o_Share := T.ki_o_Share_o_Share; have ki_int_o_Share := T.ki_int_o_Share; have ki_bool_o_Share := T.ki_bool_o_Share; have ki_NoneType_o_Share := T.ki_NoneType_o_Share; have ki_str_o_Share := T.ki_str_o_Share; have ki_list_o_Share := T.ki_list_o_Share; have ki_tuple_o_Share := T.ki_tuple_o_Share; have nf_Share_o_Share := T.nf_Share_o_Share; have nf_Share_int := T.nf_Share_int; have nf_Share_bool := T.nf_Share_bool; have nf_Share_NoneType := T.nf_Share_NoneType; have nf_Share_str := T.nf_Share_str; have nf_Share_list := T.nf_Share_list; have nf_Share_tuple := T.nf_Share_tuple
  refine F.ok sc_Share___eq__ (fun vs H Q E h => ?_) (fun cdv A outer s H vs Q E hr h => ?_)
  · obtain ⟨p, y, t, b, rfl, _⟩ := h
    rfl
  · obtain ⟨p, y, t, b, rfl, ⟨dx, hp⟩, h⟩ := h
    refine ⟨_, PSs.nox (pss_one (ps_ret (pe_and (pe_callB (k_isi (K := K) (by rfl)) (by rfl) T.z_isinstance (by decide +kernel) (pa_cons (pv 1) (pa_cons (pe_glob (v := .ref (He.ga K "Share")) (by rfl) T.g_Share rfl) pa_nil))) (pe_and (pe_cmpR op_eq (k_fld (K := K) (by rfl) (pv 0) rfl) (k_fld (K := K) (by rfl) (pv 1) rfl) (nomark _)) (pe_one (pe_cmpR op_eq (k_fld (K := K) (by rfl) (pv 0) rfl) (k_fld (K := K) (by rfl) (pv 1) rfl) (nomark _))))))), ?_⟩
    try simp only [cxK]
    rw [show L2.start N_Share___eq__ [.ref p, y] = [some (.ref p), some y] from rfl]
    rcases h with ⟨q, u, c, rfl, ⟨dy, hq⟩, k⟩ | ⟨ty, ht, e, k⟩
    · walk_at "go"
      refine g_iteD (fun h1 => ?_) (fun h1 => ?_)
      · walk_at "go"
        rw [decide_eq_true h1, Bool.true_and] at k
        exact k
      · rw [decide_eq_false h1, Bool.false_and] at k
        exact k
    · walk_at "go"
      refine g_isiB ht e ?_
      walk_at "go"
      exact k
theorem mc_Share___eq__ (T : Top K mg) : MCal P w K mg base (CS K) "__eq__" 1 P_Share___eq__ (spEqS K) := mcal_mk T.me_Share___eq__ T.f_Share___eq__ (ok_Share___eq__ T) (fun F => F.bindsN fun _ _ _ _ _ _ us hl => match us, hl with | [_, _], _ => rfl)
def spBoolS (K : PySem.W.Frag) : Sp := fun vs H Q _ => ∃ (p : Addr) (t b : Int), vs = [.ref p] ∧ Sh K H p t b ∧ Q (.bl (!decide (t = 0))) H
theorem ok_Share___bool__ (T : Top K mg) {f : Addr} {fd : FuncData} (F : FunD K "__bool__" "Share.__bool__" (defArgs s_Share___bool__) (defBody s_Share___bool__) (defScope s_Share___bool__) [] [] f fd) : FnOk P w K mg base CX0 1 f fd P_Share___bool__ (spBoolS K) := by
  have cl_Share := T.cl_Share; have na_Share_top := T.na_Share_top; have na_Share_bottom := T.na_Share_bottom; have in_Share := T.in_Share; have ki_o_Share_o_Share := T.ki_o_Share_o_Share; have ki_int_o_Share := T.ki_int_o_Share; have ki_bool_o_Share := T.ki_bool_o_Share; have ki_NoneType_o_Share := T.ki_NoneType_o_Share; have ki_str_o_Share := T.ki_str_o_Share; have ki_list_o_Share := T.ki_list_o_Share; have ki_tuple_o_Share := T.ki_tuple_o_Share; have nf_Share_o_Share := T.nf_Share_o_Share; have nf_Share_int := T.nf_Share_int; have nf_Share_bool := T.nf_Share_bool; have nf_Share_NoneType := T.nf_Share_NoneType; have nf_Share_str := T.nf_Share_str; have nf_Share_list := T.nf_Share_list; have nf_Share_tuple := T.nf_Share_tuple
  refine F.ok sc_Share___bool__ (fun vs H Q E h => ?_) (fun cdv A outer s H vs Q E hr h => ?_)
  · obtain ⟨p, t, b, rfl, _⟩ := h
    rfl
  · obtain ⟨p, t, b, rfl, ⟨dx, hp⟩, k⟩ := h
    refine ⟨_, PSs.nox (pss_one (ps_ret (pe_callTy call_bool1 (by rfl) T.z_bool (by decide +kernel) (pa_cons (pe_cmpR op_ne (k_fld (K := K) (by rfl) (pv 0) rfl) pe_int (nomark _)) pa_nil)))), ?_⟩
    try simp only [cxK]
    rw [show L2.start N_Share___bool__ [.ref p] = [some (.ref p)] from rfl]
    walk_at "go"
    exact .inr ⟨_, rfl, k⟩
theorem mc_Share___bool__ (T : Top K mg) : MCal P w K mg base (CS K) "__bool__" 1 P_Share___bool__ (spBoolS K) := mcal_mk T.me_Share___bool__ T.f_Share___bool__ (ok_Share___bool__ T) (fun F => F.bindsN fun _ _ _ _ _ _ us hl => match us, hl with | [_], _ => rfl)
/-- what str and repr tell -/
def strT (t b : Int) : List Nat := if b = 1 then wrd t else wrd t ++ 47 :: wrd b
def reprT (t b : Int) : List Nat := [83, 104, 97, 114, 101, 40] ++ wrd t ++ [44, 32] ++ wrd b ++ [41]
theorem wrd_len {n : Int} (h : n.natAbs < 2 ^ 1800) : (wrd n).length ≤ 1801 := by
  have z : (dg n.natAbs).length ≤ 1800 := by
    unfold dg
    rw [List.length_map]
    exact (Nat.length_toDigits_le_iff (by decide) (by decide)).mpr (Nat.lt_of_lt_of_le h (by decide +kernel))
  unfold wrd
  split
  · simp; omega
  · omega
def spStrS (K : PySem.W.Frag) (f : Int → Int → List Nat) : Sp := fun vs H Q _ => ∃ (p : Addr) (t b : Int), vs = [.ref p] ∧ Sh K H p t b ∧ (t.natAbs < 2 ^ 1800 ∧ b.natAbs < 2 ^ 1800) ∧ ∀ H', Same H H' → Q (.str (sOf (f t b))) H'
theorem ok_Share___str__ (T : Top K mg) {f : Addr} {fd : FuncData} (F : FunD K "__str__" "Share.__str__" (defArgs s_Share___str__) (defBody s_Share___str__) (defScope s_Share___str__) [] [] f fd) : FnOk P w K mg base CX0 2 f fd P_Share___str__ (spStrS K strT) := by
  have cl_Share := T.cl_Share; have na_Share_top := T.na_Share_top; have na_Share_bottom := T.na_Share_bottom; have in_Share := T.in_Share; have ki_o_Share_o_Share := T.ki_o_Share_o_Share; have ki_int_o_Share := T.ki_int_o_Share; have ki_bool_o_Share := T.ki_bool_o_Share; have ki_NoneType_o_Share := T.ki_NoneType_o_Share; have ki_str_o_Share := T.ki_str_o_Share; have ki_list_o_Share := T.ki_list_o_Share; have ki_tuple_o_Share := T.ki_tuple_o_Share; have nf_Share_o_Share := T.nf_Share_o_Share; have nf_Share_int := T.nf_Share_int; have nf_Share_bool := T.nf_Share_bool; have nf_Share_NoneType := T.nf_Share_NoneType; have nf_Share_str := T.nf_Share_str; have nf_Share_list := T.nf_Share_list; have nf_Share_tuple := T.nf_Share_tuple
  have C_number_word := c_word (P := P) (w := w) (base := base) T
  refine F.ok sc_Share___str__ (fun vs H Q E h => ?_) (fun cdv A outer s H vs Q E hr h => ?_)
  · obtain ⟨p, t, b, rfl, _⟩ := h
    rfl
  · obtain ⟨p, t, b, rfl, ⟨dx, hp⟩, ⟨l1, l2⟩, k⟩ := h
    refine ⟨_, PSs.nox (pss_cons (ps_if (pt_cmpR op_eq (k_fld (K := K) (by rfl) (pv 0) rfl) pe_int (nomark _))
    (pss_one (ps_ret (pe_joined1 (pe_fmt (pe_cal C_number_word (hr.mono (by first | decide | omega)) (by rfl) (pa_cons (k_fld (K := K) (by rfl) (pv 0) rfl) pa_nil))))))
    pss_nil)
    (pss_one (ps_ret (pe_joined (.cons (pe_fmt (pe_cal C_number_word (hr.mono (by first | decide | omega)) (by rfl) (pa_cons (k_fld (K := K) (by rfl) (pv 0) rfl) pa_nil))) (.cons pe_str (.cons (pe_fmt (pe_cal C_number_word (hr.mono (by first | decide | omega)) (by rfl) (pa_cons (k_fld (K := K) (by rfl) (pv 0) rfl) pa_nil))) .nil))))))), ?_⟩
    try simp only [cxK]
    rw [show L2.start N_Share___str__ [.ref p] = [some (.ref p)] from rfl]
    have z1 := wrd_len l1
    have z2 := wrd_len l2
    unfold strT at k
    walk_at "go"
    refine g_iteD (fun h1 => ?_) (fun h1 => ?_)
    · walk_at "go"
      refine ⟨t, rfl, l1, fun H1 s1 => ?_⟩
      refine g_fmtS (sz_ok (by rw [sOf_len]; omega)) ?_
      have z := k H1 s1
      rw [if_pos h1] at z
      exact z
    · walk_at "go"
      refine ⟨t, rfl, l1, fun H1 s1 => ?_⟩
      have e1 : Str.empty ++ sOf (wrd t) = sOf (wrd t) := by rw [show Str.empty = sOf [] from rfl, sOf_app, List.nil_append]
      refine g_fmtS (sz_ok (by rw [sOf_len]; omega)) (g_jR (sz_ok (by rw [e1, sOf_len]; omega)) ?_)
      rw [e1]
      walk_at "go"
      have e2 : sOf (wrd t) ++ Str.ofString "/" = sOf (wrd t ++ [47]) := by rw [show Str.ofString "/" = sOf [47] from rfl, sOf_app]
      refine g_jR (sz_ok (by rw [e2, sOf_len, List.length_append]; simp; omega)) ?_
      rw [e2]
      walk_at "go"
      refine ⟨b, rfl, l2, fun H2 s2 => ?_⟩
      have e3 : sOf (wrd t ++ [47]) ++ sOf (wrd b) = sOf (wrd t ++ 47 :: wrd b) := by rw [sOf_app, List.append_assoc]; rfl
      refine g_fmtS (sz_ok (by rw [sOf_len]; omega)) (g_jR (sz_ok (by rw [e3, sOf_len, List.length_append, List.length_cons]; omega)) ?_)
      rw [e3]
      walk_at "go"
      have z := k H2 (s1.trans s2)
      rw [if_neg h1] at z
      exact z
theorem mc_Share___str__ (T : Top K mg) : MCal P w K mg base (CS K) "__str__" 2 P_Share___str__ (spStrS K strT) := mcal_mk T.me_Share___str__ T.f_Share___str__ (ok_Share___str__ T) (fun F => F.bindsN fun _ _ _ _ _ _ us hl => match us, hl with | [_], _ => rfl)
theorem ok_Share___repr__ (T : Top K mg) {f : Addr} {fd : FuncData} (F : FunD K "__repr__" "Share.__repr__" (defArgs s_Share___repr__) (defBody s_Share___repr__) (defScope s_Share___repr__) [] [] f fd) : FnOk P w K mg base CX0 2 f fd P_Share___repr__ (spStrS K reprT) := by
  have cl_Share := T.cl_Share; have na_Share_top := T.na_Share_top; have na_Share_bottom := T.na_Share_bottom; have in_Share := T.in_Share; have ki_o_Share_o_Share := T.ki_o_Share_o_Share; have ki_int_o_Share := T.ki_int_o_Share; have ki_bool_o_Share := T.ki_bool_o_Share; have ki_NoneType_o_Share := T.ki_NoneType_o_Share; have ki_str_o_Share := T.ki_str_o_Share; have ki_list_o_Share := T.ki_list_o_Share; have ki_tuple_o_Share := T.ki_tuple_o_Share; have nf_Share_o_Share := T.nf_Share_o_Share; have nf_Share_int := T.nf_Share_int; have nf_Share_bool := T.nf_Share_bool; have nf_Share_NoneType := T.nf_Share_NoneType; have nf_Share_str := T.nf_Share_str; have nf_Share_list := T.nf_Share_list; have nf_Share_tuple := T.nf_Share_tuple
  have C_number_word := c_word (P := P) (w := w) (base := base) T
  refine F.ok sc_Share___repr__ (fun vs H Q E h => ?_) (fun cdv A outer s H vs Q E hr h => ?_)
  · obtain ⟨p, t, b, rfl, _⟩ := h
    rfl
  · obtain ⟨p, t, b, rfl, ⟨dx, hp⟩, ⟨l1, l2⟩, k⟩ := h
    refine ⟨_, PSs.nox (pss_one (ps_ret (pe_joined (.cons pe_str (.cons (pe_fmt (pe_cal C_number_word (hr.mono (by first | decide | omega)) (by rfl) (pa_cons (k_fld (K := K) (by rfl) (pv 0) rfl) pa_nil))) (.cons pe_str (.cons (pe_fmt (pe_cal C_number_word (hr.mono (by first | decide | omega)) (by rfl) (pa_cons (k_fld (K := K) (by rfl) (pv 0) rfl) pa_nil))) (.cons pe_str .nil)))))))), ?_⟩
    try simp only [cxK]
    rw [show L2.start N_Share___repr__ [.ref p] = [some (.ref p)] from rfl]
    have z1 := wrd_len l1
    have z2 := wrd_len l2
    unfold reprT at k
    have e0 : Str.empty ++ Str.ofString "Share(" = sOf [83, 104, 97, 114, 101, 40] := rfl
    walk_at "go"
    refine g_jR (sz_ok (by rw [e0]; decide)) ?_
    rw [e0]
    walk_at "go"
    refine ⟨t, rfl, l1, fun H1 s1 => ?_⟩
    refine g_fmtS (sz_ok (by rw [sOf_len]; omega)) (g_jR (sz_ok (by rw [sOf_app, sOf_len, List.length_append]; simp; omega)) ?_)
    rw [sOf_app]
    walk_at "go"
    refine g_jR (sz_ok (by rw [show Str.ofString ", " = sOf [44, 32] from rfl, sOf_app, sOf_len, List.length_append, List.length_append]; simp; omega)) ?_
    rw [show Str.ofString ", " = sOf [44, 32] from rfl, sOf_app]
    walk_at "go"
    refine ⟨b, rfl, l2, fun H2 s2 => ?_⟩
    refine g_fmtS (sz_ok (by rw [sOf_len]; omega)) (g_jR (sz_ok (by rw [sOf_app, sOf_len]; simp; omega)) ?_)
    rw [sOf_app]
    walk_at "go"
    refine g_jR (sz_ok (by rw [show Str.ofString ")" = sOf [41] from rfl, sOf_app, sOf_len]; simp; omega)) ?_
    rw [show Str.ofString ")" = sOf [41] from rfl, sOf_app]
    walk_at "go"
    exact k H2 (s1.trans s2)
theorem mc_Share___repr__ (T : Top K mg) : MCal P w K mg base (CS K) "__repr__" 2 P_Share___repr__ (spStrS K reprT) := mcal_mk T.me_Share___repr__ T.f_Share___repr__ (ok_Share___repr__ T) (fun F => F.bindsN fun _ _ _ _ _ _ us hl => match us, hl with | [_], _ => rfl)
end

set_option Elab.async false
set_option linter.all false
set_option maxRecDepth 100000
set_option maxHeartbeats 4000000
set_option exponentiation.threshold 5000
open PySem PySem.Spec L2



section
variable {P : Program} {w : World} {K : PySem.W.Frag} {mg : Str → Option Value} {base : Heap}
def spCommon : Sp := fun vs H Q _ => ∃ a b : Int, vs = [.int a, .int b] ∧ Q (.int ((Nat.gcd a.natAbs b.natAbs : Nat) : Int)) H
theorem ok_common (T : Top K mg) {f : Addr} {fd : FuncData} (F : FnP K "_law_common" s__law_common f fd) : FnOk P w K mg base CX0 1 f fd P__law_common spCommon := by
  refine F.ok sc__law_common (fun vs H Q E h => ?_) (fun cdv A outer s H vs Q E hr h => ?_)
  · obtain ⟨a, b, rfl, _⟩ := h
    rfl
  · obtain ⟨a, b, rfl, q⟩ := h
    refine ⟨_, PSs.nox (pss_cons (ps_par (i := 2) (j := 3) (by rfl) sc__law_common.nd rfl rfl (by decide) rfl rfl (pa_cons (pe_callB c_absN (by rfl) T.z_abs (by decide +kernel) (pa_cons (pe_callTy c_int (by rfl) T.z_int (by decide +kernel) (pa_cons (pv 0) pa_nil)) pa_nil)) (pa_cons (pe_callB c_absN (by rfl) T.z_abs (by decide +kernel) (pa_cons (pe_callTy c_int (by rfl) T.z_int (by decide +kernel) (pa_cons (pv 1) pa_nil)) pa_nil)) pa_nil)) (by rfl))
    (pss_cons (ps_while PassesOwn.never (pt_cmpR op_gt (pv 3) pe_int (nomark _))
    (pss_one (ps_par (i := 2) (j := 3) (by rfl) sc__law_common.nd rfl rfl (by decide) rfl rfl (pa_cons (pv 3) (pa_cons (pe_op op_mod (pe_callTy c_int (by rfl) T.z_int (by decide +kernel) (pa_cons (pv 2) pa_nil)) (pv 3)) pa_nil)) (by rfl))))
    (pss_one (ps_ret (pv 2))))), ?_⟩
    try simp only [cxK]
    rw [show L2.start N__law_common [.int a, .int b] = [some (.int a), some (.int b), none, none] from rfl]
    walk_at "go"
    refine g_while (fun m σ' H' => ∃ x : Nat, σ' = [some (.int a), some (.int b), some (.int x), some (.int m)] ∧ H' = H ∧ Nat.gcd x m = Nat.gcd a.natAbs b.natAbs) ⟨b.natAbs, a.natAbs, rfl, rfl, rfl⟩ ?_
    rintro m σ' H' ⟨x, rfl, rfl, hg⟩
    walk_at "go"
    refine g_whB (fun h1 => ?_) (fun h1 => ?_)
    · have hm : 0 < m := by omega
      walk_at "go"
      refine ⟨x % m, Nat.mod_lt _ hm, m, by rw [Int.natCast_emod], rfl, ?_⟩
      rw [← hg, Nat.gcd_comm x m, Nat.gcd_rec m x, Nat.gcd_comm]
    · have hm : m = 0 := by omega
      subst hm
      walk_at "go"
      rw [Nat.gcd_zero_right] at hg
      rw [hg]
      exact q
theorem c_common (T : Top K mg) : Cal P w K mg base "_law_common" 1 P__law_common spCommon := cal_mk T.f__law_common (ok_common T) (fun F => F.bindsN fun _ _ _ _ _ _ us hl => match us, hl with | [_, _], _ => rfl)
def spIsShare (K : PySem.W.Frag) : Sp := fun vs H Q _ => ∃ (p : Addr) (t b N D : Int), vs = [.ref p, .int N, .int D] ∧ Sh K H p t b ∧ Rep t b N D ∧ (t.natAbs < 2 ^ 1900 ∧ b.natAbs < 2 ^ 1900 ∧ N.natAbs < 2 ^ 1900 ∧ D.natAbs < 2 ^ 1900) ∧ Q (.bl true) H
theorem ok_is_share (T : Top K mg) {f : Addr} {fd : FuncData} (F : FnP K "_law_is_share" s__law_is_share f fd) : FnOk P w K mg base CX0 2 f fd P__law_is_share (spIsShare K) := by
  have cl_Share := T.cl_Share; have na_Share_top := T.na_Share_top; have na_Share_bottom := T.na_Share_bottom; have in_Share := T.in_Share; have ki_o_Share_o_Share := T.ki_o_Share_o_Share; have ki_int_o_Share := T.ki_int_o_Share; have ki_bool_o_Share := T.ki_bool_o_Share; have ki_NoneType_o_Share := T.ki_NoneType_o_Share; have ki_str_o_Share := T.ki_str_o_Share; have ki_list_o_Share := T.ki_list_o_Share; have ki_tuple_o_Share := T.ki_tuple_o_Share; have nf_Share_o_Share := T.nf_Share_o_Share; have nf_Share_int := T.nf_Share_int; have nf_Share_bool := T.nf_Share_bool; have nf_Share_NoneType := T.nf_Share_NoneType; have nf_Share_str := T.nf_Share_str; have nf_Share_list := T.nf_Share_list; have nf_Share_tuple := T.nf_Share_tuple
  have C__law_common := c_common (P := P) (w := w) (base := base) T
  refine F.ok sc__law_is_share (fun vs H Q E h => ?_) (fun cdv A outer s H vs Q E hr h => ?_)
  · obtain ⟨p, t, b, N, D, rfl, _⟩ := h
    rfl
  · obtain ⟨p, t, b, N, D, rfl, ⟨dx, hp⟩, rp, ⟨l1, l2, l3, l4⟩, k⟩ := h
    refine ⟨_, PSs.nox (pss_cons (ps_if (pt_not (pt_val (pe_callB (k_isi (K := K) (by rfl)) (by rfl) T.z_isinstance (by decide +kernel) (pa_cons (pv 0) (pa_cons (pe_glob (v := .ref (He.ga K "Share")) (by rfl) T.g_Share rfl) pa_nil)))))
    (pss_one (ps_ret pe_bl))
    pss_nil)
    (pss_cons (ps_par (i := 3) (j := 4) (by rfl) sc__law_is_share.nd rfl rfl (by decide) rfl rfl (pa_cons (k_fld (K := K) (by rfl) (pv 0) rfl) (pa_cons (k_fld (K := K) (by rfl) (pv 0) rfl) pa_nil)) (by rfl))
    (pss_cons (ps_if (PW.pt (pw_or (pt_not (pt_val (pe_callB (k_isi (K := K) (by rfl)) (by rfl) T.z_isinstance (by decide +kernel) (pa_cons (pv 3) (pa_cons (pe_bltn (v := .ty "int") (u := .type "int") (by rfl) T.z_int (by decide +kernel) rfl) pa_nil))))) (pw_or (pt_val (pe_callB (k_isi (K := K) (by rfl)) (by rfl) T.z_isinstance (by decide +kernel) (pa_cons (pv 3) (pa_cons (pe_bltn (v := .ty "bool") (u := .type "bool") (by rfl) T.z_bool (by decide +kernel) rfl) pa_nil)))) (pw_or (pt_not (pt_val (pe_callB (k_isi (K := K) (by rfl)) (by rfl) T.z_isinstance (by decide +kernel) (pa_cons (pv 4) (pa_cons (pe_bltn (v := .ty "int") (u := .type "int") (by rfl) T.z_int (by decide +kernel) rfl) pa_nil))))) (pw_or1 (pt_val (pe_callB (k_isi (K := K) (by rfl)) (by rfl) T.z_isinstance (by decide +kernel) (pa_cons (pv 4) (pa_cons (pe_bltn (v := .ty "bool") (u := .type "bool") (by rfl) T.z_bool (by decide +kernel) rfl) pa_nil)))))))))
    (pss_one (ps_ret pe_bl))
    pss_nil)
    (pss_one (ps_ret (pe_and (pe_cmpR op_gt (pv 4) pe_int (nomark _)) (pe_and (pe_cmpR op_eq (pe_cal C__law_common (hr.mono (by first | decide | omega)) (by rfl) (pa_cons (pv 3) (pa_cons (pv 4) pa_nil))) pe_int (nomark _)) (pe_one (pe_cmpR op_eq (pe_op op_mulW (pv 3) (pv 2)) (pe_op op_mulW (pv 1) (pv 4)) (nomark _)))))))))), ?_⟩
    try simp only [cxK]
    rw [show L2.start N__law_is_share [.ref p, .int N, .int D] = [some (.ref p), some (.int N), some (.int D), none, none] from rfl]
    have m1 : CMulW t D := mul_c l1 l4 (by decide) (by decide)
    have m2 : CMulW N b := mul_c l3 l2 (by decide) (by decide)
    walk_at "go"
    have hb := rp.2.1.1
    refine g_iteD (fun h1 => ?_) (fun h1 => absurd hb h1)
    walk_at "go"
    refine ⟨t, b, rfl, ?_⟩
    rw [rp.2.1.2]
    walk_at "go"
    rw [decide_eq_true rp.2.2]
    exact k
theorem c_is_share (T : Top K mg) : Cal P w K mg base "_law_is_share" 2 P__law_is_share (spIsShare K) := cal_mk T.f__law_is_share (ok_is_share T) (fun F => F.bindsN fun _ _ _ _ _ _ us hl => match us, hl with | [_, _, _], _ => rfl)
def spLess : Sp := fun vs H Q _ => ∃ (p q : Addr) (n d n' d' : Int), vs = [.ref p, .ref q] ∧ H p = some (.tup [.int n, .int d]) ∧ H q = some (.tup [.int n', .int d']) ∧ (n.natAbs < 2 ^ 900 ∧ d.natAbs < 2 ^ 900 ∧ n'.natAbs < 2 ^ 900 ∧ d'.natAbs < 2 ^ 900) ∧ Q (.bl (lessN n d n' d')) H
theorem ok_less (T : Top K mg) {f : Addr} {fd : FuncData} (F : FnP K "_law_less" s__law_less f fd) : FnOk P w K mg base CX0 1 f fd P__law_less spLess := by
  refine F.ok sc__law_less (fun vs H Q E h => ?_) (fun cdv A outer s H vs Q E hr h => ?_)
  · obtain ⟨p, q, n, d, n', d', rfl, _⟩ := h
    rfl
  · obtain ⟨p, q, n, d, n', d', rfl, hp, hq, ⟨l1, l2, l3, l4⟩, k⟩ := h
    refine ⟨_, PSs.nox (pss_cons (ps_set (i := 2) sc__law_less.nd rfl (by first | exact Or.inl rfl | exact Or.inr rfl) (pe_ifExp (pt_cmpR op_gt (pe_op op_mulW (pe_ix (k_ix (K := K) (by rfl)) (pv 0) pe_int (fun _ _ => rfl)) (pe_ix (k_ix (K := K) (by rfl)) (pv 1) pe_int (fun _ _ => rfl))) pe_int (nomark _)) pe_int (pe_un un_neg pe_int)))
    (pss_one (ps_ret (pe_cmpR op_lt (pe_op op_mulW (pv 2) (pe_op op_sub (pe_op op_mulW (pe_ix (k_ix (K := K) (by rfl)) (pv 0) pe_int (fun _ _ => rfl)) (pe_ix (k_ix (K := K) (by rfl)) (pv 1) pe_int (fun _ _ => rfl))) (pe_op op_mulW (pe_ix (k_ix (K := K) (by rfl)) (pv 1) pe_int (fun _ _ => rfl)) (pe_ix (k_ix (K := K) (by rfl)) (pv 0) pe_int (fun _ _ => rfl))))) pe_int (nomark _))))), ?_⟩
    try simp only [cxK]
    rw [show L2.start N__law_less [.ref p, .ref q] = [some (.ref p), some (.ref q), none] from rfl]
    have m1 : CMulW d d' := mul_c l2 l4 (by decide) (by decide)
    have m2 : CMulW n d' := mul_c l1 l4 (by decide) (by decide)
    have m3 : CMulW n' d := mul_c l3 l2 (by decide) (by decide)
    have hs : (n * d' - n' * d).natAbs < 2 ^ 1801 := sub_lt' (mul_lt l1 l4) (mul_lt l3 l2)
    unfold lessN at k
    walk_at "go"
    refine g_iteD (fun h1 => ?_) (fun h1 => ?_)
    · have m4 : CMulW 1 (n * d' - n' * d) := mul_c (k := 1801) (by decide) hs (by decide) (by decide)
      rw [if_pos h1] at k
      walk_at "go"
      exact k
    · have m4 : CMulW (-1) (n * d' - n' * d) := mul_c (k := 1801) (by decide) hs (by decide) (by decide)
      rw [if_neg h1] at k
      walk_at "go"
      exact k
theorem c_less (T : Top K mg) : Cal P w K mg base "_law_less" 1 P__law_less spLess := cal_mk T.f__law_less (ok_less T) (fun F => F.bindsN fun _ _ _ _ _ _ us hl => match us, hl with | [_, _], _ => rfl)
/-- a share and its pair -/
structure Fr (K : PySem.W.Frag) (H : Hp) (p q : Addr) (n d : Int) : Prop where
  sh : Sh K H p (nT n d) (nB n d)
  pr : H q = some (.tup [.int n, .int d])
  nz : d ≠ 0
theorem Fr.sm {H H' : Hp} {p q : Addr} {n d : Int} (h : Fr K H p q n d) (s : Same H H') : Fr K H' p q n d := ⟨h.sh.sm s, s _ _ h.pr, h.nz⟩
theorem Fr.rep {H : Hp} {p q : Addr} {n d : Int} (h : Fr K H p q n d) : Rep (nT n d) (nB n d) n d := nrm_rep h.nz
theorem ltT {n d : Int} {k : Nat} (h : d ≠ 0) (l : n.natAbs < 2 ^ k) : (nT n d).natAbs < 2 ^ k := Nat.lt_of_le_of_lt (nT_le h) l
theorem ltB {n d : Int} {k : Nat} (h : d ≠ 0) (l : d.natAbs < 2 ^ k) : (nB n d).natAbs < 2 ^ k := Nat.lt_of_le_of_lt (nB_le h) l
def spCompared (K : PySem.W.Frag) : Sp := fun vs H Q _ => ∃ (p q x y : Addr) (n d n' d' : Int), vs = [.ref p, .ref q, .ref x, .ref y] ∧ Fr K H p x n d ∧ Fr K H q y n' d' ∧ (n.natAbs < 2 ^ 900 ∧ d.natAbs < 2 ^ 900 ∧ n'.natAbs < 2 ^ 900 ∧ d'.natAbs < 2 ^ 900) ∧ ∀ H', Same H H' → Q (.bl true) H'
theorem dp_bools {H : Hp} {l : Addr} (a b : Bool) (h : H l = some (.lst [.bl a, .bl b])) : Dp K H (.ref l) (.list [.bool a, .bool b]) := .lst (.of h) (.cons (.bl a) (.cons (.bl b) .nil))
theorem ok_compared (T : Top K mg) {f : Addr} {fd : FuncData} (F : FnP K "_law_compared" s__law_compared f fd) : FnOk P w K mg base CX0 4 f fd P__law_compared (spCompared K) := by
  have cl_Share := T.cl_Share; have na_Share_top := T.na_Share_top; have na_Share_bottom := T.na_Share_bottom; have in_Share := T.in_Share; have ki_o_Share_o_Share := T.ki_o_Share_o_Share; have ki_int_o_Share := T.ki_int_o_Share; have ki_bool_o_Share := T.ki_bool_o_Share; have ki_NoneType_o_Share := T.ki_NoneType_o_Share; have ki_str_o_Share := T.ki_str_o_Share; have ki_list_o_Share := T.ki_list_o_Share; have ki_tuple_o_Share := T.ki_tuple_o_Share; have nf_Share_o_Share := T.nf_Share_o_Share; have nf_Share_int := T.nf_Share_int; have nf_Share_bool := T.nf_Share_bool; have nf_Share_NoneType := T.nf_Share_NoneType; have nf_Share_str := T.nf_Share_str; have nf_Share_list := T.nf_Share_list; have nf_Share_tuple := T.nf_Share_tuple
  have C__law_less := c_less (P := P) (w := w) (base := base) T
  have C__law_like := c_like (P := P) (w := w) (base := base) T 1
  have MC_Share_below := mc_Share_below (P := P) (w := w) (base := base) T
  have KM_Share_below_0_other := km_Share_below_0_other (P := P) (w := w) (base := base) T
  have MC_Share___eq__ := mc_Share___eq__ (P := P) (w := w) (base := base) T
  refine F.ok sc__law_compared (fun vs H Q E h => ?_) (fun cdv A outer s H vs Q E hr h => ?_)
  · obtain ⟨p, q, x, y, n, d, n', d', rfl, _⟩ := h
    rfl
  · obtain ⟨p, q, x, y, n, d, n', d', rfl, f1, f2, ⟨l1, l2, l3, l4⟩, k⟩ := h
    refine ⟨_, PSs.nox (pss_cons (ps_par (i := 4) (j := 5) (by rfl) sc__law_compared.nd rfl rfl (by decide) rfl rfl (pa_cons (pe_cal C__law_less (hr.mono (by first | decide | omega)) (by rfl) (pa_cons (pv 2) (pa_cons (pv 3) pa_nil))) (pa_cons (pe_cal C__law_less (hr.mono (by first | decide | omega)) (by rfl) (pa_cons (pv 3) (pa_cons (pv 2) pa_nil))) pa_nil)) (by rfl))
    (pss_cons (ps_if (pt_not (pt_val (pe_cal C__law_like (hr.mono (by first | decide | omega)) (by rfl) (pa_cons (pe_lst (pa_cons (pe_mcal (pv 0) T.cl_Share MC_Share_below (hr.mono (by first | decide | omega)) (pa_cons (pv 1) pa_nil)) (pa_cons (pe_mkcal0 (pv 1) T.cl_Share KM_Share_below_0_other (hr.mono (by first | decide | omega)) (pk_cons (pv 0) pk_nil)) pa_nil))) (pa_cons (pe_lst (pa_cons (pv 4) (pa_cons (pv 5) pa_nil))) pa_nil)))))
    (pss_one (ps_ret pe_bl))
    pss_nil)
    (pss_one (ps_ret (pe_cal C__law_like (hr.mono (by first | decide | omega)) (by rfl) (pa_cons (pe_lst (pa_cons (pe_cmpR (k_ownEq (K := K) (by rfl) MC_Share___eq__ (hr.mono (by first | decide | omega))) (pv 0) (pv 1) (nomark _)) (pa_cons (pe_cmpR (k_ownEq (K := K) (by rfl) MC_Share___eq__ (hr.mono (by first | decide | omega))) (pv 1) (pv 0) (nomark _)) pa_nil))) (pa_cons (pe_lst (pa_cons (pe_and (pe_not (pv 4)) (pe_one (pe_not (pv 5)))) (pa_cons (pe_and (pe_not (pv 4)) (pe_one (pe_not (pv 5)))) pa_nil))) pa_nil))))))), ?_⟩
    try simp only [cxK]
    rw [show L2.start N__law_compared [.ref p, .ref q, .ref x, .ref y] = [some (.ref p), some (.ref q), some (.ref x), some (.ref y), none, none] from rfl]
    obtain ⟨⟨dx, hp⟩, hx, z1⟩ := id f1
    obtain ⟨⟨dy, hq⟩, hy, z2⟩ := id f2
    have t1 := ltT z1 l1
    have t2 := ltB (n := n) z1 l2
    have t3 := ltT z2 l3
    have t4 := ltB (n := n') z2 l4
    have r1 := rep_less f1.rep f2.rep
    have r2 := rep_less f2.rep f1.rep
    walk_at "go"
    refine ⟨x, y, n, d, n', d', rfl, hx, hy, ⟨l1, l2, l3, l4⟩, ?_⟩
    walk_at "go"
    refine ⟨y, x, n', d', n, d, rfl, hy, hx, ⟨l3, l4, l1, l2⟩, ?_⟩
    walk_at "go"
    refine ⟨p, q, _, _, _, _, rfl, ⟨dx, hp⟩, ⟨dy, hq⟩, ⟨t1, t2, t3, t4⟩, ?_⟩
    walk_at "go"
    refine ⟨q, p, _, _, _, _, rfl, ⟨dy, hq⟩, ⟨dx, hp⟩, ⟨t3, t4, t1, t2⟩, ?_⟩
    rw [← r1, ← r2]
    have re := rep_eqD f1.rep f2.rep
    have re2 := rep_eqD f2.rep f1.rep
    rw [Bool.and_comm (!lessN n' d' n d)] at re2
    generalize lessN n d n' d' = L1 at re re2 ⊢
    generalize lessN n' d' n d = L2 at re re2 ⊢
    walk_at "go"
    rename_i p1 h1 p2 h2
    refine g_likeD (d := .list [.bool L1, .bool L2]) (dp_bools _ _ (h_ne (ne_of_none upd_same h2) upd_same)) (dp_bools _ _ upd_same) (Nat.le_refl 1) rfl fun H1 s1 => ?_
    have s2 : Same H H1 := ((same_new h1).trans (same_new h2)).trans s1
    have hp' := s2 _ _ hp
    have hq' := s2 _ _ hq
    walk_at "go"
    refine g_ownEq hp' (in_Share.ty cl_Share hq') nf_Share_o_Share ⟨p, .ref q, _, _, rfl, ⟨dx, hp'⟩, .inl ⟨q, _, _, rfl, ⟨dy, hq'⟩, ?_⟩⟩
    walk_at "go"
    refine g_ownEq hq' (in_Share.ty cl_Share hp') nf_Share_o_Share ⟨q, .ref p, _, _, rfl, ⟨dy, hq'⟩, .inl ⟨p, _, _, rfl, ⟨dx, hp'⟩, ?_⟩⟩
    rw [re, re2]
    walk_at "go"
    rename_i p3 h3
    have fin : ∀ H2 p3 p4, Same H H2 → H2 p3 = some (.lst [.bl (!L1 && !L2), .bl (!L1 && !L2)]) → H2 p4 = some (.lst [.bl (!L1 && !L2), .bl (!L1 && !L2)]) → spLike K 1 [.ref p3, .ref p4] H2 Q E0 := fun H2 p3 p4 s e3 e4 =>
      g_likeD (d := .list [.bool (!L1 && !L2), .bool (!L1 && !L2)]) (dp_bools _ _ e3) (dp_bools _ _ e4) (Nat.le_refl 1) rfl fun H3 s3 => k _ (s.trans s3)
    have sm3 : Same H (upd H1 p3 (.lst [.bl (!L1 && !L2), .bl (!L1 && !L2)])) := s2.trans (same_new h3)
    have e3 : upd H1 p3 (.lst [.bl (!L1 && !L2), .bl (!L1 && !L2)]) p3 = some (.lst [.bl (!L1 && !L2), .bl (!L1 && !L2)]) := upd_same
    generalize upd H1 p3 (.lst [.bl (!L1 && !L2), .bl (!L1 && !L2)]) = H2 at sm3 e3 ⊢
    cases L1
    · simp only [Bool.not_false, Bool.true_and] at fin e3
      rw [Bool.not_false]
      walk_at "go"
      rename_i p4 h4
      exact fin _ _ _ (sm3.trans (same_new h4)) (h_ne (ne_of_none e3 h4) e3) upd_same
    · simp only [Bool.not_true, Bool.false_and] at fin e3
      rw [Bool.not_true]
      walk_at "go"
      rename_i p4 h4
      exact fin _ _ _ (sm3.trans (same_new h4)) (h_ne (ne_of_none e3 h4) e3) upd_same
theorem c_compared (T : Top K mg) : Cal P w K mg base "_law_compared" 4 P__law_compared (spCompared K) := cal_mk T.f__law_compared (ok_compared T) (fun F => F.bindsN fun _ _ _ _ _ _ us hl => match us, hl with | [_, _, _, _], _ => rfl)
end

set_option Elab.async false
set_option linter.all false
set_option maxRecDepth 100000
set_option maxHeartbeats 4000000
set_option exponentiation.threshold 5000
open PySem PySem.Spec L2



section
variable {P : Program} {w : World} {K : PySem.W.Frag} {mg : Str → Option Value} {base : Heap}
/-! _law_part -/
def spPart : Sp := fun vs H Q _ => ∃ (a l : Addr), vs = [.ref a] ∧ Bag H a l ∧ ∀ (p : Addr) (n d : Int) (H' : Hp), Bag H' a l → Chg a H H' → H' p = some (.tup [.int n, .int d]) → d ≠ 0 → n.natAbs < 2 ^ 30 → d.natAbs < 2 ^ 30 → Q (.ref p) H'
theorem ok_part (T : Top K mg) {f : Addr} {fd : FuncData} (F : FnP K "_law_part" s__law_part f fd) : FnOk P w K mg base CX0 3 f fd P__law_part spPart := by
  have C__law_draw : Cal P w K mg base "_law_draw" 2 P__law_draw (spDraw 100000000000) := c_draw2 T
  have C__law_of := c_of (P := P) (w := w) (base := base) T
  refine F.ok sc__law_part (fun vs H Q E h => ?_) (fun cdv A outer s H vs Q E hr h => ?_)
  · obtain ⟨a, l, rfl, _⟩ := h
    rfl
  · obtain ⟨a, l, rfl, hB, q⟩ := h
    refine ⟨_, PSs.nox (pss_cons (ps_set (i := 1) sc__law_part.nd rfl (by first | exact Or.inl rfl | exact Or.inr rfl) (pe_cal C__law_draw (hr.mono (by first | decide | omega)) (by rfl) (pa_cons (pv 0) (pa_cons pe_int pa_nil))))
    (pss_cons (ps_set (i := 2) sc__law_part.nd rfl (by first | exact Or.inl rfl | exact Or.inr rfl) (pe_cal C__law_of (hr.mono (by first | decide | omega)) (by rfl) (pa_cons (pv 0) (pa_cons (pe_lst (pa_cons pe_int (pa_cons pe_int (pa_cons (pe_un un_neg pe_int) (pa_cons (pe_op op_sub (pe_cal C__law_draw (hr.mono (by first | decide | omega)) (by rfl) (pa_cons (pv 0) (pa_cons pe_int pa_nil))) pe_int) (pa_cons (pe_op op_sub (pe_cal C__law_draw (hr.mono (by first | decide | omega)) (by rfl) (pa_cons (pv 0) (pa_cons pe_int pa_nil))) pe_int) (pa_cons pe_int (pa_cons pe_int (pa_cons (pe_un un_neg pe_int) pa_nil))))))))) pa_nil))))
    (pss_cons (ps_set (i := 3) sc__law_part.nd rfl (by first | exact Or.inl rfl | exact Or.inr rfl) (pe_cal C__law_of (hr.mono (by first | decide | omega)) (by rfl) (pa_cons (pv 0) (pa_cons (pe_lst (pa_cons pe_int (pa_cons (pe_op op_add pe_int (pe_cal C__law_draw (hr.mono (by first | decide | omega)) (by rfl) (pa_cons (pv 0) (pa_cons pe_int pa_nil)))) (pa_cons (pe_op op_sub (pe_un un_neg pe_int) (pe_cal C__law_draw (hr.mono (by first | decide | omega)) (by rfl) (pa_cons (pv 0) (pa_cons pe_int pa_nil)))) (pa_cons pe_int (pa_cons (pe_un un_neg pe_int) (pa_cons pe_int (pa_cons pe_int pa_nil)))))))) pa_nil))))
    (pss_cons (ps_if (pt_cmpR op_eq (pv 1) pe_int (nomark _))
    (pss_one (ps_ret (pe_tup (pa_cons (pv 2) (pa_cons pe_int pa_nil)))))
    pss_nil)
    (pss_cons (ps_if (pt_cmpR op_eq (pv 1) pe_int (nomark _))
    (pss_one (ps_ret (pe_tup (pa_cons (pe_cal C__law_draw (hr.mono (by first | decide | omega)) (by rfl) (pa_cons (pv 0) (pa_cons (pe_op op_pow pe_int pe_int) pa_nil))) (pa_cons (pe_op op_add pe_int (pe_cal C__law_draw (hr.mono (by first | decide | omega)) (by rfl) (pa_cons (pv 0) (pa_cons (pe_op op_sub (pe_op op_pow pe_int pe_int) pe_int) pa_nil)))) pa_nil)))))
    pss_nil)
    (pss_one (ps_ret (pe_tup (pa_cons (pv 2) (pa_cons (pv 3) pa_nil)))))))))), ?_⟩
    try simp only [cxK]
    rw [show L2.start N__law_part [.ref a] = [some (.ref a), none, none, none] from rfl]
    walk_at "go"
    refine g_drawB hB ⟨by decide, by decide⟩ fun r H1 ra rb B1 c1 => ?_
    walk_at "go"
    refine g_drawB B1 ⟨by decide, by decide⟩ fun r2 H2 r2a r2b B2 c2 => ?_
    walk_at "go"
    refine g_drawB B2 ⟨by decide, by decide⟩ fun r3 H3 r3a r3b B3 c3 => ?_
    walk_at "go"
    rename_i p1 h1
    have B4 := bag_new B3 h1 (o := .lst [V.int 0, V.int 1, V.int (-1), V.int (r2 - 12), V.int (r3 - 12), V.int 6, V.int 999999999, V.int (-999999999)])
    refine g_of B4 upd_same (ne_bag B3 h1) ⟨by simp, by simp⟩ fun x H4 hx B5 c4 => ?_
    have ex : ∃ n : Int, x = .int n ∧ n.natAbs < 2 ^ 30 := by
      simp only [List.mem_cons, List.not_mem_nil, or_false] at hx
      rcases hx with rfl | rfl | rfl | rfl | rfl | rfl | rfl | rfl <;> exact ⟨_, rfl, by omega⟩
    obtain ⟨n, rfl, hn⟩ := ex
    have k1 : Chg a H H4 := (((c1.trans c2).trans c3).trans (Chg.new h1)).trans c4
    clear c1 c2 c3 c4 hx B1 B2 B3 B4 h1
    walk_at "go"
    refine g_drawB B5 ⟨by decide, by decide⟩ fun r4 H5 r4a r4b B6 c5 => ?_
    walk_at "go"
    refine g_drawB B6 ⟨by decide, by decide⟩ fun r5 H6 r5a r5b B7 c6 => ?_
    walk_at "go"
    rename_i p2 h2
    refine g_of (bag_new B7 h2) upd_same (ne_bag B7 h2) ⟨by simp, by simp⟩ fun y H7 hy B8 c7 => ?_
    have ey : ∃ d : Int, y = .int d ∧ d ≠ 0 ∧ d.natAbs < 2 ^ 30 := by
      simp only [List.mem_cons, List.not_mem_nil, or_false] at hy
      rcases hy with rfl | rfl | rfl | rfl | rfl | rfl | rfl <;> exact ⟨_, rfl, by omega, by omega⟩
    obtain ⟨d, rfl, hd, hd2⟩ := ey
    have k2 : Chg a H H7 := (((k1.trans c5).trans c6).trans (Chg.new h2)).trans c7
    clear k1 c5 c6 c7 hy B5 B6 B7 h2
    walk_at "go"
    refine g_iteD (fun z1 => ?_) (fun z1 => ?_)
    · walk_at "go"
      rename_i p3 h3
      exact q p3 n 1 _ (bag_new B8 h3) (k2.trans (Chg.new h3)) upd_same (by decide) hn (by decide)
    walk_at "go"
    refine g_iteD (fun z2 => ?_) (fun z2 => ?_)
    · walk_at "go"
      rw [show (10 : Int) ^ Int.toNat 9 = 1000000000 from by decide]
      refine g_drawB B8 ⟨by decide, by decide⟩ fun r6 H8 r6a r6b B9 c8 => ?_
      walk_at "go"
      rw [show (10 : Int) ^ Int.toNat 9 = 1000000000 from by decide]
      refine g_drawB B9 ⟨by decide, by decide⟩ fun r7 H9 r7a r7b B10 c9 => ?_
      walk_at "go"
      rename_i p3 h3
      exact q p3 r6 (1 + r7) _ (bag_new B10 h3) (((k2.trans c8).trans c9).trans (Chg.new h3)) upd_same (by omega) (by omega) (by omega)
    · walk_at "go"
      rename_i p3 h3
      exact q p3 n d _ (bag_new B8 h3) (k2.trans (Chg.new h3)) upd_same hd hn hd2
theorem c_part (T : Top K mg) : Cal P w K mg base "_law_part" 3 P__law_part spPart := cal_mk T.f__law_part (ok_part T) (fun F => F.bindsN fun _ _ _ _ _ _ us hl => match us, hl with | [_], _ => rfl)
/-! _law_told_like -/
theorem sgn_n {n d : Int} (hd : d ≠ 0) : ((if d > 0 then (1 : Int) else -1) * n) / ((Nat.gcd n.natAbs d.natAbs : Nat) : Int) = nT n d := by
  have g := gcd_pos (n := n) hd
  have e := cmn_n n d
  unfold cmn at e
  by_cases h : d < 0
  · rw [if_neg (show ¬ d > 0 by omega)]
    rw [if_pos h] at e
    have e2 : (-1 : Int) * n = nT n d * ((Nat.gcd n.natAbs d.natAbs : Nat) : Int) := by
      rw [← e, Int.mul_neg, Int.neg_mul, Int.one_mul, Int.neg_neg]
      rw [show nT (-(nT n d * ((Nat.gcd n.natAbs d.natAbs : Nat) : Int))) d = nT n d by
        rw [Int.mul_neg] at e
        rw [e]]
      rw [show Nat.gcd (-(nT n d * ((Nat.gcd n.natAbs d.natAbs : Nat) : Int))).natAbs d.natAbs = Nat.gcd n.natAbs d.natAbs by
        rw [Int.mul_neg] at e
        rw [e]]
    rw [e2]
    exact Int.mul_ediv_cancel _ (by omega)
  · rw [if_pos (show d > 0 by omega), Int.one_mul]
    rw [if_neg h] at e
    have : n / ((Nat.gcd n.natAbs d.natAbs : Nat) : Int) = (nT n d * ((Nat.gcd n.natAbs d.natAbs : Nat) : Int)) / ((Nat.gcd n.natAbs d.natAbs : Nat) : Int) := by rw [e]
    rw [this]
    exact Int.mul_ediv_cancel _ (by omega)
theorem sgn_d {n d : Int} (hd : d ≠ 0) : ((if d > 0 then (1 : Int) else -1) * d) / ((Nat.gcd n.natAbs d.natAbs : Nat) : Int) = nB n d := by
  have g := gcd_pos (n := n) hd
  have e := cmn_d n d
  unfold cmn at e
  by_cases h : d < 0
  · rw [if_neg (show ¬ d > 0 by omega)]
    rw [if_pos h] at e
    have e2 : (-1 : Int) * d = nB n d * ((Nat.gcd n.natAbs d.natAbs : Nat) : Int) := by
      rw [Int.mul_neg] at e
      omega
    rw [e2]
    exact Int.mul_ediv_cancel _ (by omega)
  · rw [if_pos (show d > 0 by omega), Int.one_mul]
    rw [if_neg h] at e
    have : d / ((Nat.gcd n.natAbs d.natAbs : Nat) : Int) = (nB n d * ((Nat.gcd n.natAbs d.natAbs : Nat) : Int)) / ((Nat.gcd n.natAbs d.natAbs : Nat) : Int) := by rw [e]
    rw [this]
    exact Int.mul_ediv_cancel _ (by omega)
def spTold (K : PySem.W.Frag) : Sp := fun vs H Q _ => ∃ (p x : Addr) (n d : Int), vs = [.ref p, .ref x] ∧ Fr K H p x n d ∧ (n.natAbs < 2 ^ 1700 ∧ d.natAbs < 2 ^ 1700) ∧ ∀ H', Same H H' → Q (.bl true) H'
theorem ok_told (T : Top K mg) {f : Addr} {fd : FuncData} (F : FnP K "_law_told_like" s__law_told_like f fd) : FnOk P w K mg base CX0 5 f fd P__law_told_like (spTold K) := by
  have cl_Share := T.cl_Share; have na_Share_top := T.na_Share_top; have na_Share_bottom := T.na_Share_bottom; have in_Share := T.in_Share; have ki_o_Share_o_Share := T.ki_o_Share_o_Share; have ki_int_o_Share := T.ki_int_o_Share; have ki_bool_o_Share := T.ki_bool_o_Share; have ki_NoneType_o_Share := T.ki_NoneType_o_Share; have ki_str_o_Share := T.ki_str_o_Share; have ki_list_o_Share := T.ki_list_o_Share; have ki_tuple_o_Share := T.ki_tuple_o_Share; have nf_Share_o_Share := T.nf_Share_o_Share; have nf_Share_int := T.nf_Share_int; have nf_Share_bool := T.nf_Share_bool; have nf_Share_NoneType := T.nf_Share_NoneType; have nf_Share_str := T.nf_Share_str; have nf_Share_list := T.nf_Share_list; have nf_Share_tuple := T.nf_Share_tuple
  have C__law_common := c_common (P := P) (w := w) (base := base) T
  have MC_Share___str__ := mc_Share___str__ (P := P) (w := w) (base := base) T
  have MC_Share___repr__ := mc_Share___repr__ (P := P) (w := w) (base := base) T
  have MC_Share___bool__ := mc_Share___bool__ (P := P) (w := w) (base := base) T
  refine F.ok sc__law_told_like (fun vs H Q E h => ?_) (fun cdv A outer s H vs Q E hr h => ?_)
  · obtain ⟨p, x, n, d, rfl, _⟩ := h
    rfl
  · obtain ⟨p, x, n, d, rfl, f1, ⟨l1, l2⟩, k⟩ := h
    refine ⟨_, PSs.nox (pss_cons (ps_set (i := 2) sc__law_told_like.nd rfl (by first | exact Or.inl rfl | exact Or.inr rfl) (pe_cal C__law_common (hr.mono (by first | decide | omega)) (by rfl) (pa_cons (pe_ix (k_ix (K := K) (by rfl)) (pv 1) pe_int (fun _ _ => rfl)) (pa_cons (pe_ix (k_ix (K := K) (by rfl)) (pv 1) pe_int (fun _ _ => rfl)) pa_nil))))
    (C8.pss_cut (ps_set (i := 3) sc__law_told_like.nd rfl (by first | exact Or.inl rfl | exact Or.inr rfl) (pe_ifExp (pt_cmpR op_gt (pe_ix (k_ix (K := K) (by rfl)) (pv 1) pe_int (fun _ _ => rfl)) pe_int (nomark _)) pe_int (pe_un un_neg pe_int)))
    (pss_cons (ps_par (i := 4) (j := 5) (by rfl) sc__law_told_like.nd rfl rfl (by decide) rfl rfl (pa_cons (pe_op op_fdivW (pe_op op_mulW (pv 3) (pe_ix (k_ix (K := K) (by rfl)) (pv 1) pe_int (fun _ _ => rfl))) (pv 2)) (pa_cons (pe_op op_fdivW (pe_op op_mulW (pv 3) (pe_ix (k_ix (K := K) (by rfl)) (pv 1) pe_int (fun _ _ => rfl))) (pv 2)) pa_nil)) (by rfl))
    (C8.pss_cut (ps_set (i := 6) sc__law_told_like.nd rfl (by first | exact Or.inl rfl | exact Or.inr rfl) (pe_ifExp (pt_cmpR op_eq (pv 5) pe_int (nomark _)) (pe_callTy call_str_int (by rfl) T.z_str (by decide +kernel) (pa_cons (pv 4) pa_nil)) (pe_op op_add_str (pe_op op_add_str (pe_callTy call_str_int (by rfl) T.z_str (by decide +kernel) (pa_cons (pv 4) pa_nil)) pe_str) (pe_callTy call_str_int (by rfl) T.z_str (by decide +kernel) (pa_cons (pv 5) pa_nil)))))
    (pss_one (ps_ret (pe_and (pe_cmpR op_eq (pe_callTy (call_ownStr MC_Share___str__ (hr.mono (by first | decide | omega))) (by rfl) T.z_str (by decide +kernel) (pa_cons (pv 0) pa_nil)) (pv 6) (nomark _)) (pe_and (pe_cmpR op_eq (pe_callB (call_ownRepr MC_Share___repr__ (hr.mono (by first | decide | omega))) (by rfl) T.z_repr (by decide +kernel) (pa_cons (pv 0) pa_nil)) (pe_op op_add_str (pe_op op_add_str (pe_op op_add_str (pe_op op_add_str pe_str (pe_callTy call_str_int (by rfl) T.z_str (by decide +kernel) (pa_cons (pv 4) pa_nil))) pe_str) (pe_callTy call_str_int (by rfl) T.z_str (by decide +kernel) (pa_cons (pv 5) pa_nil))) pe_str) (nomark _)) (pe_one (pe_cmpR op_eq (pe_callTy (call_ownBool MC_Share___bool__ (hr.mono (by first | decide | omega))) (by rfl) T.z_bool (by decide +kernel) (pa_cons (pv 0) pa_nil)) (pe_cmpR op_ne (pe_ix (k_ix (K := K) (by rfl)) (pv 1) pe_int (fun _ _ => rfl)) pe_int (nomark _)) (nomark _))))))))))), ?_⟩
    try simp only [cxK]
    rw [show L2.start N__law_told_like [.ref p, .ref x] = [some (.ref p), some (.ref x), none, none, none, none, none] from rfl]
    obtain ⟨⟨dx, hp⟩, hx, z1⟩ := id f1
    have t1 := ltT z1 l1
    have t2 := ltB (n := n) z1 l2
    have g0 := gcd_pos (n := n) z1
    have g1 : ((Nat.gcd n.natAbs d.natAbs : Nat) : Int).natAbs < 2 ^ 1700 := Nat.lt_of_le_of_lt (by rw [Int.natAbs_natCast]; exact gcd_le z1) l2
    have c0 : ∀ i, CDivW i ((Nat.gcd n.natAbs d.natAbs : Nat) : Int) := fun i => wide_div (by omega) g1 (by decide) (by decide)
    have e1 := sgn_n (n := n) z1
    have e2 := sgn_d (n := n) z1
    have rz := rep_zero f1.rep
    walk_at "go"
    refine ⟨n, d, rfl, ?_⟩
    walk_at "go"
    refine g_cut (fun σ' H' => σ' = [some (.ref p), some (.ref x), some (.int ((Nat.gcd n.natAbs d.natAbs : Nat) : Int)), some (.int (if d > 0 then (1 : Int) else -1)), none, none, none] ∧ H = H') ?_ ?_
    · walk_at "go"
      refine g_iteD (fun h => ?_) (fun h => ?_)
      · walk_at "go"
        rw [if_pos h]
        exact ⟨rfl, rfl⟩
      · walk_at "go"
        rw [if_neg h]
        exact ⟨rfl, rfl⟩
    rintro σ' H' ⟨rfl, rfl⟩
    have m1 : CMulW (if d > 0 then (1 : Int) else -1) n := by split <;> exact mul_c (k := 1700) (by decide) l1 (by decide) (by decide)
    have m2 : CMulW (if d > 0 then (1 : Int) else -1) d := by split <;> exact mul_c (k := 1700) (by decide) l2 (by decide) (by decide)
    generalize hsg : (if d > 0 then (1 : Int) else -1) = sg at m1 m2 e1 e2 ⊢
    have m3 := c0 (sg * n)
    have m4 := c0 (sg * d)
    walk_at "go"
    rw [e1, e2]
    generalize nT n d = t at *
    generalize nB n d = b at *
    have t1' : t.natAbs < 2 ^ 1800 := lt_pow t1 (by decide)
    have t2' : b.natAbs < 2 ^ 1800 := lt_pow t2 (by decide)
    have w1 := wrd_len t1'
    have w2 := wrd_len t2'
    have g1' : t.natAbs.log2 < 1920 := Nat.lt_of_lt_of_le (PySem.Flt.log2_lt_of (by decide) t1') (by decide)
    have g2' : b.natAbs.log2 < 1920 := Nat.lt_of_lt_of_le (PySem.Flt.log2_lt_of (by decide) t2') (by decide)
    refine g_cut (fun σ' H' => σ' = [some (.ref p), some (.ref x), some (.int ((Nat.gcd n.natAbs d.natAbs : Nat) : Int)), some (.int sg), some (.int t), some (.int b), some (.str (sOf (strT t b)))] ∧ H = H') ?_ ?_
    · unfold strT
      walk_at "go"
      refine g_iteD (fun h => ?_) (fun h => ?_)
      · walk_at "go"
        refine ⟨t, rfl, g1', ?_⟩
        rw [int_word]
        walk_at "go"
        rw [if_pos h]
        exact ⟨rfl, rfl⟩
      · walk_at "go"
        refine ⟨t, rfl, g1', ?_⟩
        rw [int_word]
        walk_at "go"
        refine ⟨_, _, rfl, rfl, sz_ok (by rw [sOf_len, show (Str.ofString "/").length = 1 from rfl]; omega), ?_⟩
        rw [show Str.ofString "/" = sOf [47] from rfl, sOf_app]
        walk_at "go"
        refine ⟨b, rfl, g2', ?_⟩
        rw [int_word]
        walk_at "go"
        refine ⟨_, _, rfl, rfl, sz_ok (by rw [sOf_len, sOf_len, List.length_append]; simp; omega), ?_⟩
        rw [sOf_app, List.append_assoc]
        walk_at "go"
        rw [if_neg h]
        exact ⟨rfl, rfl⟩
    rintro σ' H' ⟨rfl, rfl⟩
    walk_at "go"
    refine g_ownStr hp ⟨p, t, b, rfl, ⟨dx, hp⟩, ⟨t1', t2'⟩, fun H1 s1 => ⟨_, rfl, ?_⟩⟩
    walk_at "go"
    rw [decide_eq_true rfl]
    walk_at "go"
    have hp1 := s1 _ _ hp
    refine g_ownRepr hp1 ⟨p, t, b, rfl, ⟨dx, hp1⟩, ⟨t1', t2'⟩, fun H2 s2 => ⟨_, rfl, ?_⟩⟩
    walk_at "go"
    refine ⟨t, rfl, g1', ?_⟩
    rw [int_word]
    walk_at "go"
    refine ⟨_, _, rfl, rfl, sz_ok (by rw [show (Str.ofString "Share(").length = 6 from rfl, sOf_len]; omega), ?_⟩
    rw [show Str.ofString "Share(" = sOf [83, 104, 97, 114, 101, 40] from rfl, sOf_app]
    walk_at "go"
    refine ⟨_, _, rfl, rfl, sz_ok (by rw [sOf_len, List.length_append, show (Str.ofString ", ").length = 2 from rfl]; simp; omega), ?_⟩
    rw [show Str.ofString ", " = sOf [44, 32] from rfl, sOf_app]
    walk_at "go"
    refine ⟨b, rfl, g2', ?_⟩
    rw [int_word]
    walk_at "go"
    refine ⟨_, _, rfl, rfl, sz_ok (by rw [sOf_len, sOf_len, List.length_append, List.length_append]; simp; omega), ?_⟩
    rw [sOf_app]
    walk_at "go"
    refine ⟨_, _, rfl, rfl, sz_ok (by rw [sOf_len, List.length_append, List.length_append, List.length_append, show (Str.ofString ")").length = 1 from rfl]; simp; omega), ?_⟩
    rw [show Str.ofString ")" = sOf [41] from rfl, sOf_app]
    walk_at "go"
    unfold reprT
    rw [decide_eq_true rfl]
    walk_at "go"
    have s3 := s1.trans s2
    have hp2 := s3 _ _ hp
    have hx2 := s3 _ _ hx
    refine g_ownBool hp2 ⟨p, t, b, rfl, ⟨dx, hp2⟩, ⟨_, rfl, ?_⟩⟩
    walk_at "go"
    rw [decide_eq_true (show (!decide (t = 0)) = (!decide (n = 0)) by rw [decide_eq_decide.mpr rz])]
    exact k _ s3
theorem c_told (T : Top K mg) : Cal P w K mg base "_law_told_like" 5 P__law_told_like (spTold K) := cal_mk T.f__law_told_like (ok_told T) (fun F => F.bindsN fun _ _ _ _ _ _ us hl => match us, hl with | [_, _], _ => rfl)
end

set_option Elab.async false
set_option linter.all false
set_option maxRecDepth 100000
set_option maxHeartbeats 4000000
set_option exponentiation.threshold 5000
open PySem PySem.Spec L2



section
variable {P : Program} {w : World} {K : PySem.W.Frag} {mg : Str → Option Value} {base : Heap}
abbrev CW (K : PySem.W.Frag) : Addr := He.ga K "InvalidWeights"
/-! over a share that is 0 -/
def spOverX (K : PySem.W.Frag) : Sp := fun vs H Q E => ∃ (p q : Addr) (c : Int), vs = [.ref p, .ref q] ∧ Sh K H q 0 c ∧ E (.ref (CW K)) none H
theorem ok_overX (T : Top K mg) {f : Addr} {fd : FuncData} (F : FunD K "over" "Share.over" (defArgs s_Share_over) (defBody s_Share_over) (defScope s_Share_over) [] [] f fd) : FnOk P w K mg base (L2.CX P w) 1 f fd P_Share_over (spOverX K) := by
  have cl_Share := T.cl_Share; have na_Share_top := T.na_Share_top; have na_Share_bottom := T.na_Share_bottom; have in_Share := T.in_Share; have ki_o_Share_o_Share := T.ki_o_Share_o_Share; have ki_int_o_Share := T.ki_int_o_Share; have ki_bool_o_Share := T.ki_bool_o_Share; have ki_NoneType_o_Share := T.ki_NoneType_o_Share; have ki_str_o_Share := T.ki_str_o_Share; have ki_list_o_Share := T.ki_list_o_Share; have ki_tuple_o_Share := T.ki_tuple_o_Share; have nf_Share_o_Share := T.nf_Share_o_Share; have nf_Share_int := T.nf_Share_int; have nf_Share_bool := T.nf_Share_bool; have nf_Share_NoneType := T.nf_Share_NoneType; have nf_Share_str := T.nf_Share_str; have nf_Share_list := T.nf_Share_list; have nf_Share_tuple := T.nf_Share_tuple
  refine F.ok sc_Share_over (fun vs H Q E h => ?_) (fun cdv A outer s H vs Q E hr h => ?_)
  · obtain ⟨p, q, c, rfl, _⟩ := h
    rfl
  · obtain ⟨p, q, c, rfl, ⟨dy, hq⟩, k⟩ := h
    refine ⟨_, (pss_cons (ps_if (pt_cmpR op_eq (k_fld (K := K) (by rfl) (pv 1) rfl) pe_int (nomark _))
      (pss_one (ps_raise rfl (takes_of rfl rfl rfl rfl) (pmk_own0 PySem.F.excBase_ValueError T.ex_InvalidWeights.xe T.g_InvalidWeights T.ex_InvalidWeights.kp (raises_own T.ex_InvalidWeights.sb T.ex_InvalidWeights.ty) (by rfl)))) pss_nil) pss_never), ?_⟩
    try simp only [cxK]
    rw [show L2.start N_Share_over [.ref p, .ref q] = [some (.ref p), some (.ref q)] from rfl]
    walk_at "go"
    exact k
theorem mx_over (T : Top K mg) : MCalX P w K mg base (CS K) "over" 1 P_Share_over (spOverX K) := mcalx_mk T.me_Share_over T.f_Share_over (ok_overX T) (fun F => F.bindsN fun _ _ _ _ _ _ us hl => match us, hl with | [_, _], _ => rfl)
/-- isinstance(e, ..) in the suite -/
def rIsS (K : PySem.W.Frag) (D a : Addr) (cls : Value) (d : Option Addr) : List V → Hp → VK → Prop := fun xs H Q => cls = .ref D ∧ d = none ∧ rIsE K D a xs H Q
theorem call_isS {X : Cx} {a D : Addr} {oe : Obj} {cls : Value} {d : Option Addr} {pn : List (Addr × Obj)} (C : ExcC X.K D) (hz : Zc cls d oe) (hf : ∃ vs, oe.data = .fields vs) : CallR (X.suite a ((a, oe) :: pn)) (.builtin "isinstance") (rIsS X.K D a cls d) := by
  intro pins s σ H xs us Q I r h
  obtain ⟨rfl, rfl, h⟩ := h
  exact call_isE C hz hf pins s σ H xs us Q I r h
theorem k_isS {X : Cx} {K : PySem.W.Frag} {a D : Addr} {oe : Obj} {cls : Value} {d : Option Addr} {pn : List (Addr × Obj)} (ek : X.K = K) (C : ExcC K D) (hz : Zc cls d oe) (hf : ∃ vs, oe.data = .fields vs) : CallR (X.suite a ((a, oe) :: pn)) (.builtin "isinstance") (rIsS K D a cls d) := by subst ek; exact call_isS C hz hf
def spRefused (K : PySem.W.Frag) : Sp := fun vs H Q _ => ∃ (p q : Addr) (t b c : Int), vs = [.ref p, .ref q] ∧ Sh K H p t b ∧ Sh K H q 0 c ∧ Q (.bl true) H
def tSuite (K : PySem.W.Frag) (a : Addr) (cls : Value) (d : Option Addr) : TS := tRet (tAndV (tCB (rIsS K (CW K) a cls d) (tCons (tVar 2) (tCons (tC (.ref (He.ga K "InvalidError"))) tNil))) (tCB (rIsS K (CW K) a cls d) (tCons (tVar 2) (tCons (tC (.ty "ValueError")) tNil))))
theorem ok_refused (T : Top K mg) {f : Addr} {fd : FuncData} (F : FnP K "_law_refused" s__law_refused f fd) : FnOk P w K mg base CX0 2 f fd P__law_refused (spRefused K) := by
  have cl_Share := T.cl_Share; have na_Share_top := T.na_Share_top; have na_Share_bottom := T.na_Share_bottom; have in_Share := T.in_Share; have ki_o_Share_o_Share := T.ki_o_Share_o_Share; have ki_int_o_Share := T.ki_int_o_Share; have ki_bool_o_Share := T.ki_bool_o_Share; have ki_NoneType_o_Share := T.ki_NoneType_o_Share; have ki_str_o_Share := T.ki_str_o_Share; have ki_list_o_Share := T.ki_list_o_Share; have ki_tuple_o_Share := T.ki_tuple_o_Share; have nf_Share_o_Share := T.nf_Share_o_Share; have nf_Share_int := T.nf_Share_int; have nf_Share_bool := T.nf_Share_bool; have nf_Share_NoneType := T.nf_Share_NoneType; have nf_Share_str := T.nf_Share_str; have nf_Share_list := T.nf_Share_list; have nf_Share_tuple := T.nf_Share_tuple
  have MX := mx_over (P := P) (w := w) (base := base) T
  refine F.ok sc__law_refused (fun vs H Q E h => ?_) (fun cdv A outer s H vs Q E hr h => ?_)
  · obtain ⟨p, q, t, b, c, rfl, _⟩ := h
    rfl
  · obtain ⟨p, q, t, b, c, rfl, ⟨dx, hp⟩, ⟨dy, hq⟩, k⟩ := h
    refine ⟨_, PSs.nox (pss_cons (ps_try_as (i := 2) (tb := fun W => tDrop (tMethX (CS K) "over" (spOverX K) (WE W) (tVar 0) (tCons (tVar 1) tNil))) (ts := tSuite K) (Wout := fun _ _ _ _ => False) rfl rfl sc__law_refused.nd rfl rfl ⟨rfl, by decide, Or.inl T.g_InvalidWeights⟩ takes0
      (fun W pn xe tk _ => pss_one (ps_expr (pe_mcalX (pv 0) T.cl_Share MX (hr.mono (by first | decide | omega)) (fun σ => passAt tk σ) (pa_cons (pv 1) pa_nil))))
      (fun a oe cls d pn hz hf => pss_one (ps_ret (pe_and (pe_callB (k_isS (K := K) (by rfl) T.ex_InvalidWeights.cc hz hf) (by rfl) T.z_isinstance (by decide +kernel) (pa_cons (pv 2) (pa_cons (pe_glob (v := .ref (He.ga K "InvalidError")) (by rfl) T.g_InvalidError rfl) pa_nil)))
        (pe_one (pe_callB (k_isS (K := K) (by rfl) T.ex_InvalidWeights.cc hz hf) (by rfl) T.z_isinstance (by decide +kernel) (pa_cons (pv 2) (pa_cons (pe_bltn (v := .ty "ValueError") (u := .type "ValueError") (by rfl) T.z_ValueError (by decide +kernel) rfl) pa_nil))))))))
      (pss_one (ps_ret pe_bl))), ?_⟩
    try simp only [cxK]
    rw [show L2.start N__law_refused [.ref p, .ref q] = [some (.ref p), some (.ref q), none] from rfl]
    walk_at "go"
    unfold tMethX
    walk_at "go"
    refine ⟨p, dx, _, rfl, hp, rfl, ?_⟩
    walk_at "go"
    refine ⟨p, q, c, rfl, ⟨dy, hq⟩, true, T.ex_InvalidWeights.me, fun _ a ha => ?_, fun z => Bool.noConfusion z⟩
    unfold tSuite
    rw [show (List.set [some (V.ref p), some (V.ref q), none] 2 (some (V.ref a)) : L2.St) = [some (V.ref p), some (V.ref q), some (V.ref a)] from rfl]
    walk_at "go"
    refine ⟨rfl, rfl, _, _, true, rfl, fun u ru => ru, T.ki_o_InvalidWeights_o_InvalidError, ?_⟩
    walk_at "go"
    refine ⟨rfl, rfl, _, _, true, rfl, fun u ru => ru, T.ki_o_InvalidWeights_ValueError, ?_⟩
    walk_at "go"
    exact k
theorem c_refused (T : Top K mg) : Cal P w K mg base "_law_refused" 2 P__law_refused (spRefused K) := cal_mk T.f__law_refused (ok_refused T) (fun F => F.bindsN fun _ _ _ _ _ _ us hl => match us, hl with | [_, _], _ => rfl)
end

set_option Elab.async false
set_option linter.all false
set_option maxRecDepth 100000
set_option maxHeartbeats 4000000
set_option exponentiation.threshold 5000
open PySem PySem.Spec L2



section
variable {P : Program} {w : World} {K : PySem.W.Frag} {mg : Str → Option Value} {base : Heap}
/-! the operations, by what the shares stand for -/
structure Fq (K : PySem.W.Frag) (H : Hp) (p : Addr) (n d : Int) : Prop where
  sh : Sh K H p (nT n d) (nB n d)
  nz : d ≠ 0
theorem Fr.q {H : Hp} {p x : Addr} {n d : Int} (h : Fr K H p x n d) : Fq K H p n d := ⟨h.sh, h.nz⟩
theorem Fq.sm {H H' : Hp} {p : Addr} {n d : Int} (h : Fq K H p n d) (s : Same H H') : Fq K H' p n d := ⟨h.sh.sm s, h.nz⟩
theorem Fq.rep {H : Hp} {p : Addr} {n d : Int} (h : Fq K H p n d) : Rep (nT n d) (nB n d) n d := nrm_rep h.nz
theorem Fq.of {H : Hp} {p : Addr} {t b n d : Int} (h : Sh K H p t b) (r : Rep t b n d) : Fq K H p n d := by
  obtain ⟨e1, e2⟩ := rep_self r
  exact ⟨by rw [← e1, ← e2]; exact h, r.1⟩
section
variable {H : Hp} {Q : VK} {p q : Addr} {n d n' d' : Int}
theorem g_addF (f : Fq K H p n d) (f' : Fq K H q n' d') (l : n.natAbs < 2 ^ 900 ∧ d.natAbs < 2 ^ 900 ∧ n'.natAbs < 2 ^ 900 ∧ d'.natAbs < 2 ^ 900)
    (k : ∀ r H', Same H H' → Fq K H' r (n * d' + n' * d) (d * d') → Q (.ref r) H') : spAdd K [.ref p, .ref q] H Q E0 :=
  ⟨p, q, _, _, _, _, rfl, f.sh, f'.sh, ⟨ltT f.nz l.1, ltB f.nz l.2.1, ltT f'.nz l.2.2.1, ltB f'.nz l.2.2.2⟩, Int.mul_ne_zero (pos_ne f.rep.2.1.1) (pos_ne f'.rep.2.1.1),
    fun r H' _ s h => k r H' s (Fq.of h (rep_add f.rep f'.rep))⟩
theorem g_subF (f : Fq K H p n d) (f' : Fq K H q n' d') (l : n.natAbs < 2 ^ 900 ∧ d.natAbs < 2 ^ 900 ∧ n'.natAbs < 2 ^ 900 ∧ d'.natAbs < 2 ^ 900)
    (k : ∀ r H', Same H H' → Fq K H' r (n * d' - n' * d) (d * d') → Q (.ref r) H') : spSub K [.ref p, .ref q] H Q E0 :=
  ⟨p, q, _, _, _, _, rfl, f.sh, f'.sh, ⟨ltT f.nz l.1, ltB f.nz l.2.1, ltT f'.nz l.2.2.1, ltB f'.nz l.2.2.2⟩, Int.mul_ne_zero (pos_ne f.rep.2.1.1) (pos_ne f'.rep.2.1.1),
    fun r H' _ s h => k r H' s (Fq.of h (rep_sub f.rep f'.rep))⟩
theorem g_mulF (f : Fq K H p n d) (f' : Fq K H q n' d') (l : n.natAbs < 2 ^ 900 ∧ d.natAbs < 2 ^ 900 ∧ n'.natAbs < 2 ^ 900 ∧ d'.natAbs < 2 ^ 900)
    (k : ∀ r H', Same H H' → Fq K H' r (n * n') (d * d') → Q (.ref r) H') : spMul K [.ref p, .ref q] H Q E0 :=
  ⟨p, q, _, _, _, _, rfl, f.sh, f'.sh, ⟨ltT f.nz l.1, ltB f.nz l.2.1, ltT f'.nz l.2.2.1, ltB f'.nz l.2.2.2⟩, Int.mul_ne_zero (pos_ne f.rep.2.1.1) (pos_ne f'.rep.2.1.1),
    fun r H' _ s h => k r H' s (Fq.of h (rep_mul f.rep f'.rep))⟩
theorem g_negF (f : Fq K H p n d) (l : n.natAbs < 2 ^ 900 ∧ d.natAbs < 2 ^ 900) (k : ∀ r H', Same H H' → Fq K H' r (-n) d → Q (.ref r) H') : spNeg K [.ref p] H Q E0 :=
  ⟨p, _, _, rfl, f.sh, ⟨ltT f.nz l.1, ltB f.nz l.2⟩, pos_ne f.rep.2.1.1, fun r H' _ s h => k r H' s (Fq.of h (rep_neg f.rep))⟩
theorem g_overF (f : Fq K H p n d) (f' : Fq K H q n' d') (z : n' ≠ 0) (l : n.natAbs < 2 ^ 900 ∧ d.natAbs < 2 ^ 900 ∧ n'.natAbs < 2 ^ 900 ∧ d'.natAbs < 2 ^ 900)
    (k : ∀ r H', Same H H' → Fq K H' r (n * d') (d * n') → Q (.ref r) H') : spOver K [.ref p, .ref q] H Q E0 :=
  ⟨p, q, _, _, _, _, rfl, f.sh, f'.sh, ⟨ltT f.nz l.1, ltB f.nz l.2.1, ltT f'.nz l.2.2.1, ltB f'.nz l.2.2.2⟩, Int.mul_ne_zero (pos_ne f.rep.2.1.1) (fun e => z ((rep_zero f'.rep).mp e)),
    fun r H' _ s h => k r H' s (Fq.of h (rep_over f.rep f'.rep z))⟩
theorem eqF (f : Fq K H p n d) (f' : Fq K H q n' d') : (decide (nT n d = nT n' d') && decide (nB n d = nB n' d')) = decide (n * d' = n' * d) := by
  by_cases e : n * d' = n' * d
  · obtain ⟨e1, e2⟩ := rep_eq f.rep f'.rep e
    rw [decide_eq_true e1, decide_eq_true e2, decide_eq_true e]
    rfl
  · rw [decide_eq_false e]
    by_cases e1 : nT n d = nT n' d'
    · by_cases e2 : nB n d = nB n' d'
      · exfalso
        refine e ?_
        have r1 := f.rep.2.2
        have r2 := f'.rep.2.2
        have hb := f.rep.2.1.1
        rw [← e1, ← e2] at r2
        refine Int.eq_of_mul_eq_mul_right (pos_ne hb) ?_
        calc n * d' * nB n d = (n * nB n d) * d' := by rw [Int.mul_right_comm]
          _ = (nT n d * d) * d' := by rw [r1]
          _ = (nT n d * d') * d := by rw [Int.mul_right_comm]
          _ = (n' * nB n d) * d := by rw [r2]
          _ = n' * d * nB n d := by rw [Int.mul_right_comm]
      · rw [decide_eq_false e2, Bool.and_false]
    · rw [decide_eq_false e1, Bool.false_and]
theorem g_eqF (i : InsK K (CS K)) (c : Cls K (CS K)) (nf : PySem.W.notFirst K (CS K) (.ref (CS K)) = true) (f : Fq K H p n d) (f' : Fq K H q n' d') (k : Q (.bl (decide (n * d' = n' * d))) H) : rOwnEq K (CS K) (spEqS K) (.ref p) (.ref q) H Q := by
  obtain ⟨dx, hp⟩ := f.sh
  obtain ⟨dy, hq⟩ := f'.sh
  exact g_ownEq hp (i.ty c hq) nf ⟨p, .ref q, _, _, rfl, f.sh, .inl ⟨q, _, _, rfl, f'.sh, by rw [eqF f f']; exact k⟩⟩
theorem g_isF {D : Int} {N : Int} (f : Fq K H p n d) (e : n = N) (e' : d = D) (l : N.natAbs < 2 ^ 1900 ∧ D.natAbs < 2 ^ 1900) (k : Q (.bl true) H) : spIsShare K [.ref p, .int N, .int D] H Q E0 := by
  subst e e'
  exact ⟨p, _, _, _, _, rfl, f.sh, f.rep, ⟨ltT f.nz l.1, ltB f.nz l.2, l.1, l.2⟩, k⟩
end
/-! the world of shares and pairs -/
structure Ent where
  p : Addr
  q : Addr
  n : Int
  d : Int
structure Wd (K : PySem.W.Frag) (H : Hp) (a l sp pp : Addr) (es : List Ent) : Prop where
  hs : H sp = some (.lst (es.map fun e => .ref e.p))
  hq : H pp = some (.lst (es.map fun e => .ref e.q))
  n1 : sp ≠ pp
  n2 : sp ≠ a
  n3 : pp ≠ a
  n4 : sp ≠ l
  n5 : pp ≠ l
  fr : ∀ e ∈ es, Fr K H e.p e.q e.n e.d ∧ e.n.natAbs < 2 ^ 200 ∧ e.d.natAbs < 2 ^ 200
section
variable {H H' : Hp} {a l sp pp : Addr} {es : List Ent}
theorem Wd.sm (h : Wd K H a l sp pp es) (s : Same H H') : Wd K H' a l sp pp es := ⟨s _ _ h.hs, s _ _ h.hq, h.n1, h.n2, h.n3, h.n4, h.n5, fun e he => ⟨(h.fr e he).1.sm s, (h.fr e he).2⟩⟩
theorem fr_chg {D p q : Addr} {n d : Int} {xs : List V} (f : Fr K H p q n d) (hD : H D = some (.lst xs)) (c : Chg D H H') : Fr K H' p q n d := by
  obtain ⟨dx, hp⟩ := f.sh
  exact ⟨⟨dx, c _ _ (ne_of hp hD (by intro z; cases z)) hp⟩, c _ _ (ne_of f.pr hD (by intro z; cases z)) f.pr, f.nz⟩
theorem Wd.chg (h : Wd K H a l sp pp es) (hB : Bag H a l) (c : Chg a H H') : Wd K H' a l sp pp es := by
  obtain ⟨ns, i, g, m, cc, hA, _⟩ := hB
  exact ⟨c _ _ h.n2 h.hs, c _ _ h.n3 h.hq, h.n1, h.n2, h.n3, h.n4, h.n5, fun e he => ⟨fr_chg (h.fr e he).1 hA c, (h.fr e he).2⟩⟩
theorem Wd.app {e : Ent} {H2 : Hp} (h : Wd K H a l sp pp es) (f : Fr K H2 e.p e.q e.n e.d) (l1 : e.n.natAbs < 2 ^ 200 ∧ e.d.natAbs < 2 ^ 200) (h1 : H2 sp = some (.lst (es.map (fun e => V.ref e.p) ++ [.ref e.p])))
    (h2 : H2 pp = some (.lst (es.map (fun e => V.ref e.q) ++ [.ref e.q]))) (k : ∀ b o, b ≠ sp → b ≠ pp → H b = some o → H2 b = some o) : Wd K H2 a l sp pp (es ++ [e]) := by
  refine ⟨?_, ?_, h.n1, h.n2, h.n3, h.n4, h.n5, fun x hx => ?_⟩
  · rw [List.map_append]
    exact h1
  · rw [List.map_append]
    exact h2
  · rcases List.mem_append.mp hx with hx | hx
    · obtain ⟨f1, f2⟩ := h.fr x hx
      obtain ⟨dx, hp⟩ := f1.sh
      refine ⟨⟨⟨dx, k _ _ (ne_of hp h.hs (by intro z; cases z)) (ne_of hp h.hq (by intro z; cases z)) hp⟩, k _ _ (ne_of f1.pr h.hs (by intro z; cases z)) (ne_of f1.pr h.hq (by intro z; cases z)) f1.pr, f1.nz⟩, f2⟩
    · obtain rfl := List.mem_singleton.mp hx
      exact ⟨f, l1⟩
theorem at_ent {r : Int} (h0 : 0 ≤ r) (h1 : r < es.length) : ∃ e ∈ es, atI (es.map fun e => V.ref e.p) r = some (.ref e.p) ∧ atI (es.map fun e => V.ref e.q) r = some (.ref e.q) := by
  have hl : r.toNat < es.length := by omega
  refine ⟨es[r.toNat], List.getElem_mem _, ?_, ?_⟩
  · have z := atI_nat (xs := es.map fun e => V.ref e.p) (j := r.toNat) (v := .ref es[r.toNat].p) (by rw [List.getElem?_map, List.getElem?_eq_getElem hl]; rfl)
    rwa [Int.toNat_of_nonneg h0] at z
  · have z := atI_nat (xs := es.map fun e => V.ref e.q) (j := r.toNat) (v := .ref es[r.toNat].q) (by rw [List.getElem?_map, List.getElem?_eq_getElem hl]; rfl)
    rwa [Int.toNat_of_nonneg h0] at z
end
/-! _law_worked -/
theorem p60 : (10 : Int) ^ Int.toNat 60 = ((10 ^ 60 : Nat) : Int) := by decide +kernel
theorem p60b : (10 ^ 60 : Nat) < 2 ^ 200 := by decide +kernel
theorem p60' {N : Int} (h : ((N.natAbs : Nat) : Int) < (10 : Int) ^ Int.toNat 60) : N.natAbs < 2 ^ 200 := by
  rw [p60] at h
  exact Nat.lt_trans (Int.ofNat_lt.mp h) p60b
def spWorked (K : PySem.W.Frag) : Sp := fun vs H Q _ => ∃ (a l sp pp : Addr) (es : List Ent), vs = [.ref a, .ref sp, .ref pp] ∧ Bag H a l ∧ Wd K H a l sp pp es ∧ 1 ≤ es.length ∧ es.length < 900 ∧
  ∀ H' es', Bag H' a l → Wd K H' a l sp pp es' → es.length ≤ es'.length → es'.length ≤ es.length + 1 → Q (.bl true) H'
theorem ok_worked (T : Top K mg) {f : Addr} {fd : FuncData} (F : FnP K "_law_worked" s__law_worked f fd) : FnOk P w K mg base CX0 6 f fd P__law_worked (spWorked K) := by
  have cl_Share := T.cl_Share; have na_Share_top := T.na_Share_top; have na_Share_bottom := T.na_Share_bottom; have in_Share := T.in_Share; have ki_o_Share_o_Share := T.ki_o_Share_o_Share; have ki_int_o_Share := T.ki_int_o_Share; have ki_bool_o_Share := T.ki_bool_o_Share; have ki_NoneType_o_Share := T.ki_NoneType_o_Share; have ki_str_o_Share := T.ki_str_o_Share; have ki_list_o_Share := T.ki_list_o_Share; have ki_tuple_o_Share := T.ki_tuple_o_Share; have nf_Share_o_Share := T.nf_Share_o_Share; have nf_Share_int := T.nf_Share_int; have nf_Share_bool := T.nf_Share_bool; have nf_Share_NoneType := T.nf_Share_NoneType; have nf_Share_str := T.nf_Share_str; have nf_Share_list := T.nf_Share_list; have nf_Share_tuple := T.nf_Share_tuple
  have C__law_draw := c_draw1 (P := P) (w := w) (base := base) T
  have C__law_compared := c_compared (P := P) (w := w) (base := base) T
  have C__law_is_share := c_is_share (P := P) (w := w) (base := base) T
  have C__law_told_like := c_told (P := P) (w := w) (base := base) T
  have C__law_refused := c_refused (P := P) (w := w) (base := base) T
  have MC_Share___add__ := mc_Share___add__ (P := P) (w := w) (base := base) T
  have MC_Share___sub__ := mc_Share___sub__ (P := P) (w := w) (base := base) T
  have MC_Share___mul__ := mc_Share___mul__ (P := P) (w := w) (base := base) T
  have MC_Share___neg__ := mc_Share___neg__ (P := P) (w := w) (base := base) T
  have KM_Share_over_0_other := km_Share_over_0_other (P := P) (w := w) (base := base) T
  refine F.ok sc__law_worked (fun vs H Q E h => ?_) (fun cdv A outer s H vs Q E hr h => ?_)
  · obtain ⟨a, l, sp, pp, es, rfl, _⟩ := h
    rfl
  · obtain ⟨a, l, sp, pp, es, rfl, hB, hW, hl0, hl1, k⟩ := h
    refine ⟨_, PSs.nox (pss_cons (ps_par (i := 3) (j := 4) (by rfl) sc__law_worked.nd rfl rfl (by decide) rfl rfl (pa_cons (pe_cal C__law_draw (hr.mono (by first | decide | omega)) (by rfl) (pa_cons (pv 0) (pa_cons (pe_callB (k_len (K := K) (by rfl)) (by rfl) T.z_len (by decide +kernel) (pa_cons (pv 1) pa_nil)) pa_nil))) (pa_cons (pe_cal C__law_draw (hr.mono (by first | decide | omega)) (by rfl) (pa_cons (pv 0) (pa_cons (pe_callB (k_len (K := K) (by rfl)) (by rfl) T.z_len (by decide +kernel) (pa_cons (pv 1) pa_nil)) pa_nil))) pa_nil)) (by rfl))
    (pss_cons (ps_asg (pe_tup (pa_cons (pe_ix (k_ix (K := K) (by rfl)) (pv 1) (pv 3) (fun _ _ => rfl)) (pa_cons (pe_ix (k_ix (K := K) (by rfl)) (pv 1) (pv 4) (fun _ _ => rfl)) (pa_cons (pe_ix (k_ix (K := K) (by rfl)) (pv 2) (pv 3) (fun _ _ => rfl)) (pa_cons (pe_ix (k_ix (K := K) (by rfl)) (pv 2) (pv 4) (fun _ _ => rfl)) pa_nil))))) (k_pgt (K := K) (n := 4) (by rfl) (by rfl) (pgs_cons (pg_name (i := 5) sc__law_worked.nd rfl (by first | exact Or.inl rfl | exact Or.inr rfl)) (pgs_cons (pg_name (i := 6) sc__law_worked.nd rfl (by first | exact Or.inl rfl | exact Or.inr rfl)) (pgs_cons (pg_name (i := 7) sc__law_worked.nd rfl (by first | exact Or.inl rfl | exact Or.inr rfl)) (pgs_cons (pg_name (i := 8) sc__law_worked.nd rfl (by first | exact Or.inl rfl | exact Or.inr rfl)) pgs_nil)))) (by rfl) (by rfl)))
    (pss_cons (ps_set (i := 9) sc__law_worked.nd rfl (by first | exact Or.inl rfl | exact Or.inr rfl) (pe_cal C__law_draw (hr.mono (by first | decide | omega)) (by rfl) (pa_cons (pv 0) (pa_cons pe_int pa_nil))))
    (C8.pss_cut (ps_if (pt_cmpR op_eq (pv 9) pe_int (nomark _))
    (pss_one (ps_par (i := 10) (j := 11) (by rfl) sc__law_worked.nd rfl rfl (by decide) rfl rfl (pa_cons (pe_op (op_ownBin (by rfl) T.in_Share.sf MC_Share___add__ (hr.mono (by first | decide | omega))) (pv 5) (pv 6)) (pa_cons (pe_tup (pa_cons (pe_op op_add (pe_op op_mulW (pe_ix (k_ix (K := K) (by rfl)) (pv 7) pe_int (fun _ _ => rfl)) (pe_ix (k_ix (K := K) (by rfl)) (pv 8) pe_int (fun _ _ => rfl))) (pe_op op_mulW (pe_ix (k_ix (K := K) (by rfl)) (pv 8) pe_int (fun _ _ => rfl)) (pe_ix (k_ix (K := K) (by rfl)) (pv 7) pe_int (fun _ _ => rfl)))) (pa_cons (pe_op op_mulW (pe_ix (k_ix (K := K) (by rfl)) (pv 7) pe_int (fun _ _ => rfl)) (pe_ix (k_ix (K := K) (by rfl)) (pv 8) pe_int (fun _ _ => rfl))) pa_nil))) pa_nil)) (by rfl)))
    (pss_one (ps_if (pt_cmpR op_eq (pv 9) pe_int (nomark _))
    (pss_one (ps_par (i := 10) (j := 11) (by rfl) sc__law_worked.nd rfl rfl (by decide) rfl rfl (pa_cons (pe_op (op_ownBin (by rfl) T.in_Share.sf MC_Share___sub__ (hr.mono (by first | decide | omega))) (pv 5) (pv 6)) (pa_cons (pe_tup (pa_cons (pe_op op_sub (pe_op op_mulW (pe_ix (k_ix (K := K) (by rfl)) (pv 7) pe_int (fun _ _ => rfl)) (pe_ix (k_ix (K := K) (by rfl)) (pv 8) pe_int (fun _ _ => rfl))) (pe_op op_mulW (pe_ix (k_ix (K := K) (by rfl)) (pv 8) pe_int (fun _ _ => rfl)) (pe_ix (k_ix (K := K) (by rfl)) (pv 7) pe_int (fun _ _ => rfl)))) (pa_cons (pe_op op_mulW (pe_ix (k_ix (K := K) (by rfl)) (pv 7) pe_int (fun _ _ => rfl)) (pe_ix (k_ix (K := K) (by rfl)) (pv 8) pe_int (fun _ _ => rfl))) pa_nil))) pa_nil)) (by rfl)))
    (pss_one (ps_if (pt_cmpR op_eq (pv 9) pe_int (nomark _))
    (pss_one (ps_par (i := 10) (j := 11) (by rfl) sc__law_worked.nd rfl rfl (by decide) rfl rfl (pa_cons (pe_op (op_ownBin (by rfl) T.in_Share.sf MC_Share___mul__ (hr.mono (by first | decide | omega))) (pv 5) (pv 6)) (pa_cons (pe_tup (pa_cons (pe_op op_mulW (pe_ix (k_ix (K := K) (by rfl)) (pv 7) pe_int (fun _ _ => rfl)) (pe_ix (k_ix (K := K) (by rfl)) (pv 8) pe_int (fun _ _ => rfl))) (pa_cons (pe_op op_mulW (pe_ix (k_ix (K := K) (by rfl)) (pv 7) pe_int (fun _ _ => rfl)) (pe_ix (k_ix (K := K) (by rfl)) (pv 8) pe_int (fun _ _ => rfl))) pa_nil))) pa_nil)) (by rfl)))
    (pss_one (ps_if (pt_cmpR op_eq (pv 9) pe_int (nomark _))
    (pss_one (ps_par (i := 10) (j := 11) (by rfl) sc__law_worked.nd rfl rfl (by decide) rfl rfl (pa_cons (pe_un (un_ownNeg MC_Share___neg__ (hr.mono (by first | decide | omega))) (pv 5)) (pa_cons (pe_tup (pa_cons (pe_un un_neg (pe_ix (k_ix (K := K) (by rfl)) (pv 7) pe_int (fun _ _ => rfl))) (pa_cons (pe_ix (k_ix (K := K) (by rfl)) (pv 7) pe_int (fun _ _ => rfl)) pa_nil))) pa_nil)) (by rfl)))
    (pss_one (ps_if (pt_cmpR op_eq (pe_ix (k_ix (K := K) (by rfl)) (pv 8) pe_int (fun _ _ => rfl)) pe_int (nomark _))
    (pss_one (ps_ret (pe_and (pe_cal C__law_refused (hr.mono (by first | decide | omega)) (by rfl) (pa_cons (pv 5) (pa_cons (pv 6) pa_nil))) (pe_one (pe_cal C__law_compared (hr.mono (by first | decide | omega)) (by rfl) (pa_cons (pv 5) (pa_cons (pv 6) (pa_cons (pv 7) (pa_cons (pv 8) pa_nil)))))))))
    (pss_one (ps_par (i := 10) (j := 11) (by rfl) sc__law_worked.nd rfl rfl (by decide) rfl rfl (pa_cons (pe_mkcal0 (pv 5) T.cl_Share KM_Share_over_0_other (hr.mono (by first | decide | omega)) (pk_cons (pv 6) pk_nil)) (pa_cons (pe_tup (pa_cons (pe_op op_mulW (pe_ix (k_ix (K := K) (by rfl)) (pv 7) pe_int (fun _ _ => rfl)) (pe_ix (k_ix (K := K) (by rfl)) (pv 8) pe_int (fun _ _ => rfl))) (pa_cons (pe_op op_mulW (pe_ix (k_ix (K := K) (by rfl)) (pv 7) pe_int (fun _ _ => rfl)) (pe_ix (k_ix (K := K) (by rfl)) (pv 8) pe_int (fun _ _ => rfl))) pa_nil))) pa_nil)) (by rfl))))))))))))
    (pss_cons (ps_if (PW.pt (pw_or (pt_not (pt_val (pe_cal C__law_is_share (hr.mono (by first | decide | omega)) (by rfl) (pa_cons (pv 10) (pa_cons (pe_ix (k_ix (K := K) (by rfl)) (pv 11) pe_int (fun _ _ => rfl)) (pa_cons (pe_ix (k_ix (K := K) (by rfl)) (pv 11) pe_int (fun _ _ => rfl)) pa_nil)))))) (pw_or1 (pt_not (pt_val (pe_cal C__law_told_like (hr.mono (by first | decide | omega)) (by rfl) (pa_cons (pv 10) (pa_cons (pv 11) pa_nil))))))))
    (pss_one (ps_ret pe_bl))
    pss_nil)
    (pss_cons (ps_if (PW.pt (pw_or (pt_not (pt_val (pe_cal C__law_is_share (hr.mono (by first | decide | omega)) (by rfl) (pa_cons (pv 5) (pa_cons (pe_ix (k_ix (K := K) (by rfl)) (pv 7) pe_int (fun _ _ => rfl)) (pa_cons (pe_ix (k_ix (K := K) (by rfl)) (pv 7) pe_int (fun _ _ => rfl)) pa_nil)))))) (pw_or1 (pt_not (pt_val (pe_cal C__law_is_share (hr.mono (by first | decide | omega)) (by rfl) (pa_cons (pv 6) (pa_cons (pe_ix (k_ix (K := K) (by rfl)) (pv 8) pe_int (fun _ _ => rfl)) (pa_cons (pe_ix (k_ix (K := K) (by rfl)) (pv 8) pe_int (fun _ _ => rfl)) pa_nil)))))))))
    (pss_one (ps_ret pe_bl))
    pss_nil)
    (C8.pss_cut (ps_if (PW.pt (pw_and (pt_cmpR op_lt (pe_callB c_absN (by rfl) T.z_abs (by decide +kernel) (pa_cons (pe_ix (k_ix (K := K) (by rfl)) (pv 11) pe_int (fun _ _ => rfl)) pa_nil)) (pe_op op_pow pe_int pe_int) (nomark _)) (pw_and1 (pt_cmpR op_lt (pe_callB c_absN (by rfl) T.z_abs (by decide +kernel) (pa_cons (pe_ix (k_ix (K := K) (by rfl)) (pv 11) pe_int (fun _ _ => rfl)) pa_nil)) (pe_op op_pow pe_int pe_int) (nomark _)))))
    (pss_cons (ps_expr (pe_bm PySem.F.plainAttrs_list PySem.F.slot_list_append PySem.F.type_list_append mt_append (pv 1) (pa_cons (pv 10) pa_nil)))
    (pss_one (ps_expr (pe_bm PySem.F.plainAttrs_list PySem.F.slot_list_append PySem.F.type_list_append mt_append (pv 2) (pa_cons (pe_tup (pa_cons (pe_ix (k_ix (K := K) (by rfl)) (pv 11) pe_int (fun _ _ => rfl)) (pa_cons (pe_ix (k_ix (K := K) (by rfl)) (pv 11) pe_int (fun _ _ => rfl)) pa_nil))) pa_nil)))))
    pss_nil)
    (pss_one (ps_ret (pe_and (pe_cal C__law_compared (hr.mono (by first | decide | omega)) (by rfl) (pa_cons (pv 10) (pa_cons (pv 6) (pa_cons (pv 11) (pa_cons (pv 8) pa_nil))))) (pe_one (pe_cal C__law_compared (hr.mono (by first | decide | omega)) (by rfl) (pa_cons (pv 5) (pa_cons (pv 6) (pa_cons (pv 7) (pa_cons (pv 8) pa_nil)))))))))))))))), ?_⟩
    try simp only [cxK]
    rw [show L2.start N__law_worked [.ref a, .ref sp, .ref pp] = [some (.ref a), some (.ref sp), some (.ref pp), none, none, none, none, none, none, none, none, none] from rfl]
    have hsl := SqL.of (K := K) hW.hs
    walk_at "go"
    rw [List.length_map]
    refine g_drawB hB ⟨by omega, by omega⟩ fun r1 H1 r1a r1b B1 c1 => ?_
    have W1 := hW.chg hB c1
    have hs1 := W1.hs
    walk_at "go"
    rw [List.length_map]
    refine g_drawB B1 ⟨by omega, by omega⟩ fun r2 H2 r2a r2b B2 c2 => ?_
    have W2 := W1.chg B1 c2
    have hs2 := W2.hs
    have hq2 := W2.hq
    obtain ⟨e1, m1, i1, j1⟩ := at_ent (es := es) r1a (by omega)
    obtain ⟨e2, m2, i2, j2⟩ := at_ent (es := es) r2a (by omega)
    walk_at "go"
    rename_i p1 hp1
    have W3 := W2.sm (same_new hp1 (o := .tup [V.ref e1.p, V.ref e2.p, V.ref e1.q, V.ref e2.q]))
    have B3 := bag_new B2 hp1 (o := .tup [V.ref e1.p, V.ref e2.p, V.ref e1.q, V.ref e2.q])
    refine g_drawB B3 ⟨by decide, by decide⟩ fun r3 H4 r3a r3b B4 c4 => ?_
    have W4 := W3.chg B3 c4
    obtain ⟨f1, a1, a2⟩ := W4.fr e1 m1
    obtain ⟨f2, a3, a4⟩ := W4.fr e2 m2
    have q1 := f1.pr
    have q2 := f2.pr
    clear B1 B2 B3 W1 W2 W3 hs1 hs2 hq2 c1 c2 c4 hp1 hB hW hsl
    have l9 : e1.n.natAbs < 2 ^ 900 ∧ e1.d.natAbs < 2 ^ 900 ∧ e2.n.natAbs < 2 ^ 900 ∧ e2.d.natAbs < 2 ^ 900 := ⟨lt_pow a1 (by decide), lt_pow a2 (by decide), lt_pow a3 (by decide), lt_pow a4 (by decide)⟩
    have c1 : CMulW e1.n e2.d := mul_c a1 a4 (by decide) (by decide)
    have c2 : CMulW e2.n e1.d := mul_c a3 a2 (by decide) (by decide)
    have c3 : CMulW e1.d e2.d := mul_c a2 a4 (by decide) (by decide)
    have c4 : CMulW e1.n e2.n := mul_c a1 a3 (by decide) (by decide)
    have c5 : CMulW e1.d e2.n := mul_c a2 a3 (by decide) (by decide)
    obtain ⟨dx, hp1⟩ := f1.sh
    obtain ⟨dy, hp2⟩ := f2.sh
    walk_at "go"
    refine g_cut (fun σ' H' => ∃ x y N D, σ' = [some (.ref a), some (.ref sp), some (.ref pp), some (.int r1), some (.int r2), some (.ref e1.p), some (.ref e2.p), some (.ref e1.q), some (.ref e2.q), some (.int r3), some (.ref x), some (.ref y)] ∧
      Bag H' a l ∧ Wd K H' a l sp pp es ∧ Fr K H' x y N D ∧ N.natAbs < 2 ^ 401 ∧ D.natAbs < 2 ^ 401) ?_ ?_
    · walk_at "go"
      refine g_iteD (fun _ => ?_) (fun _ => ?_)
      walk_at "go"
      refine g_addF f1.q f2.q l9 fun x H5 s5 f5 => ?_
      have q1' := s5 _ _ q1
      have q2' := s5 _ _ q2
      walk_at "go"
      rename_i y hy
      exact ⟨x, y, _, _, rfl, bag_new (bag_sm B4 s5) hy, (W4.sm s5).sm (same_new hy), ⟨f5.sh.sm (same_new hy), upd_same, f5.nz⟩, add_lt (mul_lt a1 a4) (mul_lt a3 a2), lt_pow (mul_lt a2 a4) (by decide)⟩
      walk_at "go"
      refine g_iteD (fun _ => ?_) (fun _ => ?_)
      walk_at "go"
      refine g_subF f1.q f2.q l9 fun x H5 s5 f5 => ?_
      have q1' := s5 _ _ q1
      have q2' := s5 _ _ q2
      walk_at "go"
      rename_i y hy
      exact ⟨x, y, _, _, rfl, bag_new (bag_sm B4 s5) hy, (W4.sm s5).sm (same_new hy), ⟨f5.sh.sm (same_new hy), upd_same, f5.nz⟩, sub_lt' (mul_lt a1 a4) (mul_lt a3 a2), lt_pow (mul_lt a2 a4) (by decide)⟩
      walk_at "go"
      refine g_iteD (fun _ => ?_) (fun _ => ?_)
      walk_at "go"
      refine g_mulF f1.q f2.q l9 fun x H5 s5 f5 => ?_
      have q1' := s5 _ _ q1
      have q2' := s5 _ _ q2
      walk_at "go"
      rename_i y hy
      exact ⟨x, y, _, _, rfl, bag_new (bag_sm B4 s5) hy, (W4.sm s5).sm (same_new hy), ⟨f5.sh.sm (same_new hy), upd_same, f5.nz⟩, lt_pow (mul_lt a1 a3) (by decide), lt_pow (mul_lt a2 a4) (by decide)⟩
      walk_at "go"
      refine g_iteD (fun _ => ?_) (fun _ => ?_)
      walk_at "go"
      refine g_negF f1.q ⟨l9.1, l9.2.1⟩ fun x H5 s5 f5 => ?_
      have q1' := s5 _ _ q1
      have q2' := s5 _ _ q2
      walk_at "go"
      rename_i y hy
      exact ⟨x, y, _, _, rfl, bag_new (bag_sm B4 s5) hy, (W4.sm s5).sm (same_new hy), ⟨f5.sh.sm (same_new hy), upd_same, f5.nz⟩, by rw [Int.natAbs_neg]; exact lt_pow a1 (by decide), lt_pow a2 (by decide)⟩
      walk_at "go"
      refine g_iteD (fun hz => ?_) (fun hz => ?_)
      · walk_at "go"
        have z0 : nT e2.n e2.d = 0 := (rep_zero f2.rep).mpr hz
        refine ⟨e1.p, e2.p, _, _, nB e2.n e2.d, rfl, ⟨dx, hp1⟩, ⟨dy, by rw [← z0]; exact hp2⟩, ?_⟩
        walk_at "go"
        refine ⟨e1.p, e2.p, e1.q, e2.q, _, _, _, _, rfl, f1, f2, l9, fun H5 s5 => ?_⟩
        exact k H5 es (bag_sm B4 s5) (W4.sm s5) (Nat.le_refl _) (Nat.le_succ _)
      walk_at "go"
      refine g_overF f1.q f2.q hz l9 fun x H5 s5 f5 => ?_
      have q1' := s5 _ _ q1
      have q2' := s5 _ _ q2
      walk_at "go"
      rename_i y hy
      exact ⟨x, y, _, _, rfl, bag_new (bag_sm B4 s5) hy, (W4.sm s5).sm (same_new hy), ⟨f5.sh.sm (same_new hy), upd_same, f5.nz⟩, lt_pow (mul_lt a1 a4) (by decide), lt_pow (mul_lt a2 a3) (by decide)⟩
    rintro σ' H5 ⟨x, y, N, D, rfl, B5, W5, fx, lN, lD⟩
    clear W4 B4 f1 f2 q1 q2 hp1 hp2
    obtain ⟨f1, _, _⟩ := W5.fr e1 m1
    obtain ⟨f2, _, _⟩ := W5.fr e2 m2
    have q1 := f1.pr
    have q2 := f2.pr
    have qx := fx.pr
    have lNx : N.natAbs < 2 ^ 1900 := lt_pow lN (by decide)
    have lDx : D.natAbs < 2 ^ 1900 := lt_pow lD (by decide)
    walk_at "go"
    refine g_isF fx.q rfl rfl ⟨lNx, lDx⟩ ?_
    walk_at "go"
    refine ⟨x, y, N, D, rfl, fx, ⟨lt_pow lN (by decide), lt_pow lD (by decide)⟩, fun H6 s6 => ?_⟩
    have B6 := bag_sm B5 s6
    have W6 := W5.sm s6
    have fx6 := fx.sm s6
    have f16 := f1.sm s6
    have f26 := f2.sm s6
    have q1' := f16.pr
    have q2' := f26.pr
    have qx' := fx6.pr
    clear q1 q2 qx W5 B5 fx f1 f2 s6
    walk_at "go"
    refine g_isF f16.q rfl rfl ⟨lt_pow l9.1 (by decide), lt_pow l9.2.1 (by decide)⟩ ?_
    walk_at "go"
    refine g_isF f26.q rfl rfl ⟨lt_pow l9.2.2.1 (by decide), lt_pow l9.2.2.2 (by decide)⟩ ?_
    walk_at "go"
    refine g_cut (fun σ' H' => ∃ es', σ' = [some (.ref a), some (.ref sp), some (.ref pp), some (.int r1), some (.int r2), some (.ref e1.p), some (.ref e2.p), some (.ref e1.q), some (.ref e2.q), some (.int r3), some (.ref x), some (.ref y)] ∧
      Bag H' a l ∧ Wd K H' a l sp pp es' ∧ Fr K H' x y N D ∧ Fr K H' e1.p e1.q e1.n e1.d ∧ Fr K H' e2.p e2.q e2.n e2.d ∧ es.length ≤ es'.length ∧ es'.length ≤ es.length + 1) ?_ ?_
    · have stay : ∃ es', [some (V.ref a), some (.ref sp), some (.ref pp), some (.int r1), some (.int r2), some (.ref e1.p), some (.ref e2.p), some (.ref e1.q), some (.ref e2.q), some (.int r3), some (.ref x), some (.ref y)] = [some (V.ref a), some (.ref sp), some (.ref pp), some (.int r1), some (.int r2), some (.ref e1.p), some (.ref e2.p), some (.ref e1.q), some (.ref e2.q), some (.int r3), some (.ref x), some (.ref y)] ∧
        Bag H6 a l ∧ Wd K H6 a l sp pp es' ∧ Fr K H6 x y N D ∧ Fr K H6 e1.p e1.q e1.n e1.d ∧ Fr K H6 e2.p e2.q e2.n e2.d ∧ es.length ≤ es'.length ∧ es'.length ≤ es.length + 1 := ⟨es, rfl, B6, W6, fx6, f16, f26, Nat.le_refl _, Nat.le_succ _⟩
      walk_at "go"
      generalize hT : (10 : Int) ^ Int.toNat 60 = T60
      refine g_iteD (fun b1 => ?_) (fun _ => ?_)
      · walk_at "go"
        generalize hT2 : (10 : Int) ^ Int.toNat 60 = T61
        refine g_iteD (fun b2 => ?_) (fun _ => ?_)
        · have hs6 := W6.hs
          have hq6 := W6.hq
          obtain ⟨dz, hx6⟩ := fx6.sh
          have nys : y ≠ sp := ne_of qx' hs6 (by intro z; cases z)
          have nyp : y ≠ pp := ne_of qx' hq6 (by intro z; cases z)
          have nxs : x ≠ sp := ne_of hx6 hs6 (by intro z; cases z)
          have nxp : x ≠ pp := ne_of hx6 hq6 (by intro z; cases z)
          obtain ⟨da, ha6⟩ := f16.sh
          obtain ⟨db, hb6⟩ := f26.sh
          have t1 : e1.p ≠ sp ∧ e1.p ≠ pp ∧ e1.q ≠ sp ∧ e1.q ≠ pp := ⟨ne_of ha6 hs6 (by intro z; cases z), ne_of ha6 hq6 (by intro z; cases z), ne_of q1' hs6 (by intro z; cases z), ne_of q1' hq6 (by intro z; cases z)⟩
          have t2 : e2.p ≠ sp ∧ e2.p ≠ pp ∧ e2.q ≠ sp ∧ e2.q ≠ pp := ⟨ne_of hb6 hs6 (by intro z; cases z), ne_of hb6 hq6 (by intro z; cases z), ne_of q2' hs6 (by intro z; cases z), ne_of q2' hq6 (by intro z; cases z)⟩
          walk_at "go"
          refine g_app hs6 (by rw [List.length_map]; omega) ?_
          have k7 : ∀ b o, b ≠ sp → H6 b = some o → L2.upd H6 sp (.lst (es.map (fun e => V.ref e.p) ++ [.ref x])) b = some o := fun b o n e => h_ne n e
          have B7 : Bag (L2.upd H6 sp (.lst (es.map (fun e => V.ref e.p) ++ [.ref x]))) a l := bag_chg B6 W6.n2 W6.n4
          have e7 : L2.upd H6 sp (.lst (es.map (fun e => V.ref e.p) ++ [.ref x])) sp = some (.lst (es.map (fun e => V.ref e.p) ++ [.ref x])) := upd_same
          generalize L2.upd H6 sp (.lst (es.map (fun e => V.ref e.p) ++ [.ref x])) = H7 at k7 e7 B7 ⊢
          have qx7 := k7 _ _ nys qx'
          have hq7 := k7 _ _ (Ne.symm W6.n1) hq6
          walk_at "go"
          rename_i p2 hp2
          have hq8 : L2.upd H7 p2 (.tup [V.int N, V.int D]) pp = some (.lst (es.map fun e => V.ref e.q)) := h_ne (ne_of_none hq7 hp2) hq7
          refine g_app hq8 (by rw [List.length_map]; omega) ?_
          have k9 : ∀ b o, b ≠ sp → b ≠ pp → H6 b = some o → L2.upd (L2.upd H7 p2 (.tup [V.int N, V.int D])) pp (.lst (es.map (fun e => V.ref e.q) ++ [.ref p2])) b = some o := fun b o n n' e => h_ne n' (h_ne (ne_of_none (k7 b o n e) hp2) (k7 b o n e))
          have np : p2 ≠ pp := Ne.symm (ne_of_none hq7 hp2)
          refine ⟨es ++ [⟨x, p2, N, D⟩], rfl, bag_chg (bag_new B7 hp2) W6.n3 W6.n5, ?_, ?_, ?_, ?_, ?_, ?_⟩
          · refine W6.app (e := ⟨x, p2, N, D⟩) ⟨⟨dz, k9 _ _ nxs nxp hx6⟩, h_ne np upd_same, fx6.nz⟩ ⟨p60' (by rw [hT]; exact b1), p60' (by rw [hT2]; exact b2)⟩ (h_ne W6.n1 (h_ne (ne_of_none e7 hp2) e7)) upd_same k9
          · exact ⟨⟨dz, k9 _ _ nxs nxp hx6⟩, k9 _ _ nys nyp qx', fx6.nz⟩
          · exact ⟨⟨da, k9 _ _ t1.1 t1.2.1 ha6⟩, k9 _ _ t1.2.2.1 t1.2.2.2 q1', f16.nz⟩
          · exact ⟨⟨db, k9 _ _ t2.1 t2.2.1 hb6⟩, k9 _ _ t2.2.2.1 t2.2.2.2 q2', f26.nz⟩
          · rw [List.length_append]; omega
          · rw [List.length_append]; simp
        · walk_at "go"
          exact stay
      · walk_at "go"
        exact stay
    rintro σ' H7 ⟨es', rfl, B7, W7, fx7, f17, f27, n1, n2⟩
    walk_at "go"
    refine ⟨x, e2.p, y, e2.q, _, _, _, _, rfl, fx7, f27, ⟨lt_pow lN (by decide), lt_pow lD (by decide), l9.2.2.1, l9.2.2.2⟩, fun H8 s8 => ?_⟩
    walk_at "go"
    refine ⟨e1.p, e2.p, e1.q, e2.q, _, _, _, _, rfl, f17.sm s8, f27.sm s8, l9, fun H9 s9 => ?_⟩
    exact k H9 es' (bag_sm (bag_sm B7 s8) s9) ((W7.sm s8).sm s9) n1 n2
theorem c_worked (T : Top K mg) : Cal P w K mg base "_law_worked" 6 P__law_worked (spWorked K) := cal_mk T.f__law_worked (ok_worked T) (fun F => F.bindsN fun _ _ _ _ _ _ us hl => match us, hl with | [_, _, _], _ => rfl)
end

set_option Elab.async false
set_option linter.all false
set_option maxRecDepth 100000
set_option maxHeartbeats 4000000
set_option exponentiation.threshold 5000
open PySem PySem.Spec L2



section
variable {P : Program} {w : World} {K : PySem.W.Frag} {mg : Str → Option Value} {base : Heap}
def spBack (K : PySem.W.Frag) : Sp := fun vs H Q _ => ∃ (p q x y : Addr) (n d n' d' : Int), vs = [.ref p, .ref q, .ref x, .ref y] ∧ Fr K H p x n d ∧ Fr K H q y n' d' ∧ (n.natAbs < 2 ^ 200 ∧ d.natAbs < 2 ^ 200 ∧ n'.natAbs < 2 ^ 200 ∧ d'.natAbs < 2 ^ 200) ∧ ∀ H', Same H H' → Q (.bl true) H'
theorem ok_back (T : Top K mg) {f : Addr} {fd : FuncData} (F : FnP K "_law_back" s__law_back f fd) : FnOk P w K mg base CX0 4 f fd P__law_back (spBack K) := by
  have cl_Share := T.cl_Share; have na_Share_top := T.na_Share_top; have na_Share_bottom := T.na_Share_bottom; have in_Share := T.in_Share; have ki_o_Share_o_Share := T.ki_o_Share_o_Share; have ki_int_o_Share := T.ki_int_o_Share; have ki_bool_o_Share := T.ki_bool_o_Share; have ki_NoneType_o_Share := T.ki_NoneType_o_Share; have ki_str_o_Share := T.ki_str_o_Share; have ki_list_o_Share := T.ki_list_o_Share; have ki_tuple_o_Share := T.ki_tuple_o_Share; have nf_Share_o_Share := T.nf_Share_o_Share; have nf_Share_int := T.nf_Share_int; have nf_Share_bool := T.nf_Share_bool; have nf_Share_NoneType := T.nf_Share_NoneType; have nf_Share_str := T.nf_Share_str; have nf_Share_list := T.nf_Share_list; have nf_Share_tuple := T.nf_Share_tuple
  have MC_Share___add__ := mc_Share___add__ (P := P) (w := w) (base := base) T
  have MC_Share___sub__ := mc_Share___sub__ (P := P) (w := w) (base := base) T
  have MC_Share___mul__ := mc_Share___mul__ (P := P) (w := w) (base := base) T
  have MC_Share___neg__ := mc_Share___neg__ (P := P) (w := w) (base := base) T
  have MC_Share___eq__ := mc_Share___eq__ (P := P) (w := w) (base := base) T
  have MC_Share___bool__ := mc_Share___bool__ (P := P) (w := w) (base := base) T
  have MC_Share_over := mc_Share_over (P := P) (w := w) (base := base) T
  have KK_Share_1_ := kk_Share_1_ (P := P) (w := w) (base := base) T
  refine F.ok sc__law_back (fun vs H Q E h => ?_) (fun cdv A outer s H vs Q E hr h => ?_)
  · obtain ⟨p, q, x, y, n, d, n', d', rfl, _⟩ := h
    rfl
  · obtain ⟨p, q, x, y, n, d, n', d', rfl, f1, f2, ⟨a1, a2, a3, a4⟩, k⟩ := h
    refine ⟨_, PSs.nox (pss_cons (ps_if (PW.pt (pw_or (pt_not (pt_cmpR (k_ownEq (K := K) (by rfl) MC_Share___eq__ (hr.mono (by first | decide | omega))) (pe_op (op_ownBin (by rfl) T.in_Share.sf MC_Share___sub__ (hr.mono (by first | decide | omega))) (pe_op (op_ownBin (by rfl) T.in_Share.sf MC_Share___add__ (hr.mono (by first | decide | omega))) (pv 0) (pv 1)) (pv 1)) (pv 0) (nomark _))) (pw_or (pt_not (pt_cmpR (k_ownEq (K := K) (by rfl) MC_Share___eq__ (hr.mono (by first | decide | omega))) (pe_op (op_ownBin (by rfl) T.in_Share.sf MC_Share___sub__ (hr.mono (by first | decide | omega))) (pv 0) (pv 1)) (pe_un (un_ownNeg MC_Share___neg__ (hr.mono (by first | decide | omega))) (pe_op (op_ownBin (by rfl) T.in_Share.sf MC_Share___sub__ (hr.mono (by first | decide | omega))) (pv 1) (pv 0))) (nomark _))) (pw_or1 (pt_val (pe_callTy (call_ownBool MC_Share___bool__ (hr.mono (by first | decide | omega))) (by rfl) T.z_bool (by decide +kernel) (pa_cons (pe_op (op_ownBin (by rfl) T.in_Share.sf MC_Share___sub__ (hr.mono (by first | decide | omega))) (pv 0) (pv 0)) pa_nil)))))))
    (pss_one (ps_ret pe_bl))
    pss_nil)
    (pss_cons (ps_if (PW.pt (pw_or (pt_cmpR op_eq (pe_ix (k_ix (K := K) (by rfl)) (pv 2) pe_int (fun _ _ => rfl)) pe_int (nomark _)) (pw_or1 (pt_cmpR op_eq (pe_ix (k_ix (K := K) (by rfl)) (pv 3) pe_int (fun _ _ => rfl)) pe_int (nomark _)))))
    (pss_one (ps_ret (pe_not (pe_callTy (call_ownBool MC_Share___bool__ (hr.mono (by first | decide | omega))) (by rfl) T.z_bool (by decide +kernel) (pa_cons (pe_op (op_ownBin (by rfl) T.in_Share.sf MC_Share___mul__ (hr.mono (by first | decide | omega))) (pv 0) (pv 1)) pa_nil)))))
    pss_nil)
    (pss_one (ps_ret (pe_and (pe_cmpR (k_ownEq (K := K) (by rfl) MC_Share___eq__ (hr.mono (by first | decide | omega))) (pe_mcal (pe_op (op_ownBin (by rfl) T.in_Share.sf MC_Share___mul__ (hr.mono (by first | decide | omega))) (pv 0) (pv 1)) T.cl_Share MC_Share_over (hr.mono (by first | decide | omega)) (pa_cons (pv 1) pa_nil)) (pv 0) (nomark _)) (pe_and (pe_cmpR (k_ownEq (K := K) (by rfl) MC_Share___eq__ (hr.mono (by first | decide | omega))) (pe_op (op_ownBin (by rfl) T.in_Share.sf MC_Share___mul__ (hr.mono (by first | decide | omega))) (pe_mcal (pv 0) T.cl_Share MC_Share_over (hr.mono (by first | decide | omega)) (pa_cons (pv 1) pa_nil)) (pv 1)) (pv 0) (nomark _)) (pe_one (pe_cmpR (k_ownEq (K := K) (by rfl) MC_Share___eq__ (hr.mono (by first | decide | omega))) (pe_mcal (pv 0) T.cl_Share MC_Share_over (hr.mono (by first | decide | omega)) (pa_cons (pv 0) pa_nil)) (pe_mkk T.g_Share KK_Share_1_ (hr.mono (by first | decide | omega)) (by rfl) (pa_cons pe_int pa_nil) pk_nil) (nomark _))))))))), ?_⟩
    try simp only [cxK]
    rw [show L2.start N__law_back [.ref p, .ref q, .ref x, .ref y] = [some (.ref p), some (.ref q), some (.ref x), some (.ref y)] from rfl]
    have b1 : n.natAbs < 2 ^ 900 := lt_pow a1 (by decide)
    have b2 : d.natAbs < 2 ^ 900 := lt_pow a2 (by decide)
    have b3 : n'.natAbs < 2 ^ 900 := lt_pow a3 (by decide)
    have b4 : d'.natAbs < 2 ^ 900 := lt_pow a4 (by decide)
    obtain ⟨dx, hp⟩ := f1.sh
    obtain ⟨dy, hq⟩ := f2.sh
    -- one + two - two == one
    walk_at "go"
    refine g_addF f1.q f2.q ⟨b1, b2, b3, b4⟩ fun r1 H1 s1 g1 => ?_
    have f1 := f1.sm s1
    have f2 := f2.sm s1
    obtain ⟨dx, hp⟩ := f1.sh
    obtain ⟨dy, hq⟩ := f2.sh
    obtain ⟨dz, h1⟩ := g1.sh
    walk_at "go"
    refine g_subF g1 f2.q ⟨lt_pow (add_lt (mul_lt a1 a4) (mul_lt a3 a2)) (by decide), lt_pow (mul_lt a2 a4) (by decide), b3, b4⟩ fun r2 H2 s2 g2 => ?_
    have f1 := f1.sm s2
    have f2 := f2.sm s2
    obtain ⟨dx, hp⟩ := f1.sh
    obtain ⟨dy, hq⟩ := f2.sh
    have k := fun H' s => k H' ((s1.trans s2).trans s)
    clear s1 s2 g1 h1
    walk_at "go"
    refine g_eqF in_Share cl_Share nf_Share_o_Share g2 f1.q ?_
    rw [decide_eq_true (show ((n * d' + n' * d) * d' - n' * (d * d')) * d = n * (d * d' * d') by grind)]
    clear g2
    -- one - two == -(two - one)
    walk_at "go"
    refine g_subF f1.q f2.q ⟨b1, b2, b3, b4⟩ fun r1 H1 s1 g1 => ?_
    have f1 := f1.sm s1
    have f2 := f2.sm s1
    obtain ⟨dx, hp⟩ := f1.sh
    obtain ⟨dy, hq⟩ := f2.sh
    walk_at "go"
    refine g_subF f2.q f1.q ⟨b3, b4, b1, b2⟩ fun r2 H2 s2 g2 => ?_
    obtain ⟨dz, h2⟩ := g2.sh
    walk_at "go"
    refine g_negF g2 ⟨lt_pow (sub_lt' (mul_lt a3 a2) (mul_lt a1 a4)) (by decide), lt_pow (mul_lt a4 a2) (by decide)⟩ fun r3 H3 s3 g3 => ?_
    have f1 := (f1.sm s2).sm s3
    have f2 := (f2.sm s2).sm s3
    have g1 := (g1.sm s2).sm s3
    obtain ⟨dx, hp⟩ := f1.sh
    obtain ⟨dy, hq⟩ := f2.sh
    have k := fun H' s => k H' (((s1.trans s2).trans s3).trans s)
    clear s1 s2 s3 g2 h2
    walk_at "go"
    refine g_eqF in_Share cl_Share nf_Share_o_Share g1 g3 ?_
    rw [decide_eq_true (show (n * d' - n' * d) * (d' * d) = -(n' * d - n * d') * (d * d') by grind)]
    clear g1 g3
    -- bool(one - one)
    walk_at "go"
    refine g_subF f1.q f1.q ⟨b1, b2, b1, b2⟩ fun r1 H1 s1 g1 => ?_
    have f1 := f1.sm s1
    have f2 := f2.sm s1
    obtain ⟨dx, hp⟩ := f1.sh
    obtain ⟨dy, hq⟩ := f2.sh
    obtain ⟨dz, h1⟩ := g1.sh
    have k := fun H' s => k H' (s1.trans s)
    clear s1
    walk_at "go"
    refine g_ownBool h1 ⟨r1, _, _, rfl, g1.sh, ⟨_, rfl, ?_⟩⟩
    rw [decide_eq_true ((rep_zero g1.rep).mpr (by grind))]
    clear g1 h1
    have qx := f1.pr
    have qy := f2.pr
    walk_at "go"
    refine g_iteD (fun z1 => ?_) (fun z1 => ?_)
    · walk_at "go"
      refine g_mulF f1.q f2.q ⟨b1, b2, b3, b4⟩ fun r1 H1 s1 g1 => ?_
      obtain ⟨dz, h1⟩ := g1.sh
      walk_at "go"
      refine g_ownBool h1 ⟨r1, _, _, rfl, g1.sh, ⟨_, rfl, ?_⟩⟩
      rw [decide_eq_true ((rep_zero g1.rep).mpr (by rw [z1, Int.zero_mul]))]
      walk_at "go"
      exact k H1 s1
    walk_at "go"
    refine g_iteD (fun z2 => ?_) (fun z2 => ?_)
    · walk_at "go"
      refine g_mulF f1.q f2.q ⟨b1, b2, b3, b4⟩ fun r1 H1 s1 g1 => ?_
      obtain ⟨dz, h1⟩ := g1.sh
      walk_at "go"
      refine g_ownBool h1 ⟨r1, _, _, rfl, g1.sh, ⟨_, rfl, ?_⟩⟩
      rw [decide_eq_true ((rep_zero g1.rep).mpr (by rw [z2, Int.mul_zero]))]
      walk_at "go"
      exact k H1 s1
    walk_at "go"
    refine g_mulF f1.q f2.q ⟨b1, b2, b3, b4⟩ fun r1 H1 s1 g1 => ?_
    have f1 := f1.sm s1
    have f2 := f2.sm s1
    obtain ⟨dx, hp⟩ := f1.sh
    obtain ⟨dy, hq⟩ := f2.sh
    obtain ⟨dz, h1⟩ := g1.sh
    walk_at "go"
    refine g_overF g1 f2.q z2 ⟨lt_pow (mul_lt a1 a3) (by decide), lt_pow (mul_lt a2 a4) (by decide), b3, b4⟩ fun r2 H2 s2 g2 => ?_
    have f1 := f1.sm s2
    have f2 := f2.sm s2
    obtain ⟨dx, hp⟩ := f1.sh
    obtain ⟨dy, hq⟩ := f2.sh
    have k := fun H' s => k H' ((s1.trans s2).trans s)
    clear s1 s2 g1 h1
    walk_at "go"
    refine g_eqF in_Share cl_Share nf_Share_o_Share g2 f1.q ?_
    rw [decide_eq_true (show n * n' * d' * d = n * (d * d' * n') by grind)]
    clear g2
    walk_at "go"
    refine g_overF f1.q f2.q z2 ⟨b1, b2, b3, b4⟩ fun r1 H1 s1 g1 => ?_
    have f1 := f1.sm s1
    have f2 := f2.sm s1
    obtain ⟨dx, hp⟩ := f1.sh
    obtain ⟨dy, hq⟩ := f2.sh
    obtain ⟨dz, h1⟩ := g1.sh
    walk_at "go"
    refine g_mulF g1 f2.q ⟨lt_pow (mul_lt a1 a4) (by decide), lt_pow (mul_lt a2 a3) (by decide), b3, b4⟩ fun r2 H2 s2 g2 => ?_
    have f1 := f1.sm s2
    have f2 := f2.sm s2
    obtain ⟨dx, hp⟩ := f1.sh
    obtain ⟨dy, hq⟩ := f2.sh
    have k := fun H' s => k H' ((s1.trans s2).trans s)
    clear s1 s2 g1 h1
    walk_at "go"
    refine g_eqF in_Share cl_Share nf_Share_o_Share g2 f1.q ?_
    rw [decide_eq_true (show n * d' * n' * d = n * (d * n' * d') by grind)]
    clear g2
    walk_at "go"
    refine g_overF f1.q f1.q z1 ⟨b1, b2, b1, b2⟩ fun r1 H1 s1 g1 => ?_
    have k := fun H' s => k H' (s1.trans s)
    clear s1
    obtain ⟨dz, h1⟩ := g1.sh
    walk_at "go"
    refine g_share rfl rfl (fun _ => rfl) (by decide) (by decide) fun r2 H2 _ s2 g2 => ?_
    have g2 : Fq K H2 r2 1 1 := ⟨g2, by decide⟩
    have g1 := g1.sm s2
    obtain ⟨dz, h1⟩ := g1.sh
    obtain ⟨dw, h2⟩ := g2.sh
    walk_at "go"
    refine g_eqF in_Share cl_Share nf_Share_o_Share g1 g2 ?_
    rw [decide_eq_true (show n * d * 1 = 1 * (d * n) by grind)]
    walk_at "go"
    exact k H2 s2
theorem c_back (T : Top K mg) : Cal P w K mg base "_law_back" 4 P__law_back (spBack K) := cal_mk T.f__law_back (ok_back T) (fun F => F.bindsN fun _ _ _ _ _ _ us hl => match us, hl with | [_, _, _, _], _ => rfl)
end

set_option Elab.async false
set_option linter.all false
set_option maxRecDepth 100000
set_option maxHeartbeats 4000000
set_option exponentiation.threshold 5000
open PySem PySem.Spec L2



section
variable {P : Program} {w : World} {K : PySem.W.Frag} {mg : Str → Option Value} {base : Heap}
def spLaw (K : PySem.W.Frag) : Sp := fun vs H Q _ => ∃ (a : Addr) (ns : List Int), vs = [.ref a] ∧ SqL K H a (ns.map V.int) ∧ ns.length ≤ 63 ∧ ∀ H', Q (.bl true) H'
theorem g_eqO {H : Hp} {Q : VK} {p : Addr} {n d : Int} {y : V} {ty : String} (f : Fq K H p n d) (ht : TyX K H y (.type ty)) (nf : PySem.W.notFirst K (CS K) (.type ty) = true) (kt : PySem.W.kitOne K (.type ty) (.ref (CS K)) = some false) (k : Q (.bl false) H) : rOwnEq K (CS K) (spEqS K) (.ref p) y H Q := by
  obtain ⟨dx, hp⟩ := f.sh
  exact g_ownEq hp ht nf ⟨p, y, _, _, rfl, f.sh, .inr ⟨ty, ht, kt, k⟩⟩
theorem ok_law (T : Top K mg) {f : Addr} {fd : FuncData} (F : FnP K "law" s_law f fd) : FnOk P w K mg base CX0 8 f fd P_law (spLaw K) := by
  have cl_Share := T.cl_Share; have na_Share_top := T.na_Share_top; have na_Share_bottom := T.na_Share_bottom; have in_Share := T.in_Share; have ki_o_Share_o_Share := T.ki_o_Share_o_Share; have ki_int_o_Share := T.ki_int_o_Share; have ki_bool_o_Share := T.ki_bool_o_Share; have ki_NoneType_o_Share := T.ki_NoneType_o_Share; have ki_str_o_Share := T.ki_str_o_Share; have ki_list_o_Share := T.ki_list_o_Share; have ki_tuple_o_Share := T.ki_tuple_o_Share; have nf_Share_o_Share := T.nf_Share_o_Share; have nf_Share_int := T.nf_Share_int; have nf_Share_bool := T.nf_Share_bool; have nf_Share_NoneType := T.nf_Share_NoneType; have nf_Share_str := T.nf_Share_str; have nf_Share_list := T.nf_Share_list; have nf_Share_tuple := T.nf_Share_tuple
  have C__law_bag := c_bag (P := P) (w := w) (base := base) T
  have C__law_draw := c_draw1 (P := P) (w := w) (base := base) T
  have C__law_part := c_part (P := P) (w := w) (base := base) T
  have C__law_is_share := c_is_share (P := P) (w := w) (base := base) T
  have C__law_told_like := c_told (P := P) (w := w) (base := base) T
  have C__law_worked := c_worked (P := P) (w := w) (base := base) T
  have C__law_back := c_back (P := P) (w := w) (base := base) T
  have C__law_like := c_like (P := P) (w := w) (base := base) T 1
  have MC_Share___eq__ := mc_Share___eq__ (P := P) (w := w) (base := base) T
  have MC_Share___str__ := mc_Share___str__ (P := P) (w := w) (base := base) T
  have KK_Share_2_ := kk_Share_2_ (P := P) (w := w) (base := base) T
  have KK_Share_0_top := kk_Share_0_top (P := P) (w := w) (base := base) T
  have KK_Share_0_bottom_top := kk_Share_0_bottom_top (P := P) (w := w) (base := base) T
  refine F.ok sc_law (fun vs H Q E h => ?_) (fun cdv A outer s H vs Q E hr h => ?_)
  · obtain ⟨a, ns, rfl, _⟩ := h
    rfl
  · obtain ⟨s0, ns, rfl, hS, hlen, q⟩ := h
    refine ⟨_, PSs.nox (pss_cons (ps_set (i := 1) sc_law.nd rfl (by first | exact Or.inl rfl | exact Or.inr rfl) (pe_cal C__law_bag (hr.mono (by first | decide | omega)) (by rfl) (pa_cons (pv 0) pa_nil)))
    (pss_cons (ps_par (i := 2) (j := 3) (by rfl) sc_law.nd rfl rfl (by decide) rfl rfl (pa_cons (pe_lst pa_nil) (pa_cons (pe_lst pa_nil) pa_nil)) (by rfl))
    (pss_cons (ps_for PassesOwn.never rfl (pi_range1 (by rfl) T.z_range (pa_cons (pe_op op_add pe_int (pe_cal C__law_draw (hr.mono (by first | decide | omega)) (by rfl) (pa_cons (pv 1) (pa_cons pe_int pa_nil)))) pa_nil)) (pg_name (i := 4) sc_law.nd rfl (by first | exact Or.inl rfl | exact Or.inr rfl))
    (pss_cons (ps_set (i := 5) sc_law.nd rfl (by first | exact Or.inl rfl | exact Or.inr rfl) (pe_cal C__law_part (hr.mono (by first | decide | omega)) (by rfl) (pa_cons (pv 1) pa_nil)))
    (pss_cons (ps_set (i := 6) sc_law.nd rfl (by first | exact Or.inl rfl | exact Or.inr rfl) (pe_mkk T.g_Share KK_Share_2_ (hr.mono (by first | decide | omega)) (by rfl) (pa_cons (pe_ix (k_ix (K := K) (by rfl)) (pv 5) pe_int (fun _ _ => rfl)) (pa_cons (pe_ix (k_ix (K := K) (by rfl)) (pv 5) pe_int (fun _ _ => rfl)) pa_nil)) pk_nil))
    (C8.pss_cut (ps_if (PW.pt (pw_and (pt_cmpR op_eq (pe_ix (k_ix (K := K) (by rfl)) (pv 5) pe_int (fun _ _ => rfl)) pe_int (nomark _)) (pw_and1 (pt_cmpR op_eq (pe_cal C__law_draw (hr.mono (by first | decide | omega)) (by rfl) (pa_cons (pv 1) (pa_cons pe_int pa_nil))) pe_int (nomark _)))))
    (pss_one (ps_set (i := 6) sc_law.nd rfl (by first | exact Or.inl rfl | exact Or.inr rfl) (pe_mkk0 T.g_Share KK_Share_0_top (hr.mono (by first | decide | omega)) (by rfl) (pk_cons (pe_ix (k_ix (K := K) (by rfl)) (pv 5) pe_int (fun _ _ => rfl)) pk_nil))))
    (pss_one (ps_if (pt_cmpR op_eq (pe_cal C__law_draw (hr.mono (by first | decide | omega)) (by rfl) (pa_cons (pv 1) (pa_cons pe_int pa_nil))) pe_int (nomark _))
    (pss_one (ps_set (i := 6) sc_law.nd rfl (by first | exact Or.inl rfl | exact Or.inr rfl) (pe_mkk0 T.g_Share KK_Share_0_bottom_top (hr.mono (by first | decide | omega)) (by rfl) (pk_cons (pe_ix (k_ix (K := K) (by rfl)) (pv 5) pe_int (fun _ _ => rfl)) (pk_cons (pe_ix (k_ix (K := K) (by rfl)) (pv 5) pe_int (fun _ _ => rfl)) pk_nil)))))
    pss_nil)))
    (pss_cons (ps_if (PW.pt (pw_or (pt_not (pt_val (pe_cal C__law_is_share (hr.mono (by first | decide | omega)) (by rfl) (pa_cons (pv 6) (pa_cons (pe_ix (k_ix (K := K) (by rfl)) (pv 5) pe_int (fun _ _ => rfl)) (pa_cons (pe_ix (k_ix (K := K) (by rfl)) (pv 5) pe_int (fun _ _ => rfl)) pa_nil)))))) (pw_or1 (pt_not (pt_val (pe_cal C__law_told_like (hr.mono (by first | decide | omega)) (by rfl) (pa_cons (pv 6) (pa_cons (pv 5) pa_nil))))))))
    (pss_one (ps_ret pe_bl))
    pss_nil)
    (pss_cons (ps_expr (pe_bm PySem.F.plainAttrs_list PySem.F.slot_list_append PySem.F.type_list_append mt_append (pv 2) (pa_cons (pv 6) pa_nil)))
    (pss_one (ps_expr (pe_bm PySem.F.plainAttrs_list PySem.F.slot_list_append PySem.F.type_list_append mt_append (pv 3) (pa_cons (pv 5) pa_nil))))))))))
    (pss_cons (ps_set (i := 7) sc_law.nd rfl (by first | exact Or.inl rfl | exact Or.inr rfl) (pe_callB (k_len (K := K) (by rfl)) (by rfl) T.z_len (by decide +kernel) (pa_cons (pv 2) pa_nil)))
    (pss_cons (ps_for PassesOwn.never rfl (pi_range1 (by rfl) T.z_range (pa_cons (pe_op op_add pe_int (pe_cal C__law_draw (hr.mono (by first | decide | omega)) (by rfl) (pa_cons (pv 1) (pa_cons pe_int pa_nil)))) pa_nil)) (pg_name (i := 4) sc_law.nd rfl (by first | exact Or.inl rfl | exact Or.inr rfl))
    (pss_one (ps_if (pt_not (pt_val (pe_cal C__law_worked (hr.mono (by first | decide | omega)) (by rfl) (pa_cons (pv 1) (pa_cons (pv 2) (pa_cons (pv 3) pa_nil))))))
    (pss_one (ps_ret pe_bl))
    pss_nil)))
    (pss_cons (ps_par (i := 8) (j := 9) (by rfl) sc_law.nd rfl rfl (by decide) rfl rfl (pa_cons (pe_cal C__law_draw (hr.mono (by first | decide | omega)) (by rfl) (pa_cons (pv 1) (pa_cons (pv 7) pa_nil))) (pa_cons (pe_cal C__law_draw (hr.mono (by first | decide | omega)) (by rfl) (pa_cons (pv 1) (pa_cons (pv 7) pa_nil))) pa_nil)) (by rfl))
    (pss_cons (ps_par (i := 6) (j := 5) (by rfl) sc_law.nd rfl rfl (by decide) rfl rfl (pa_cons (pe_ix (k_ix (K := K) (by rfl)) (pv 2) (pv 8) (fun _ _ => rfl)) (pa_cons (pe_ix (k_ix (K := K) (by rfl)) (pv 3) (pv 8) (fun _ _ => rfl)) pa_nil)) (by rfl))
    (pss_cons (ps_if (PW.pt (pw_or (pt_not (pt_val (pe_cal C__law_back (hr.mono (by first | decide | omega)) (by rfl) (pa_cons (pv 6) (pa_cons (pe_ix (k_ix (K := K) (by rfl)) (pv 2) (pv 9) (fun _ _ => rfl)) (pa_cons (pv 5) (pa_cons (pe_ix (k_ix (K := K) (by rfl)) (pv 3) (pv 9) (fun _ _ => rfl)) pa_nil))))))) (pw_or1 (pt_not (pt_val (pe_cal C__law_back (hr.mono (by first | decide | omega)) (by rfl) (pa_cons (pv 6) (pa_cons (pv 6) (pa_cons (pv 5) (pa_cons (pv 5) pa_nil))))))))))
    (pss_one (ps_ret pe_bl))
    pss_nil)
    (pss_cons (ps_set (i := 10) sc_law.nd rfl (by first | exact Or.inl rfl | exact Or.inr rfl) (pe_lst (pa_cons (pe_cmpR (k_ownEq (K := K) (by rfl) MC_Share___eq__ (hr.mono (by first | decide | omega))) (pv 6) (pe_ix (k_ix (K := K) (by rfl)) (pv 5) pe_int (fun _ _ => rfl)) (nomark _)) (pa_cons (pe_cmpR (k_ownEq (K := K) (by rfl) MC_Share___eq__ (hr.mono (by first | decide | omega))) (pv 6) pe_non (nomark _)) (pa_cons (pe_cmpR (k_ownEq (K := K) (by rfl) MC_Share___eq__ (hr.mono (by first | decide | omega))) (pv 6) (pv 5) (nomark _)) (pa_cons (pe_cmpR (k_ownEq (K := K) (by rfl) MC_Share___eq__ (hr.mono (by first | decide | omega))) (pv 6) (pe_callTy (call_ownStr MC_Share___str__ (hr.mono (by first | decide | omega))) (by rfl) T.z_str (by decide +kernel) (pa_cons (pv 6) pa_nil)) (nomark _)) (pa_cons (pe_cmpR (k_ownEq (K := K) (by rfl) MC_Share___eq__ (hr.mono (by first | decide | omega))) (pv 6) (pe_callTy (k_list (K := K) (by rfl)) (by rfl) T.z_list (by decide +kernel) (pa_cons (pv 5) pa_nil)) (nomark _)) (pa_cons (pe_cmpR (k_ownEq (K := K) (by rfl) MC_Share___eq__ (hr.mono (by first | decide | omega))) (pv 6) pe_bl (nomark _)) (pa_cons (pe_cmpR (k_ownEq (K := K) (by rfl) MC_Share___eq__ (hr.mono (by first | decide | omega))) (pv 6) pe_int (nomark _)) pa_nil)))))))))
    (pss_one (ps_ret (pe_cal C__law_like (hr.mono (by first | decide | omega)) (by rfl) (pa_cons (pv 10) (pa_cons (pe_lc (own := [("k", 4)]) (g := gName 4) (by rfl) sc_law.nd (pi_range1 (by rfl) T.z_range (pa_cons (pe_callB (k_len (K := K) (by rfl)) (by rfl) T.z_len (by decide +kernel) (pa_cons (pv 10) pa_nil)) pa_nil)) (blkOk_by (own := [("k", 4)]) (N := N_law) (sc := defScope s_law) (by decide +kernel)) (fun _ _ _ _ _ => pg_name (i := 4) sc_law.nd rfl (by first | exact Or.inl rfl | exact Or.inr rfl)) (fun _ _ _ _ _ => pts_nil) (fun _ _ _ _ _ => pe_bl)) pa_nil)))))))))))))), ?_⟩
    try simp only [cxK]
    rw [show L2.start N_law [V.ref s0] = [some (.ref s0), none, none, none, none, none, none, none, none, none, none] from rfl]
    walk_at "go"
    refine ⟨s0, ns, rfl, hS, fun a l H1 B1 hp s1 => ?_⟩
    walk_at "go"
    rename_i sp hsp pp hpp
    have B3 := bag_new (bag_new B1 hsp (o := .lst [])) hpp (o := .lst [])
    have W3 : Wd K (upd (upd H1 sp (.lst [])) pp (.lst [])) a l sp pp [] := by
      obtain ⟨n2, n4⟩ := bag_apart B1 hsp
      obtain ⟨n3, n5⟩ := bag_apart (bag_new B1 hsp (o := .lst [])) hpp
      have n1 : sp ≠ pp := ne_of_none upd_same hpp
      exact ⟨h_ne n1 upd_same, upd_same, n1, n2, n3, n4, n5, fun e he => absurd he List.not_mem_nil⟩
    generalize upd (upd H1 sp (.lst [])) pp (.lst []) = H3 at B3 W3 ⊢
    clear hsp hpp B1 s1 hp
    refine g_drawB B3 ⟨by decide, by decide⟩ fun r0 H4 r0a r0b B4 c4 => ?_
    have W4 := W3.chg B3 c4
    clear W3 B3 c4 H3 hS
    walk_at "go"
    refine forR ⟨fun i σ' H' => ∃ es y4 y5 y6, σ' = [some (.ref s0), some (.ref a), some (.ref sp), some (.ref pp), y4, y5, y6, none, none, none, none] ∧ Bag H' a l ∧ Wd K H' a l sp pp es ∧ es.length = i, ⟨[], _, _, _, rfl, B4, W4, rfl⟩, ?_, ?_⟩
    · rintro i σ' H5 hi ⟨es, y4, y5, y6, rfl, B5, W5, he⟩
      walk_at "go"
      refine ⟨a, l, rfl, B5, fun x n d H6 B6 c6 e6 hd ln ld => ?_⟩
      have W6 := W5.chg B5 c6
      clear W5 B5 c6 H5
      walk_at "go"
      refine g_share rfl rfl (fun _ => rfl) hd (lt_pow ld (by decide)) fun p1 H7 _ s7 g7 => ?_
      have B7 := bag_sm B6 s7
      have W7 := W6.sm s7
      have e7 := s7 _ _ e6
      have f7 : Fr K H7 p1 x n d := ⟨g7, e7, hd⟩
      clear B6 W6 e6 s7 g7
      walk_at "go"
      refine g_cut (fun σ' H' => ∃ p, σ' = [some (.ref s0), some (.ref a), some (.ref sp), some (.ref pp), some (.int (0 + i)), some (.ref x), some (.ref p), none, none, none, none] ∧ Bag H' a l ∧ Wd K H' a l sp pp es ∧ Fr K H' p x n d) ?_ ?_
      · have again : ∀ H8 r, Bag H8 a l → Wd K H8 a l sp pp es → Fr K H8 p1 x n d → ∀ H9, Same H8 H9 → Sh K H9 r (nT n d) (nB n d) → ∃ p, [some (V.ref s0), some (.ref a), some (.ref sp), some (.ref pp), some (.int (0 + i)), some (.ref x), some (.ref r), none, none, none, none] = [some (V.ref s0), some (.ref a), some (.ref sp), some (.ref pp), some (.int (0 + i)), some (.ref x), some (.ref p), none, none, none, none] ∧ Bag H9 a l ∧ Wd K H9 a l sp pp es ∧ Fr K H9 p x n d :=
          fun H8 r B8 W8 f8 H9 s9 g9 => ⟨r, rfl, bag_sm B8 s9, W8.sm s9, ⟨g9, s9 _ _ f8.pr, f8.nz⟩⟩
        walk_at "go"
        refine g_iteD (fun h1 => ?_) (fun h1 => ?_)
        · walk_at "go"
          refine g_drawB B7 ⟨by decide, by decide⟩ fun r1 H8 r1a r1b B8 c8 => ?_
          have W8 := W7.chg B7 c8
          have f8 : Fr K H8 p1 x n d := by
            obtain ⟨_, _, _, _, _, hA, _⟩ := B7
            exact fr_chg f7 hA c8
          have e8 := f8.pr
          clear e7 f7 W7 B7
          walk_at "go"
          refine g_iteD (fun h2 => ?_) (fun h2 => ?_)
          · subst h1
            walk_at "go"
            refine g_share rfl rfl (fun _ => rfl) hd (lt_pow ld (by decide)) fun p2 H9 _ s9 g9 => ?_
            walk_at "go"
            exact again _ _ B8 W8 f8 _ s9 g9
          · walk_at "go"
            refine g_drawB B8 ⟨by decide, by decide⟩ fun r18 H18 r18a r18b B18 c18 => ?_
            have W18 := W8.chg B8 c18
            have f18 : Fr K H18 p1 x n d := by
              obtain ⟨_, _, _, _, _, hA, _⟩ := B8
              exact fr_chg f8 hA c18
            have e18 := f18.pr
            clear W8 f8 B8
            walk_at "go"
            refine g_iteD (fun h3 => ?_) (fun h3 => ?_)
            · walk_at "go"
              refine g_share rfl rfl (fun _ => rfl) hd (lt_pow ld (by decide)) fun p2 H9 _ s9 g9 => ?_
              walk_at "go"
              exact again _ _ B18 W18 f18 _ s9 g9
            · walk_at "go"
              exact ⟨p1, rfl, B18, W18, f18⟩
        · walk_at "go"
          refine g_drawB B7 ⟨by decide, by decide⟩ fun r17 H17 r17a r17b B17 c17 => ?_
          have W17 := W7.chg B7 c17
          have f17 : Fr K H17 p1 x n d := by
            obtain ⟨_, _, _, _, _, hA, _⟩ := B7
            exact fr_chg f7 hA c17
          have e17 := f17.pr
          clear W7 f7 B7
          walk_at "go"
          refine g_iteD (fun h3 => ?_) (fun h3 => ?_)
          · walk_at "go"
            refine g_share rfl rfl (fun _ => rfl) hd (lt_pow ld (by decide)) fun p2 H9 _ s9 g9 => ?_
            walk_at "go"
            exact again _ _ B17 W17 f17 _ s9 g9
          · walk_at "go"
            exact ⟨p1, rfl, B17, W17, f17⟩
      rintro σ' H8 ⟨p, rfl, B8, W8, f8⟩
      have e8 := f8.pr
      clear B7 W7 e7 f7
      walk_at "go"
      refine g_isF f8.q rfl rfl ⟨lt_pow ln (by decide), lt_pow ld (by decide)⟩ ?_
      walk_at "go"
      refine ⟨p, x, n, d, rfl, f8, ⟨lt_pow ln (by decide), lt_pow ld (by decide)⟩, fun H9 s9 => ?_⟩
      have B9 := bag_sm B8 s9
      have W9 := W8.sm s9
      have f9 := f8.sm s9
      clear B8 W8 f8 e8 s9 H8
      have hs9 := W9.hs
      have hq9 := W9.hq
      walk_at "go"
      refine g_app hs9 (by rw [List.length_map]; omega) ?_
      have hq8 : L2.upd H9 sp (.lst (es.map (fun e => V.ref e.p) ++ [.ref p])) pp = some (.lst (es.map fun e => V.ref e.q)) := h_ne (Ne.symm W9.n1) hq9
      walk_at "go"
      refine g_app hq8 (by rw [List.length_map]; omega) ?_
      obtain ⟨dz, hx9⟩ := f9.sh
      have k9 : ∀ b o, b ≠ sp → b ≠ pp → H9 b = some o → L2.upd (L2.upd H9 sp (.lst (es.map (fun e => V.ref e.p) ++ [.ref p]))) pp (.lst (es.map (fun e => V.ref e.q) ++ [.ref x])) b = some o := fun b o n n' e => h_ne n' (h_ne n e)
      refine ⟨es ++ [⟨p, x, n, d⟩], _, _, _, rfl, bag_chg (bag_chg B9 W9.n2 W9.n4) W9.n3 W9.n5, ?_, by rw [List.length_append, he]; rfl⟩
      refine W9.app (e := ⟨p, x, n, d⟩) ⟨⟨dz, k9 _ _ (ne_of hx9 hs9 (by intro z; cases z)) (ne_of hx9 hq9 (by intro z; cases z)) hx9⟩, k9 _ _ (ne_of f9.pr hs9 (by intro z; cases z)) (ne_of f9.pr hq9 (by intro z; cases z)) f9.pr, f9.nz⟩ ⟨lt_pow ln (by decide), lt_pow ld (by decide)⟩ (h_ne W9.n1 upd_same) upd_same k9
    rintro σ' H5 ⟨es, y4, y5, y6, rfl, B5, W5, he⟩
    have hs5 := W5.hs
    walk_at "go"
    refine g_drawB B5 ⟨by decide, by decide⟩ fun r1 H6 r1a r1b B6 c6 => ?_
    have W6 := W5.chg B5 c6
    have he3 : 3 ≤ es.length := by omega
    have he6 : es.length ≤ 6 := by omega
    clear W5 B5 c6 hs5 W4 B4
    rw [List.length_map]
    walk_at "go"
    refine forR ⟨fun i σ' H' => ∃ es' y4, σ' = [some (.ref s0), some (.ref a), some (.ref sp), some (.ref pp), y4, y5, y6, some (.int es.length), none, none, none] ∧ Bag H' a l ∧ Wd K H' a l sp pp es' ∧ es.length ≤ es'.length ∧ es'.length ≤ es.length + i, ⟨es, _, rfl, B6, W6, Nat.le_refl _, Nat.le_refl _⟩, ?_, ?_⟩
    · rintro i σ' H7 hi ⟨es', z4, rfl, B7, W7, n1, n2⟩
      walk_at "go"
      refine ⟨a, l, sp, pp, es', rfl, B7, W7, by omega, by omega, fun H8 es2 B8 W8 m1 m2 => ?_⟩
      walk_at "go"
      exact ⟨es2, _, rfl, B8, W8, by omega, by omega⟩
    rintro σ' H7 ⟨es', z4, rfl, B7, W7, n1, n2⟩
    clear W6 B6 he
    walk_at "go"
    refine g_drawB B7 ⟨by omega, by omega⟩ fun r2 H8 r2a r2b B8 c8 => ?_
    have W8 := W7.chg B7 c8
    clear W7 B7 c8
    walk_at "go"
    refine g_drawB B8 ⟨by omega, by omega⟩ fun r3 H9 r3a r3b B9 c9 => ?_
    have W9 := W8.chg B8 c9
    clear W8 B8 c9
    obtain ⟨e1, m1, i1, j1⟩ := at_ent (es := es') r2a (by omega)
    obtain ⟨e2, m2, i2, j2⟩ := at_ent (es := es') r3a (by omega)
    have hs9 := W9.hs
    have hq9 := W9.hq
    obtain ⟨f1, a1, a2⟩ := W9.fr e1 m1
    obtain ⟨f2, a3, a4⟩ := W9.fr e2 m2
    walk_at "go"
    refine ⟨_, _, _, _, _, _, _, _, rfl, f1, f2, ⟨a1, a2, a3, a4⟩, fun H10 s10 => ?_⟩
    walk_at "go"
    refine ⟨_, _, _, _, _, _, _, _, rfl, f1.sm s10, f1.sm s10, ⟨a1, a2, a1, a2⟩, fun H11 s11 => ?_⟩
    have f11 := (f1.sm s10).sm s11
    clear W9 B9 hs9 hq9 f1 f2 s10 s11
    have e11 := f11.pr
    obtain ⟨dx, hp⟩ := f11.sh
    walk_at "go"
    refine g_eqO f11.q (.base (.int _)) nf_Share_int ki_int_o_Share ?_
    walk_at "go"
    refine g_eqO f11.q (.base .non) nf_Share_NoneType ki_NoneType_o_Share ?_
    walk_at "go"
    refine g_eqO f11.q (tyT (.of e11)) nf_Share_tuple ki_tuple_o_Share ?_
    walk_at "go"
    refine g_ownStr hp ⟨e1.p, _, _, rfl, f11.sh, ⟨lt_pow (ltT f11.nz a1) (by decide), lt_pow (ltB f11.nz a2) (by decide)⟩, fun H12 s12 => ⟨_, rfl, ?_⟩⟩
    have f12 := f11.sm s12
    clear f11 e11 hp s12
    have e12 := f12.pr
    obtain ⟨dx, hp⟩ := f12.sh
    walk_at "go"
    refine g_eqO f12.q (.base (.str _)) nf_Share_str ki_str_o_Share ?_
    walk_at "go"
    rename_i p5 hp5
    refine g_eqO (f12.q.sm (same_new hp5)) (tyL (.of upd_same)) nf_Share_list ki_list_o_Share ?_
    walk_at "go"
    refine g_eqO (f12.q.sm (same_new hp5)) (.base (.bl _)) nf_Share_bool ki_bool_o_Share ?_
    walk_at "go"
    refine g_eqO (f12.q.sm (same_new hp5)) (.base (.int _)) nf_Share_int ki_int_o_Share ?_
    walk_at "go"
    rename_i u hu
    have e13 : upd (upd H12 p5 (.lst [V.int e1.n, V.int e1.d])) u (.lst [V.bl false, V.bl false, V.bl false, V.bl false, V.bl false, V.bl false, V.bl false]) u = some (.lst [V.bl false, V.bl false, V.bl false, V.bl false, V.bl false, V.bl false, V.bl false]) := upd_same
    generalize upd (upd H12 p5 (.lst [V.int e1.n, V.int e1.d])) u (.lst [V.bl false, V.bl false, V.bl false, V.bl false, V.bl false, V.bl false, V.bl false]) = H13 at e13 ⊢
    rw [show ((([V.bl false, V.bl false, V.bl false, V.bl false, V.bl false, V.bl false, V.bl false] : List V).length : Int)).toNat = 7 from rfl]
    refine lcR (σ0 := [some (V.ref s0), some (.ref a), some (.ref sp), some (.ref pp), none, some (.ref e1.q), some (.ref e1.p), some (.int es.length), some (.int r2), some (.int r3), some (.ref u)]) rfl fun D hD =>
      ⟨fun i H' => H' = upd H13 D (.lst (List.replicate i (.bl false))), rfl, ?_, ?_⟩
    · rintro i H' hi rfl
      walk_at "go"
      refine g_turnD upd_same (by rw [List.length_replicate]; omega) ?_
      show upd _ D _ = upd H13 D (.lst (List.replicate (i + 1) (.bl false)))
      rw [upd_upd, List.replicate_succ']
    · rintro H' rfl
      walk_at "go"
      refine g_likeD (d := .list [.bool false, .bool false, .bool false, .bool false, .bool false, .bool false, .bool false]) ?_ ?_ (Nat.le_refl 1) rfl fun H14 _ => q H14
      · exact .lst (.of (h_ne (ne_of_none e13 hD) e13)) (.cons (.bl _) (.cons (.bl _) (.cons (.bl _) (.cons (.bl _) (.cons (.bl _) (.cons (.bl _) (.cons (.bl _) .nil)))))))
      · exact .lst (.of upd_same) (.cons (.bl _) (.cons (.bl _) (.cons (.bl _) (.cons (.bl _) (.cons (.bl _) (.cons (.bl _) (.cons (.bl _) .nil)))))))
end

set_option Elab.async false
set_option linter.all false
set_option maxRecDepth 100000
set_option maxHeartbeats 4000000
open PySem PySem.Spec L2

def d_number_word : He.DefD := ⟨("number_word", none), "number_word", "number_word", defArgs s_number_word, defBody s_number_word, defScope s_number_word, [], []⟩
def d__law_bag : He.DefD := ⟨("_law_bag", none), "_law_bag", "_law_bag", defArgs s__law_bag, defBody s__law_bag, defScope s__law_bag, [], []⟩
def d__law_draw : He.DefD := ⟨("_law_draw", none), "_law_draw", "_law_draw", defArgs s__law_draw, defBody s__law_draw, defScope s__law_draw, [], []⟩
def d__law_of : He.DefD := ⟨("_law_of", none), "_law_of", "_law_of", defArgs s__law_of, defBody s__law_of, defScope s__law_of, [], []⟩
def d__law_like : He.DefD := ⟨("_law_like", none), "_law_like", "_law_like", defArgs s__law_like, defBody s__law_like, defScope s__law_like, [], []⟩
def d__law_common : He.DefD := ⟨("_law_common", none), "_law_common", "_law_common", defArgs s__law_common, defBody s__law_common, defScope s__law_common, [], []⟩
def d__law_is_share : He.DefD := ⟨("_law_is_share", none), "_law_is_share", "_law_is_share", defArgs s__law_is_share, defBody s__law_is_share, defScope s__law_is_share, [], []⟩
def d__law_part : He.DefD := ⟨("_law_part", none), "_law_part", "_law_part", defArgs s__law_part, defBody s__law_part, defScope s__law_part, [], []⟩
def d__law_told_like : He.DefD := ⟨("_law_told_like", none), "_law_told_like", "_law_told_like", defArgs s__law_told_like, defBody s__law_told_like, defScope s__law_told_like, [], []⟩
def d__law_less : He.DefD := ⟨("_law_less", none), "_law_less", "_law_less", defArgs s__law_less, defBody s__law_less, defScope s__law_less, [], []⟩
def d__law_refused : He.DefD := ⟨("_law_refused", none), "_law_refused", "_law_refused", defArgs s__law_refused, defBody s__law_refused, defScope s__law_refused, [], []⟩
def d__law_compared : He.DefD := ⟨("_law_compared", none), "_law_compared", "_law_compared", defArgs s__law_compared, defBody s__law_compared, defScope s__law_compared, [], []⟩
def d__law_worked : He.DefD := ⟨("_law_worked", none), "_law_worked", "_law_worked", defArgs s__law_worked, defBody s__law_worked, defScope s__law_worked, [], []⟩
def d__law_back : He.DefD := ⟨("_law_back", none), "_law_back", "_law_back", defArgs s__law_back, defBody s__law_back, defScope s__law_back, [], []⟩
def d_law : He.DefD := ⟨("law", none), "law", "law", defArgs s_law, defBody s_law, defScope s_law, [], []⟩
def d_Share___init__ : He.DefD := ⟨("Share", some "__init__"), "__init__", "Share.__init__", defArgs s_Share___init__, defBody s_Share___init__, defScope s_Share___init__, [.int 1], []⟩
def d_Share_below : He.DefD := ⟨("Share", some "below"), "below", "Share.below", defArgs s_Share_below, defBody s_Share_below, defScope s_Share_below, [], []⟩
def d_Share_over : He.DefD := ⟨("Share", some "over"), "over", "Share.over", defArgs s_Share_over, defBody s_Share_over, defScope s_Share_over, [], []⟩
def d_Share___add__ : He.DefD := ⟨("Share", some "__add__"), "__add__", "Share.__add__", defArgs s_Share___add__, defBody s_Share___add__, defScope s_Share___add__, [], []⟩
def d_Share___sub__ : He.DefD := ⟨("Share", some "__sub__"), "__sub__", "Share.__sub__", defArgs s_Share___sub__, defBody s_Share___sub__, defScope s_Share___sub__, [], []⟩
def d_Share___mul__ : He.DefD := ⟨("Share", some "__mul__"), "__mul__", "Share.__mul__", defArgs s_Share___mul__, defBody s_Share___mul__, defScope s_Share___mul__, [], []⟩
def d_Share___neg__ : He.DefD := ⟨("Share", some "__neg__"), "__neg__", "Share.__neg__", defArgs s_Share___neg__, defBody s_Share___neg__, defScope s_Share___neg__, [], []⟩
def d_Share___eq__ : He.DefD := ⟨("Share", some "__eq__"), "__eq__", "Share.__eq__", defArgs s_Share___eq__, defBody s_Share___eq__, defScope s_Share___eq__, [], []⟩
def d_Share___bool__ : He.DefD := ⟨("Share", some "__bool__"), "__bool__", "Share.__bool__", defArgs s_Share___bool__, defBody s_Share___bool__, defScope s_Share___bool__, [], []⟩
def d_Share___str__ : He.DefD := ⟨("Share", some "__str__"), "__str__", "Share.__str__", defArgs s_Share___str__, defBody s_Share___str__, defScope s_Share___str__, [], []⟩
def d_Share___repr__ : He.DefD := ⟨("Share", some "__repr__"), "__repr__", "Share.__repr__", defArgs s_Share___repr__, defBody s_Share___repr__, defScope s_Share___repr__, [], []⟩
def fnL : List He.DefD := [d_number_word, d__law_bag, d__law_draw, d__law_of, d__law_like, d__law_common, d__law_is_share, d__law_part, d__law_told_like, d__law_less, d__law_refused, d__law_compared, d__law_worked, d__law_back, d_law, d_Share___init__, d_Share_below, d_Share_over, d_Share___add__, d_Share___sub__, d_Share___mul__, d_Share___neg__, d_Share___eq__, d_Share___bool__, d_Share___str__, d_Share___repr__]
def tsL : List (PySem.W.Frag → Bool) := [fun K => insB K "Share", fun K => decide (PySem.W.kitOne K (.ref (He.ga K "Share")) (.ref (He.ga K "Share")) = some true), fun K => decide (PySem.W.kitOne K (.type "int") (.ref (He.ga K "Share")) = some false), fun K => decide (PySem.W.kitOne K (.type "bool") (.ref (He.ga K "Share")) = some false), fun K => decide (PySem.W.kitOne K (.type "NoneType") (.ref (He.ga K "Share")) = some false), fun K => decide (PySem.W.kitOne K (.type "str") (.ref (He.ga K "Share")) = some false), fun K => decide (PySem.W.kitOne K (.type "list") (.ref (He.ga K "Share")) = some false), fun K => decide (PySem.W.kitOne K (.type "tuple") (.ref (He.ga K "Share")) = some false), fun K => PySem.W.notFirst K (He.ga K "Share") (.ref (He.ga K "Share")), fun K => PySem.W.notFirst K (He.ga K "Share") (.type "int"), fun K => PySem.W.notFirst K (He.ga K "Share") (.type "bool"), fun K => PySem.W.notFirst K (He.ga K "Share") (.type "NoneType"), fun K => PySem.W.notFirst K (He.ga K "Share") (.type "str"), fun K => PySem.W.notFirst K (He.ga K "Share") (.type "list"), fun K => PySem.W.notFirst K (He.ga K "Share") (.type "tuple"), fun K => bltB K "gcd" "math.gcd", fun K => He.Fa.ok K (.glo "InvalidWeights"), fun K => He.Fa.ok K (.glo "InvalidError"), fun K => excB K "InvalidWeights", fun K => decide (PySem.W.kitOne K (.ref (He.ga K "InvalidWeights")) (.ref (He.ga K "InvalidError")) = some true), fun K => decide (PySem.W.kitOne K (.ref (He.ga K "InvalidWeights")) (.type "ValueError") = some true)]
def prL : List PrpD := []
def faL : List He.Fa := [.glo "number_word", .glo "_law_bag", .glo "_law_draw", .glo "_law_of", .glo "_law_like", .glo "_law_common", .glo "_law_is_share", .glo "_law_part", .glo "_law_told_like", .glo "_law_less", .glo "_law_refused", .glo "_law_compared", .glo "_law_worked", .glo "_law_back", .glo "law", .free "ValueError", .free "abs", .free "divmod", .free "str", .free "bool", .free "isinstance", .free "list", .free "int", .free "len", .free "tuple", .free "all", .free "zip", .free "repr", .free "range", .glo "Share", .cls "Share", .noat "Share" "top", .noat "Share" "bottom", .mkr "Share", .meth "Share" "below", .meth "Share" "over", .meth "Share" "__add__", .meth "Share" "__sub__", .meth "Share" "__mul__", .meth "Share" "__neg__", .meth "Share" "__eq__", .meth "Share" "__bool__", .meth "Share" "__str__", .meth "Share" "__repr__", .int "GROUP_DIGITS" 9, .int "GROUP" 1000000000]
abbrev rowR : PySem.W.OpenRow := PySem.W.OpenLaw.row PySem.Challenge.rw_answersalone_k25_shares_by_hand
abbrev hkR : PySem.W.Hook := hookX 6 faL fnL prL tsL
def obR (s : PySem.W.SharedT) : AlX := obsXG 6 faL fnL prL tsL (HandSHeadRun.getT s)
theorem obR_eq (s : PySem.W.SharedT) : obR s = hkR.obs s.abs := obsXG_eq (HandSHeadRun.getT_eq s)
abbrev looseR : List PySem.Str := ["GROUP_DIGITS", "GROUP", "InvalidError", "InvalidWeights", "number_word", "Share", "_law_bag", "_law_draw", "_law_of", "_law_like", "_law_common", "_law_is_share", "_law_part", "_law_told_like", "_law_less", "_law_refused", "_law_compared", "_law_worked", "_law_back"]
theorem runR (w : World) : HandSHeadRun.RunEqI rowR (PySem.W.view rowR.prog [0, 24]) hkR obR 6000 looseR w := by
  unfold HandSHeadRun.RunEqI
  kernel_rfl
theorem factsR {P : Program} {w : World} {K : PySem.W.Frag} {h : Heap} {mg : Str → Option Value} {f : Addr} (X : K.In h) (G : h.Ns mainGlobals mg) (hfa : mg ("law" : Str) = some (.ref f)) (c : SaysX faL fnL prL tsL K) :
    ∃ fd : FuncData, (∀ (s : Shared) (v : Value), BindsTo s fd ⟨[v], []⟩ [("script", v)]) ∧ ∀ base : Heap, K.In base → base.Ns mainGlobals mg → FnOk P w K mg base CX0 8 f fd ["script"] (spLaw K) := by
  obtain ⟨fd_number_word, F_number_word⟩ := c.p.d.def_ 0 (d := d_number_word) rfl
  obtain ⟨fd__law_bag, F__law_bag⟩ := c.p.d.def_ 1 (d := d__law_bag) rfl
  obtain ⟨fd__law_draw, F__law_draw⟩ := c.p.d.def_ 2 (d := d__law_draw) rfl
  obtain ⟨fd__law_of, F__law_of⟩ := c.p.d.def_ 3 (d := d__law_of) rfl
  obtain ⟨fd__law_like, F__law_like⟩ := c.p.d.def_ 4 (d := d__law_like) rfl
  obtain ⟨fd__law_common, F__law_common⟩ := c.p.d.def_ 5 (d := d__law_common) rfl
  obtain ⟨fd__law_is_share, F__law_is_share⟩ := c.p.d.def_ 6 (d := d__law_is_share) rfl
  obtain ⟨fd__law_part, F__law_part⟩ := c.p.d.def_ 7 (d := d__law_part) rfl
  obtain ⟨fd__law_told_like, F__law_told_like⟩ := c.p.d.def_ 8 (d := d__law_told_like) rfl
  obtain ⟨fd__law_less, F__law_less⟩ := c.p.d.def_ 9 (d := d__law_less) rfl
  obtain ⟨fd__law_refused, F__law_refused⟩ := c.p.d.def_ 10 (d := d__law_refused) rfl
  obtain ⟨fd__law_compared, F__law_compared⟩ := c.p.d.def_ 11 (d := d__law_compared) rfl
  obtain ⟨fd__law_worked, F__law_worked⟩ := c.p.d.def_ 12 (d := d__law_worked) rfl
  obtain ⟨fd__law_back, F__law_back⟩ := c.p.d.def_ 13 (d := d__law_back) rfl
  obtain ⟨fd_law, F_law⟩ := c.p.d.def_ 14 (d := d_law) rfl
  obtain ⟨fd_Share___init__, F_Share___init__⟩ := c.p.d.def_ 15 (d := d_Share___init__) rfl
  obtain ⟨fd_Share_below, F_Share_below⟩ := c.p.d.def_ 16 (d := d_Share_below) rfl
  obtain ⟨fd_Share_over, F_Share_over⟩ := c.p.d.def_ 17 (d := d_Share_over) rfl
  obtain ⟨fd_Share___add__, F_Share___add__⟩ := c.p.d.def_ 18 (d := d_Share___add__) rfl
  obtain ⟨fd_Share___sub__, F_Share___sub__⟩ := c.p.d.def_ 19 (d := d_Share___sub__) rfl
  obtain ⟨fd_Share___mul__, F_Share___mul__⟩ := c.p.d.def_ 20 (d := d_Share___mul__) rfl
  obtain ⟨fd_Share___neg__, F_Share___neg__⟩ := c.p.d.def_ 21 (d := d_Share___neg__) rfl
  obtain ⟨fd_Share___eq__, F_Share___eq__⟩ := c.p.d.def_ 22 (d := d_Share___eq__) rfl
  obtain ⟨fd_Share___bool__, F_Share___bool__⟩ := c.p.d.def_ 23 (d := d_Share___bool__) rfl
  obtain ⟨fd_Share___str__, F_Share___str__⟩ := c.p.d.def_ 24 (d := d_Share___str__) rfl
  obtain ⟨fd_Share___repr__, F_Share___repr__⟩ := c.p.d.def_ 25 (d := d_Share___repr__) rfl
  have T : Top K mg := ⟨⟨_, _, F_number_word, He.glo_ok X G (c.p.d.fact 0 (f := .glo "number_word") rfl)⟩,
    ⟨_, _, F__law_bag, He.glo_ok X G (c.p.d.fact 1 (f := .glo "_law_bag") rfl)⟩,
    ⟨_, _, F__law_draw, He.glo_ok X G (c.p.d.fact 2 (f := .glo "_law_draw") rfl)⟩,
    ⟨_, _, F__law_of, He.glo_ok X G (c.p.d.fact 3 (f := .glo "_law_of") rfl)⟩,
    ⟨_, _, F__law_like, He.glo_ok X G (c.p.d.fact 4 (f := .glo "_law_like") rfl)⟩,
    ⟨_, _, F__law_common, He.glo_ok X G (c.p.d.fact 5 (f := .glo "_law_common") rfl)⟩,
    ⟨_, _, F__law_is_share, He.glo_ok X G (c.p.d.fact 6 (f := .glo "_law_is_share") rfl)⟩,
    ⟨_, _, F__law_part, He.glo_ok X G (c.p.d.fact 7 (f := .glo "_law_part") rfl)⟩,
    ⟨_, _, F__law_told_like, He.glo_ok X G (c.p.d.fact 8 (f := .glo "_law_told_like") rfl)⟩,
    ⟨_, _, F__law_less, He.glo_ok X G (c.p.d.fact 9 (f := .glo "_law_less") rfl)⟩,
    ⟨_, _, F__law_refused, He.glo_ok X G (c.p.d.fact 10 (f := .glo "_law_refused") rfl)⟩,
    ⟨_, _, F__law_compared, He.glo_ok X G (c.p.d.fact 11 (f := .glo "_law_compared") rfl)⟩,
    ⟨_, _, F__law_worked, He.glo_ok X G (c.p.d.fact 12 (f := .glo "_law_worked") rfl)⟩,
    ⟨_, _, F__law_back, He.glo_ok X G (c.p.d.fact 13 (f := .glo "_law_back") rfl)⟩,
    ⟨_, _, F_law, He.glo_ok X G (c.p.d.fact 14 (f := .glo "law") rfl)⟩,
    He.glo_ok X G (c.p.d.fact 29 (f := .glo "Share") rfl),
    He.cls_ok (c.p.d.fact 30 (f := .cls "Share") rfl),
    He.noat_ok (c.p.d.fact 31 (f := .noat "Share" "top") rfl),
    He.noat_ok (c.p.d.fact 32 (f := .noat "Share" "bottom") rfl),
    He.mkr_ok (c.p.d.fact 33 (f := .mkr "Share") rfl),
    ⟨_, F_Share___init__⟩,
    He.meth_ok (c.p.d.fact 34 (f := .meth "Share" "below") rfl),
    ⟨_, F_Share_below⟩,
    He.meth_ok (c.p.d.fact 35 (f := .meth "Share" "over") rfl),
    ⟨_, F_Share_over⟩,
    He.meth_ok (c.p.d.fact 36 (f := .meth "Share" "__add__") rfl),
    ⟨_, F_Share___add__⟩,
    He.meth_ok (c.p.d.fact 37 (f := .meth "Share" "__sub__") rfl),
    ⟨_, F_Share___sub__⟩,
    He.meth_ok (c.p.d.fact 38 (f := .meth "Share" "__mul__") rfl),
    ⟨_, F_Share___mul__⟩,
    He.meth_ok (c.p.d.fact 39 (f := .meth "Share" "__neg__") rfl),
    ⟨_, F_Share___neg__⟩,
    He.meth_ok (c.p.d.fact 40 (f := .meth "Share" "__eq__") rfl),
    ⟨_, F_Share___eq__⟩,
    He.meth_ok (c.p.d.fact 41 (f := .meth "Share" "__bool__") rfl),
    ⟨_, F_Share___bool__⟩,
    He.meth_ok (c.p.d.fact 42 (f := .meth "Share" "__str__") rfl),
    ⟨_, F_Share___str__⟩,
    He.meth_ok (c.p.d.fact 43 (f := .meth "Share" "__repr__") rfl),
    ⟨_, F_Share___repr__⟩,
    (match He.int_ok X G (c.p.d.fact 44 (f := .int "GROUP_DIGITS" 9) rfl) with | ⟨t, e⟩ => ⟨_, e, t, rfl⟩),
    (match He.int_ok X G (c.p.d.fact 45 (f := .int "GROUP" 1000000000) rfl) with | ⟨t, e⟩ => ⟨_, e, t, rfl⟩),
    He.free_ok X G (c.p.d.fact 15 (f := .free "ValueError") rfl),
    He.free_ok X G (c.p.d.fact 16 (f := .free "abs") rfl),
    He.free_ok X G (c.p.d.fact 17 (f := .free "divmod") rfl),
    He.free_ok X G (c.p.d.fact 18 (f := .free "str") rfl),
    He.free_ok X G (c.p.d.fact 19 (f := .free "bool") rfl),
    He.free_ok X G (c.p.d.fact 20 (f := .free "isinstance") rfl),
    He.free_ok X G (c.p.d.fact 21 (f := .free "list") rfl),
    He.free_ok X G (c.p.d.fact 22 (f := .free "int") rfl),
    He.free_ok X G (c.p.d.fact 23 (f := .free "len") rfl),
    He.free_ok X G (c.p.d.fact 24 (f := .free "tuple") rfl),
    He.free_ok X G (c.p.d.fact 25 (f := .free "all") rfl),
    He.free_ok X G (c.p.d.fact 26 (f := .free "zip") rfl),
    He.free_ok X G (c.p.d.fact 27 (f := .free "repr") rfl),
    He.free_ok X G (c.p.d.fact 28 (f := .free "range") rfl),
    insB_ok (c.test 0 rfl),
    of_decide_eq_true (c.test 1 rfl),
    of_decide_eq_true (c.test 2 rfl),
    of_decide_eq_true (c.test 3 rfl),
    of_decide_eq_true (c.test 4 rfl),
    of_decide_eq_true (c.test 5 rfl),
    of_decide_eq_true (c.test 6 rfl),
    of_decide_eq_true (c.test 7 rfl),
    (c.test 8 rfl),
    (c.test 9 rfl),
    (c.test 10 rfl),
    (c.test 11 rfl),
    (c.test 12 rfl),
    (c.test 13 rfl),
    (c.test 14 rfl),
    bltB_ok X G (c.test 15 rfl),
    He.glo_ok X G (c.test 16 rfl),
    He.glo_ok X G (c.test 17 rfl),
    excB_ok (c.test 18 rfl),
    of_decide_eq_true (c.test 19 rfl),
    of_decide_eq_true (c.test 20 rfl)⟩
  have e := hfa.symm.trans (He.glo_ok X G (c.p.d.fact 14 (f := .glo "law") rfl))
  cases e
  have b := FunD.bindsA (ps := ["script"]) F_law fun _ _ _ _ _ _ us hl => match us, hl with | [_], _ => rfl
  exact ⟨fd_law, fun s v => b s [v] rfl, fun base _ _ => ok_law T F_law⟩
end Q
open PySem PySem.W PySem.Calls PyProof.Rows
set_option maxRecDepth 100000 in
set_option maxHeartbeats 0 in
theorem PySem.Challenge.cw_answersalone_k25_shares_by_hand_holds : PySem.Challenge.rw_answersalone_k25_shares_by_hand.Holds := by
  w_on; o_law
  refine HandSHeadRun.head_imp (r := OpenLaw.row PySem.Challenge.rw_answersalone_k25_shares_by_hand) (q := view (OpenLaw.row PySem.Challenge.rw_answersalone_k25_shares_by_hand).prog [0, 24]) (H := Q.hkR) (ob := Q.obR) (M := 6000) (loose := Q.looseR)
    (d := HandSHeadRun.topDef (OpenLaw.row PySem.Challenge.rw_answersalone_k25_shares_by_hand).prog 24) (kwd := []) Q.obR_eq
    Q.runR (by kernel_rfl) (by kernel_rfl) (by kernel_rfl) (by rfl) (by first | assumption | decide +kernel) (by decide +kernel) ⟨rfl, rfl, rfl, rfl, rfl, by decide +kernel⟩ ?hw ?hc
  case hw => w_witness2
  case hc =>
    refine L2.walk_ofE (l := PySem.Challenge.rw_answersalone_k25_shares_by_hand) (n := 63) (k := 8) (x := "script") (CX := L2.CX0) rfl (by decide) (by kernel_rfl) ⟨rfl, by decide, by decide⟩ ?F (fun _ _ _ _ z => z)
    intro w mg fa h Y G hmg0
    obtain ⟨K, KX, c⟩ := Y
    have hmg : mg ("law" : PySem.Str) = some (.ref fa) := by
      have e : (HandSHeadRun.topDef (OpenLaw.row PySem.Challenge.rw_answersalone_k25_shares_by_hand).prog 24).name = ("law" : PySem.Str) := by kernel_rfl
      rw [← e]
      exact hmg0
    obtain ⟨fd, hb, hF⟩ := Q.factsR (P := (PySem.Challenge.rw_answersalone_k25_shares_by_hand).prog) (w := w) KX G hmg c
    exact ⟨K, fd, Q.spLaw K, KX, hb, fun H a ns hl _ hS => ⟨a, ns, rfl, hS, hl, fun _ => rfl⟩, hF⟩
