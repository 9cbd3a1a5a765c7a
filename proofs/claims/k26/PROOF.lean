import PyProof.Rows.All
import Wide.All
import OpenK.AllK
import Wide.FinOn
import HandS.Wide
import HandS.ForMost
import HandS.Defaults
import HandS.MakeKwOnly
import HandS.IsInst
import HandS.Conv
import HandS.Style
import HandS.Flow
import HandS.Codes
import HandS.Head0
import HandS.Head1
import HandS.Head2
import HandS.HeadEnd
import HandS.HeadHook1
import HandS.HeadHook2
import KE.GoesMore
import HandS.Zip
import KE.GoesEnum
import HandS.Property
import HandS.OwnEq
import HandS.MakeKw
import HandS.FStr
import HandS.StrMore
import HandS.StrSplit
import HandS.TryOnly
import PyProof.Conv_bool
import PyProof.MeetsIn
import PyProof.StrLawsIn
import PyProof.StrBlockL
import HandS.Gcd
import HandS.WideBits
import HandS.Exc
import HandS.ExcOwn
import HandS.ExcIs
import HandS.ForExc
import HandS.Small
import PySem.Challenge.RW_answersalone_k26_shares_of_weights_and_o
import HandS.Head3
set_option Elab.async false
set_option linter.all false
set_option maxRecDepth 100000
namespace Q
open PySem PySem.Spec L2

/-- what a caller needs of a def that has no defaults -/
structure Cal (P : Program) (w : World) (K : PySem.W.Frag) (mg : Str → Option Value) (base : Heap)
    (x : Str) (k : Nat) (ps : List Str) (sp : Sp) : Prop where
  ex : ∃ (f : Addr) (fd : FuncData), FnOk P w K mg base CX0 k f fd ps sp ∧
    mg x = some (.ref f) ∧ PySem.W.keepIn K (.ref f) = true ∧ Binds K fd ps []

section
variable {X : Cx} {x : Str} {k : Nat} {ps : List Str} {sp : Sp} {e : Expr} {es : List Expr} {t : TA} {p pos : Pos}
theorem pe_cal (C : Cal X.prog X.w X.K X.mg X.base x k ps sp) (hr : Room k X.A) (hg : Gl X x) (ha : PA X (e :: es) t)
    (hd : (x == ("__debug__" : Str)) = false := by decide)
    (he : starEach (e :: es) X.env = (false, eval e X.env) :: starEach es X.env := by rfl)
    (hl : (backTo pos (starEach es X.env)).any (·.1) = false := by rfl) :
    PE X (.Call (.Name x p) (e :: es) [] pos) (tCall sp [] E0 t) := by
  obtain ⟨f, fd, F, hm, hk, hb⟩ := C.ex
  exact pe_call F hr hg hm hk hb .nil pass0 ha hd he hl
end

theorem cal_mk {P : Program} {w : World} {K : PySem.W.Frag} {mg : Str → Option Value} {base : Heap} {x q : Str} {pa : Arguments} {bd : List Stmt} {sc : Scope} {dv : List V} {kw : List (Str × V)} {k : Nat} {ps : List Str} {sp : Sp}
    (h : ∃ (f : Addr) (fd : FuncData), FunD K x q pa bd sc dv kw f fd ∧ mg x = some (.ref f))
    (ok : ∀ {f : Addr} {fd : FuncData}, FunD K x q pa bd sc dv kw f fd → FnOk P w K mg base CX0 k f fd ps sp)
    (b : ∀ {f : Addr} {fd : FuncData}, FunD K x q pa bd sc dv kw f fd → Binds K fd ps []) : Cal P w K mg base x k ps sp := by
  obtain ⟨f, fd, F, m⟩ := h
  exact ⟨f, fd, ok F, m, F.kp, b F⟩
theorem cal_mono {P : Program} {w : World} {K : PySem.W.Frag} {mg : Str → Option Value} {base : Heap} {x : Str} {j k : Nat} {ps : List Str} {sp : Sp} (C : Cal P w K mg base x j ps sp) (h : j ≤ k) : Cal P w K mg base x k ps sp := by
  obtain ⟨f, fd, F, m, kp, b⟩ := C.ex
  exact ⟨f, fd, F.mono h, m, kp, b⟩
/-- what a caller with keywords needs of a def: n values by position, the keywords ks; gV puts them (and the defaults) in the parameters' order -/
structure KCal (P : Program) (w : World) (K : PySem.W.Frag) (mg : Str → Option Value) (base : Heap) (x : Str) (k n : Nat) (ks : List Str) (gV : List V → List V → List V) (sp : Sp) : Prop where
  ex : ∃ (f : Addr) (fd : FuncData) (ps : List Str) (g : List Value → List Value → List Value), FnOk P w K mg base CX0 k f fd ps sp ∧ mg x = some (.ref f) ∧ PySem.W.keepIn K (.ref f) = true ∧ KBn K fd ps n ks g gV
theorem kcal_mk {P : Program} {w : World} {K : PySem.W.Frag} {mg : Str → Option Value} {base : Heap} {x q : Str} {pa : Arguments} {bd : List Stmt} {sc : Scope} {dv : List V} {kw : List (Str × V)} {k n : Nat} {ks ps : List Str} {sp : Sp} {gV : List V → List V → List V}
    (h : ∃ (f : Addr) (fd : FuncData), FunD K x q pa bd sc dv kw f fd ∧ mg x = some (.ref f))
    (ok : ∀ {f : Addr} {fd : FuncData}, FunD K x q pa bd sc dv kw f fd → FnOk P w K mg base CX0 k f fd ps sp)
    (b : ∀ {f : Addr} {fd : FuncData}, FunD K x q pa bd sc dv kw f fd → ∃ g, KBn K fd ps n ks g gV) : KCal P w K mg base x k n ks gV sp := by
  obtain ⟨f, fd, F, m⟩ := h
  obtain ⟨g, kb⟩ := b F
  exact ⟨f, fd, ps, g, ok F, m, F.kp, kb⟩
section
variable {X : Cx} {x : Str} {k n : Nat} {ks : List Str} {gV : List V → List V → List V} {sp : Sp} {e : Expr} {es : List Expr} {kws : List Keyword} {t tk : TA} {p pos : Pos}
theorem pe_kcal (C : KCal X.prog X.w X.K X.mg X.base x k n ks gV sp) (hr : Room k X.A) (hg : Gl X x) (ha : PA X (e :: es) t) (hkw : PK X kws tk)
    (hall : (backToKw pos (keywordEach kws X.env)).all (·.1.isSome) = true := by rfl) (hks : (backToKw pos (keywordEach kws X.env)).filterMap (·.1) = ks := by rfl)
    (hd : (x == ("__debug__" : Str)) = false := by decide) (he : starEach (e :: es) X.env = (false, eval e X.env) :: starEach es X.env := by rfl)
    (hl : ((backTo pos (starEach (e :: es) X.env)).any (·.1) || (backToKw pos (keywordEach kws X.env)).any (·.1.isNone)) = false := by rfl) :
    PE X (.Call (.Name x p) (e :: es) kws pos) (tCallN n ks.length sp gV E0 t tk) := by
  obtain ⟨f, fd, ps, g, F, hm, hk, hb⟩ := C.ex
  exact pe_callN F hr hg hm hk hb pass0 ha hkw hall hks hd he hl
theorem pe_kcal0 (C : KCal X.prog X.w X.K X.mg X.base x k 0 ks gV sp) (hr : Room k X.A) (hg : Gl X x) (hkw : PK X kws tk)
    (hall : (backToKw pos (keywordEach kws X.env)).all (·.1.isSome) = true := by rfl) (hks : (backToKw pos (keywordEach kws X.env)).filterMap (·.1) = ks := by rfl)
    (hd : (x == ("__debug__" : Str)) = false := by decide)
    (hl : ((backTo pos (starEach [] X.env)).any (·.1) || (backToKw pos (keywordEach kws X.env)).any (·.1.isNone)) = false := by rfl) :
    PE X (.Call (.Name x p) [] kws pos) (tCallN 0 ks.length sp gV E0 tNil tk) := by
  obtain ⟨f, fd, ps, g, F, hm, hk, hb⟩ := C.ex
  refine ⟨fun pins s σ H Q I h => ?_⟩
  refine wpAny_Call_Name_kw (ld_glob I hg hm ?_ hd)
  refine PySem.W.callWith_KW0 (h₀ := X.base) I.ok.mod.kin hk hall ?_ hl
  refine thn (hkw.run pos pins s σ H _ I h) fun ws s2 ⟨zs, H2, I2, rz, l1, l2, q2⟩ => ⟨I2.kIn, ?_⟩
  rw [hks]
  exact run_fnN (us := []) (vs := []) F hr hb pass0 I2 .nil rz l1 l2 q2
end
/-- what a caller needs of a method of the class at C -/
structure MCal (P : Program) (w : World) (K : PySem.W.Frag) (mg : Str → Option Value) (base : Heap) (C : Addr) (m : Str) (k : Nat) (ps : List Str) (sp : Sp) : Prop where
  ex : ∃ (f : Addr) (fd : FuncData), Meth K C m f ∧ FnOk P w K mg base CX0 k f fd ps sp ∧ Binds K fd ps []
theorem mcal_mk {P : Program} {w : World} {K : PySem.W.Frag} {mg : Str → Option Value} {base : Heap} {C : Addr} {m : Str} {x q : Str} {pa : Arguments} {bd : List Stmt} {sc : Scope} {dv : List V} {kw : List (Str × V)} {k : Nat} {ps : List Str} {sp : Sp} {f : Addr}
    (me : Meth K C m f) (h : ∃ (fd : FuncData), FunD K x q pa bd sc dv kw f fd)
    (ok : ∀ {f : Addr} {fd : FuncData}, FunD K x q pa bd sc dv kw f fd → FnOk P w K mg base CX0 k f fd ps sp)
    (b : ∀ {f : Addr} {fd : FuncData}, FunD K x q pa bd sc dv kw f fd → Binds K fd ps []) : MCal P w K mg base C m k ps sp := by
  obtain ⟨fd, F⟩ := h
  exact ⟨f, fd, me, ok F, b F⟩
/-- what a caller needs of a class that is made by its __init__ -/
structure MkC (P : Program) (w : World) (K : PySem.W.Frag) (mg : Str → Option Value) (base : Heap) (C : Addr) (k : Nat) (ps : List Str) (sp : Sp) : Prop where
  ex : ∃ (f : Addr) (fd : FuncData), Mk K C f ∧ FnOk P w K mg base CX0 k f fd ps sp ∧ Binds K fd ps []
section
variable {X : Cx} {K : PySem.W.Frag} {C : Addr} {k : Nat} {ps : List Str} {sp : Sp} {e o value : Expr} {es : List Expr} {t : TA} {ta tv : TE} {x m f : Str} {p pos pos' apos : Pos}
theorem pe_mcal {pl : Sem Bool} (he : PE X o ta) (c : Cls X.K C) (M : MCal X.prog X.w X.K X.mg X.base C m k ps sp) (hr : Room k X.A) (ha : PA X (e :: es) t)
    (hst : starEach (e :: es) X.env = (false, eval e X.env) :: starEach es X.env := by rfl) (hl : (backTo pos (starEach es X.env)).any (·.1) = false := by rfl)
    (ht : eval (.Call (.Attribute o m apos) (e :: es) [] pos) X.env = (do
      let self_ ← eval o X.env
      standAt apos.atName
      let (fn, first) ← holding [self_] (getMethod self_ m pl)
      callWith pos fn first (backTo pos (starEach (e :: es) X.env)) (backToKw pos (keywordEach [] X.env))) := by rfl) :
    PE X (.Call (.Attribute o m apos) (e :: es) [] pos) (tMeth C m sp [] E0 ta t) := by
  obtain ⟨f, fd, hm, F, hb⟩ := M.ex
  exact pe_meth he c hm F hr hb .nil pass0 ha hst hl ht
theorem pe_mcal0 {pl : Sem Bool} (he : PE X o ta) (c : Cls X.K C) (M : MCal X.prog X.w X.K X.mg X.base C m k ps sp) (hr : Room k X.A)
    (ht : eval (.Call (.Attribute o m apos) [] [] pos) X.env = (do
      let self_ ← eval o X.env
      standAt apos.atName
      let (fn, first) ← holding [self_] (getMethod self_ m pl)
      callWith pos fn first (backTo pos (starEach [] X.env)) (backToKw pos (keywordEach [] X.env))) := by rfl) :
    PE X (.Call (.Attribute o m apos) [] [] pos) (tMeth C m sp [] E0 ta tNil) := by
  obtain ⟨f, fd, hm, F, hb⟩ := M.ex
  exact pe_meth0 he c hm F hr hb .nil pass0 ht
theorem pe_mk (hm : X.mg x = some (.ref C)) (M : MkC X.prog X.w X.K X.mg X.base C k ps sp) (hr : Room (k + 1) X.A) (hg : Gl X x) (ha : PA X (e :: es) t)
    (hd : (x == ("__debug__" : Str)) = false := by decide) (he : starEach (e :: es) X.env = (false, eval e X.env) :: starEach es X.env := by rfl) (hl : (backTo pos (starEach es X.env)).any (·.1) = false := by rfl) :
    PE X (.Call (.Name x p) (e :: es) [] pos) (tMake C sp [] E0 t) := by
  obtain ⟨f, fd, hmk, F, hb⟩ := M.ex
  exact pe_make hmk F hr hg hm hb .nil pass0 ha hd he hl
theorem k_fld (ek : X.K = K) (he : PE X e ta) (hb : attributeBase e f X.env (eval e X.env) = eval e X.env) : PE X (.Attribute e f pos) (tFld K ta f) := by subst ek; exact pe_fld he hb
theorem k_sfld (ek : X.K = K) (ha : PE X o ta) (hv : PE X value tv) (hs : swapsWith value (some (.Attribute o f pos')) pos.line X.env = pure false) : PS X (.Assign [.Attribute o f pos'] value pos) (sFld K ta tv f) := by subst ek; exact ps_fld ha hv hs
end
/-- the parameters' order: the i-th of the values by position (0), of the defaults that lack (1), of the keywords (2) -/
def pick {α : Type} : List (Nat × Nat) → List α → List α → List α → List α
  | [], _, _, _ => []
  | (k, i) :: r, us, mv, ws => match (match k with | 0 => us | 1 => mv | _ => ws)[i]? with
    | some x => x :: pick r us mv ws
    | none => pick r us mv ws
theorem vals_pick : ∀ (ix : List (Nat × Nat)) {vs mz zs : List V} {us mv ws : List Value}, Vals vs us → Vals mz mv → Vals zs ws → Vals (pick ix vs mz zs) (pick ix us mv ws)
  | [], _, _, _, _, _, _, _, _, _ => .nil
  | (k, i) :: r, vs, mz, zs, us, mv, ws, h1, h2, h3 => by
    have hsel : Vals (match k with | 0 => vs | 1 => mz | _ => zs) (match k with | 0 => us | 1 => mv | _ => ws) := by
      match k with
      | 0 => exact h1
      | 1 => exact h2
      | _ + 2 => exact h3
    have ih := vals_pick r h1 h2 h3
    unfold pick
    cases e : (match k with | 0 => vs | 1 => mz | _ => zs)[i]? with
    | none =>
      rw [hsel.none_of e]
      exact ih
    | some x =>
      obtain ⟨u, hu, ru⟩ := hsel.get e
      rw [hu]
      exact .cons ru ih
theorem kbindsN {K : PySem.W.Frag} {x qual : Str} {params : Arguments} {body : List Stmt} {scope : Scope} {f : Addr} {fd : FuncData} {ps : List Str} (F : FunD K x qual params body scope [] [] f fd) (n : Nat) (ks : List Str) (ix : List (Nat × Nat))
    (h : ∀ (kV doc pm : Value) (an : Option Addr) (cdv ct : Value) (us ws : List Value), us.length = n → ws.length = ks.length →
      bindArgs (PySem.W.fnOf x qual params body scope .none kV doc pm an cdv ct) ⟨us, ks.zip ws⟩ = pure (ps.zip (pick ix us [] ws))) : ∃ g, KBn K fd ps n ks g (fun vs zs => pick ix vs [] zs) := by
  obtain ⟨oc, od, dV, kV, doc, pm, an, cdv, ct, osl, rfl, lk, hcd, hD, hK⟩ := F.ex
  rcases hD with ⟨_, rfl⟩ | ⟨e, _⟩
  · exact ⟨fun us ws => pick ix us [] ws, fun s us ws X l1 l2 => .of_eq (h kV doc pm an cdv ct us ws l1 l2), fun r1 r2 => vals_pick ix r1 .nil r2⟩
  · exact absurd rfl e
theorem kbindsK {K : PySem.W.Frag} {x qual : Str} {params : Arguments} {body : List Stmt} {scope : Scope} {kws : List (Str × V)} {f : Addr} {fd : FuncData} {ps : List Str} (F : FunD K x qual params body scope [] kws f fd) (n : Nat) (ks : List Str) (ms : List (Str × V)) (ix : List (Nat × Nat)) (hk : kws ≠ []) (hms : ∀ q ∈ ms, q ∈ kws)
    (h : ∀ (D : Addr) (doc pm : Value) (an : Option Addr) (cdv ct : Value) (us mv ws : List Value), us.length = n → mv.length = ms.length → ws.length = ks.length →
      KwChain D ((ms.map (·.1)).zip mv) (bindArgs (PySem.W.fnOf x qual params body scope .none (.ref D) doc pm an cdv ct) ⟨us, ks.zip ws⟩) (ps.zip (pick ix us mv ws))) : ∃ g, KBn K fd ps n ks g (fun vs zs => pick ix vs (ms.map (·.2)) zs) := by
  obtain ⟨mv, hb⟩ := F.kbinds0 n ks ms (fun us mv ws => pick ix us mv ws) hk hms (fun h1 h2 h3 => vals_pick ix h1 h2 h3) h
  exact ⟨_, hb⟩
/-- all but a stays -/
def Chg (a : Addr) (H H' : Hp) : Prop := ∀ b o, b ≠ a → H b = some o → H' b = some o
theorem Chg.refl {a : Addr} {H : Hp} : Chg a H H := fun _ _ _ h => h
theorem Chg.trans {a : Addr} {H H1 H2 : Hp} (x : Chg a H H1) (y : Chg a H1 H2) : Chg a H H2 := fun b o n h => y b o n (x b o n h)
theorem Chg.upd {a : Addr} {H : Hp} {o : HO} : Chg a H (upd H a o) := fun b _ n h => by rw [upd_ne n]; exact h
theorem Chg.new {a p : Addr} {H : Hp} {o : HO} (hp : H p = none) : Chg a H (L2.upd H p o) := fun b u _ h => by
  rw [upd_ne (ne_of_none h hp)]; exact h
theorem Same.chg {a : Addr} {H H' : Hp} (s : Same H H') : Chg a H H' := fun b o _ h => s b o h
theorem sm_chg {a : Addr} {H H' : Hp} (s : L2.Same H H') : Chg a H H' := fun b o _ h => s b o h
theorem same_new {H : Hp} {p : Addr} {o : HO} (hp : H p = none) : Same H (L2.upd H p o) := fun b u h => by
  rw [upd_ne (ne_of_none h hp)]; exact h

/-! ### readings, step by step: each g_.. takes one head away -/
section
variable {D : Ends} {σ : L2.St} {H : Hp} {Q : VK} {QB : Bool → Hp → Prop} {QL : List V → Hp → Prop}
theorem g_seq {t u : TS} (h : t { D with nx := u D } σ H) : tSeq t u D σ H := h
theorem g_asg {te : TE} {g : TG} (h : te σ H fun x H1 => g x σ H1 D.nx) : tAsg te g D σ H := h
def ParR (i j : Nat) (D : Ends) (σ : L2.St) (vs : List V) (H1 : Hp) : Prop := ∃ v w, vs = [v, w] ∧ D.nx ((σ.set i (some v)).set j (some w)) H1
theorem g_par {i j : Nat} {ta : TA} (h : ta σ H (ParR i j D σ)) : tPar i j ta D σ H := h
theorem g_parR {i j : Nat} {v w : V} (h : gName i v σ H fun σ1 H1 => gName j w σ1 H1 D.nx) : ParR i j D σ [v, w] H := ⟨v, w, rfl, h⟩
def ParR3 (i j l : Nat) (D : Ends) (σ : L2.St) (vs : List V) (H1 : Hp) : Prop := ∃ v w u, vs = [v, w, u] ∧ D.nx (((σ.set i (some v)).set j (some w)).set l (some u)) H1
theorem g_par3 {i j l : Nat} {ta : TA} (h : ta σ H (ParR3 i j l D σ)) : tPar3 i j l ta D σ H := h
theorem g_parR3 {i j l : Nat} {v w u : V} (h : gName i v σ H fun σ1 H1 => gName j w σ1 H1 fun σ2 H2 => gName l u σ2 H2 D.nx) : ParR3 i j l D σ [v, w, u] H := ⟨v, w, u, rfl, h⟩
theorem g_aug {i : Nat} {te : TE} {ti : TIp} (h : tVar i σ H fun x _ => te σ H fun y H1 => ti x y H1 fun z H2 => gName i z σ H2 D.nx) : tAug i te ti D σ H := h
theorem g_ipI {f : Int → Int → Int} {i j : Int} (h : Q (.int (f i j)) H) : ipI f (.int i) (.int j) H Q := ⟨i, j, rfl, rfl, h⟩
theorem g_ifS {c : TT} {t u : TS} (h : c σ H fun b H1 => if b = true then t D σ H1 else u D σ H1) : tIfS c t u D σ H := h
theorem g_ret {te : TE} (h : te σ H D.rt) : tRet te D σ H := h
theorem g_retN (h : D.rt .non H) : tRetN D σ H := h
theorem g_drop {te : TE} (h : te σ H fun _ H1 => D.nx σ H1) : tDrop te D σ H := h
theorem g_next (h : D.nx σ H) : tNext D σ H := h
theorem g_brk (h : D.bk σ H) : tBreak D σ H := h
theorem g_cont (h : D.ct σ H) : tCont D σ H := h
theorem g_c {v : V} (h : Q v H) : tC v σ H Q := h
theorem g_op {r : R2} {ta tb : TE} (h : ta σ H fun x H1 => tb σ H1 fun y H2 => r x y H2 Q) : tOp r ta tb σ H Q := h
theorem g_un {r : V → Hp → VK → Prop} {ta : TE} (h : ta σ H fun x H1 => r x H1 Q) : tUn r ta σ H Q := h
theorem g_cb {r : List V → Hp → VK → Prop} {t : TA} (h : t σ H fun vs H1 => r vs H1 Q) : tCB r t σ H Q := h
theorem g_nil (h : QL [] H) : tNil σ H QL := h
theorem g_cons {ta : TE} {t : TA} (h : ta σ H fun x H1 => t σ H1 fun xs H2 => QL (x :: xs) H2) : tCons ta t σ H QL := h
def NewL (Q : VK) (xs : List V) (H1 : Hp) : Prop := xs.length ≤ sizeLine ∧ ∀ p, H1 p = none → Q (.ref p) (upd H1 p (.lst xs))
def NewT (Q : VK) (xs : List V) (H1 : Hp) : Prop := xs.length ≤ sizeLine ∧ ∀ p, H1 p = none → Q (.ref p) (upd H1 p (.tup xs))
theorem g_lst {t : TA} (h : t σ H fun xs H1 => NewL Q xs H1) : tLst t σ H Q := h
theorem g_tup {t : TA} (h : t σ H fun xs H1 => NewT Q xs H1) : tTup t σ H Q := h
theorem g_newL {xs : List V} (l : xs.length ≤ 1000) (h : ∀ p, H p = none → Q (.ref p) (upd H p (.lst xs))) : NewL Q xs H := ⟨Nat.le_of_lt (small1000 l), h⟩
theorem g_newT {xs : List V} (l : xs.length ≤ 1000) (h : ∀ p, H p = none → Q (.ref p) (upd H p (.tup xs))) : NewT Q xs H := ⟨Nat.le_of_lt (small1000 l), h⟩
theorem g_call {sp : Sp} {E : XK} {t : TA} (h : t σ H fun vs H1 => sp vs H1 Q E) : tCall sp [] E t σ H Q := by
  show t σ H fun vs H1 => sp (vs ++ []) H1 Q E
  simp only [List.append_nil]
  exact h
theorem g_if {t : TT} {ta tb : TE} (h : t σ H fun c H1 => if c = true then ta σ H1 Q else tb σ H1 Q) : tIf t ta tb σ H Q := h
theorem g_andV {ta tb : TE} (h : ta σ H fun x H1 => ∃ c, x = .bl c ∧ if c = true then tb σ H1 Q else Q (.bl false) H1) : tAndV ta tb σ H Q := h
theorem g_orV {ta tb : TE} (h : ta σ H fun x H1 => ∃ c, x = .bl c ∧ if c = true then Q (.bl true) H1 else tb σ H1 Q) : tOrV ta tb σ H Q := h
def ChR (r : R2) (tc : TE) (σ : L2.St) (Q : VK) (y z : V) (H3 : Hp) : Prop := ∃ k, z = .bl k ∧ (if k = true then tc σ H3 fun w H4 => r y w H4 Q else Q (.bl false) H3)
theorem g_chain {r r' : R2} {ta tb tc : TE} (h : ta σ H fun x H1 => tb σ H1 fun y H2 => r x y H2 (ChR r' tc σ Q y)) : tChain r r' ta tb tc σ H Q := h
theorem g_chR {r : R2} {tc : TE} {y : V} {b : Bool} (h : if b = true then tc σ H fun w H4 => r y w H4 Q else Q (.bl false) H) : ChR r tc σ Q y (.bl b) H := ⟨b, rfl, h⟩
theorem g_notV {ta : TE} (h : ta σ H fun x H1 => ∃ c, x = .bl c ∧ Q (.bl (!c)) H1) : tNotV ta σ H Q := h
theorem g_b {t : TE} (h : t σ H fun x H1 => ∃ c, x = .bl c ∧ QB c H1) : tB t σ H QB := h
theorem g_test {t : TE} (h : t σ H fun x H1 => ∃ c, x = .bl c ∧ QB c H1) : tTest t σ H QB := h
theorem g_and {t u : TT} (h : t σ H fun c H1 => if c = true then u σ H1 QB else QB false H1) : tAnd t u σ H QB := h
theorem g_or {t u : TT} (h : t σ H fun c H1 => if c = true then QB true H1 else u σ H1 QB) : tOr t u σ H QB := h
theorem g_not {t : TT} (h : t σ H fun c H1 => QB (!c) H1) : tNot t σ H QB := h
theorem g_yes (h : QB true H) : tYes σ H QB := h
theorem g_bl {b : Bool} {R : Bool → Prop} (h : R b) : ∃ c, V.bl b = V.bl c ∧ R c := ⟨b, rfl, h⟩
theorem g_sub {to ti : TE} {t : TSet} {v : V} {N : L2.St → Hp → Prop} (h : to σ H fun o H1 => ti σ H1 fun i H2 => t o i v H2 fun H3 => N σ H3) : gSub to ti t v σ H N := h
def KArg (n m : Nat) (sp : Sp) (gV : List V → List V → List V) (E : XK) (Q : VK) (vs zs : List V) (H : Hp) : Prop := vs.length = n ∧ zs.length = m ∧ sp (gV vs zs) H Q E
theorem g_callN {n m : Nat} {sp : Sp} {gV : List V → List V → List V} {E : XK} {t tk : TA} (h : t σ H fun vs H1 => tk σ H1 fun zs H2 => KArg n m sp gV E Q vs zs H2) : tCallN n m sp gV E t tk σ H Q := h
theorem g_kArg {n m : Nat} {sp : Sp} {gV : List V → List V → List V} {E : XK} {vs zs ws : List V} (h1 : vs.length = n) (h2 : zs.length = m) (e : gV vs zs = ws) (h : sp ws H Q E) : KArg n m sp gV E Q vs zs H := ⟨h1, h2, by rw [e]; exact h⟩
def BmR (K : PySem.W.Frag) (T : String) (r : V → List V → Hp → VK → Prop) (t : TA) (σ : L2.St) (Q : VK) (x : V) (H1 : Hp) : Prop := tyV K T x H1 ∧ t σ H1 fun xs H2 => r x xs H2 Q
theorem g_bm {K : PySem.W.Frag} {T : String} {r : V → List V → Hp → VK → Prop} {to : TE} {t : TA} (h : to σ H (BmR K T r t σ Q)) : tBM K T r to t σ H Q := h
theorem g_bmL {K : PySem.W.Frag} {r : V → List V → Hp → VK → Prop} {t : TA} {p : Addr} {xs : List V} (h : SqL K H p xs) (q : t σ H fun ys H2 => r (.ref p) ys H2 Q) : BmR K "list" r t σ Q (.ref p) H := ⟨.inl ⟨rfl, xs, h⟩, q⟩
def FldR (K : PySem.W.Frag) (f : Str) (Q : VK) (x : V) (H1 : Hp) : Prop := ∃ a C dx fs v, x = .ref a ∧ H1 a = some (.ins C dx fs) ∧ Cls K C ∧ NoAttr K C f ∧ fs.lookup f = some v ∧ Q v H1
theorem g_fld {K : PySem.W.Frag} {ta : TE} {f : Str} (h : ta σ H (FldR K f Q)) : tFld K ta f σ H Q := h
theorem g_fldR {K : PySem.W.Frag} {f : Str} {a C dx : Addr} {fs : List (Str × V)} {v : V} (h : H a = some (.ins C dx fs)) (c : Cls K C) (n : NoAttr K C f) (l : fs.lookup f = some v) (q : Q v H) : FldR K f Q (.ref a) H := ⟨a, C, dx, fs, v, rfl, h, c, n, l, q⟩
def MethR (C : Addr) (m : Str) (sp : Sp) (E : XK) (t : TA) (σ : L2.St) (Q : VK) (x : V) (H1 : Hp) : Prop := ∃ a dx fs, x = .ref a ∧ H1 a = some (.ins C dx fs) ∧ fs.lookup m = none ∧ t σ H1 fun vs H2 => sp (x :: vs) H2 Q E
theorem g_meth {C : Addr} {m : Str} {sp : Sp} {E : XK} {ta : TE} {t : TA} (h : ta σ H (MethR C m sp E t σ Q)) : tMeth C m sp [] E ta t σ H Q := by
  show ta σ H fun x H1 => ∃ a dx fs, x = .ref a ∧ H1 a = some (.ins C dx fs) ∧ fs.lookup m = none ∧ t σ H1 fun vs H2 => sp (x :: (vs ++ [])) H2 Q E
  simp only [List.append_nil]
  exact h
theorem g_methR {C : Addr} {m : Str} {sp : Sp} {E : XK} {t : TA} {a dx : Addr} {fs : List (Str × V)} (h : H a = some (.ins C dx fs)) (l : fs.lookup m = none) (q : t σ H fun vs H2 => sp (.ref a :: vs) H2 Q E) : MethR C m sp E t σ Q (.ref a) H := ⟨a, dx, fs, rfl, h, l, q⟩
def SFldR (K : PySem.W.Frag) (f : Str) (D : Ends) (σ : L2.St) (y x : V) (H2 : Hp) : Prop := ∃ a C dx fs, x = .ref a ∧ H2 a = some (.ins C dx fs) ∧ Cls K C ∧ NoAttr K C f ∧ fs.length < 1000 ∧ D.nx σ (upd H2 a (.ins C dx (putF f y fs)))
theorem g_sfld {K : PySem.W.Frag} {ta tv : TE} {f : Str} (h : tv σ H fun y H1 => ta σ H1 (SFldR K f D σ y)) : sFld K ta tv f D σ H := h
theorem g_sfldR {K : PySem.W.Frag} {f : Str} {a C dx : Addr} {fs : List (Str × V)} {y : V} (h : H a = some (.ins C dx fs)) (c : Cls K C) (n : NoAttr K C f) (l : fs.length < 1000) (q : D.nx σ (upd H a (.ins C dx (putF f y fs)))) : SFldR K f D σ y (.ref a) H := ⟨a, C, dx, fs, rfl, h, c, n, l, q⟩
/-! values -/
theorem g_rI0 {g : Int → Int → V} {i j : Int} (h : Q (g i j) H) : rI0 g (.int i) (.int j) H Q := ⟨i, j, rfl, rfl, h⟩
theorem g_rI {C : Int → Int → Prop} {g : Int → Int → V} {i j : Int} (c : C i j) (h : Q (g i j) H) : rI C g (.int i) (.int j) H Q := ⟨i, j, rfl, rfl, c, h⟩
theorem g_rU {g : Int → V} {i : Int} (h : Q (g i) H) : rU g (.int i) H Q := ⟨i, rfl, h⟩
theorem g_eqI {i j : Int} (h : Q (.bl (decide (i = j))) H) : rEq (.int i) (.int j) H Q :=
  ⟨rfl, by rw [show decide (V.int i = V.int j) = decide (i = j) from by simp only [V.int.injEq]]; exact h⟩
theorem g_neI {i j : Int} (h : Q (.bl (!decide (i = j))) H) : rNe (.int i) (.int j) H Q :=
  ⟨rfl, by rw [show decide (V.int i = V.int j) = decide (i = j) from by simp only [V.int.injEq]]; exact h⟩
theorem g_eqS {i j : Str} (h : Q (.bl (decide (i = j))) H) : rEq (.str i) (.str j) H Q :=
  ⟨rfl, by rw [show decide (V.str i = V.str j) = decide (i = j) from by simp only [V.str.injEq]]; exact h⟩
theorem g_eqB {i j : Bool} (h : Q (.bl (decide (i = j))) H) : rEq (.bl i) (.bl j) H Q :=
  ⟨rfl, by rw [show decide (V.bl i = V.bl j) = decide (i = j) from by simp only [V.bl.injEq]]; exact h⟩
theorem g_neB {i j : Bool} (h : Q (.bl (!decide (i = j))) H) : rNe (.bl i) (.bl j) H Q :=
  ⟨rfl, by rw [show decide (V.bl i = V.bl j) = decide (i = j) from by simp only [V.bl.injEq]]; exact h⟩
theorem g_isN {x : V} (h : Q (.bl (decide (x = .non))) H) : (∃ _ : Unit, True) ∧ Q (.bl (decide (x = .non))) H := ⟨⟨(), trivial⟩, h⟩
theorem g_ixL {K : PySem.W.Frag} {p : Addr} {xs : List V} {i : Int} {v : V} (h : SqL K H p xs) (e : atI xs i = some v) (q : Q v H) : rIxL K (.ref p) (.int i) H Q := ⟨p, xs, i, v, rfl, rfl, h, e, q⟩
theorem g_setL {p : Addr} {xs : List V} {k : Int} {j : Nat} {v : V} {N : Hp → Prop} (h : H p = some (.lst xs)) (e : ixN xs.length k = some j) (q : N (upd H p (.lst (xs.set j v)))) : rSetL (.ref p) (.int k) v H N := ⟨p, xs, k, j, rfl, rfl, h, e, q⟩
theorem g_p6 (h : Q (.int 1000000) H) : rI CPow (fun i j => V.int (i ^ j.toNat)) (.int 10) (.int 6) H Q := ⟨10, 6, rfl, rfl, ⟨by decide, by decide, by decide⟩, h⟩
theorem g_p18 (h : Q (.int 1000000000000000000) H) : rI CPow (fun i j => V.int (i ^ j.toNat)) (.int 10) (.int 18) H Q := ⟨10, 18, rfl, rfl, ⟨by decide, by decide, by decide⟩, h⟩
theorem g_sl {r : V → Option Int → Option Int → Hp → VK → Prop} {te : TE} {tl th : TO} (h : te σ H fun x H1 => tl σ H1 fun l H2 => th σ H2 fun u H3 => r x l u H3 Q) : tSl r te tl th σ H Q := h
def PartR (x : V) (R : Option Int → Hp → Prop) (H : Hp) : Prop := ∃ i, x = .int i ∧ R (some i) H
theorem g_part {te : TE} {R : Option Int → Hp → Prop} (h : te σ H fun x H1 => PartR x R H1) : tPart te σ H R := h
theorem g_partI {i : Int} {R : Option Int → Hp → Prop} (h : R (some i) H) : PartR (.int i) R H := ⟨i, rfl, h⟩
theorem g_cat {l b : Addr} {xs zs : List V} (h1 : H l = some (.lst xs)) (h2 : H b = some (.lst zs)) (hl : xs.length + zs.length ≤ 1000) (q : ∀ p, H p = none → Q (.ref p) (upd H p (.lst (xs ++ zs)))) : rCat (.ref l) (.ref b) H Q :=
  ⟨l, b, xs, zs, rfl, rfl, h1, h2, Nat.le_of_lt (small1000 hl), q⟩
theorem g_ixS {K : PySem.W.Frag} {p : Addr} {xs : List V} {i : Int} {v : V} (h : SqL K H p xs) (e : atI xs i = some v) (q : Q v H) : rIxL K (.ref p) (.int i) H Q := g_ixL h e q
theorem g_noPart {R : Option Int → Hp → Prop} (h : R none H) : tNoPart σ H R := h
theorem g_slL {K : PySem.W.Frag} {a : Addr} {xs : List V} {lo hi : Option Int} (h : SqL K H a xs) (q : ∀ p, H p = none → Q (.ref p) (upd H p (.lst (cutV xs lo hi)))) : rSlL K (.ref a) lo hi H Q := ⟨a, xs, rfl, h, q⟩
theorem g_in {K : PySem.W.Frag} {p : Addr} {x : V} {xs : List V} (h : SqL K H p xs ∨ SqT K H p xs) (fx : flatV x = true) (fs : xs.all flatV = true) (q : Q (.bl (inV x xs)) H) : rIn K false x (.ref p) H Q := ⟨p, xs, rfl, h, fx, fs, q⟩
theorem g_notin {K : PySem.W.Frag} {p : Addr} {x : V} {xs : List V} (h : SqL K H p xs ∨ SqT K H p xs) (fx : flatV x = true) (fs : xs.all flatV = true) (q : Q (.bl (!inV x xs)) H) : rIn K true x (.ref p) H Q := ⟨p, xs, rfl, h, fx, fs, q⟩
theorem flat_ints (ns : List Int) : (ns.map V.int).all flatV = true := by
  induction ns with
  | nil => rfl
  | cons n r ih => rw [List.map_cons, List.all_cons, ih]; rfl
theorem in_ints (i : Int) (ns : List Int) : inV (.int i) (ns.map V.int) = decide (i ∈ ns) := by
  unfold inV
  induction ns with
  | nil => rfl
  | cons n r ih =>
    rw [List.map_cons, List.any_cons, ih]
    show (n == i || decide (i ∈ r)) = decide (i ∈ n :: r)
    by_cases e : n = i
    · subst e; simp
    · have e2 : ¬ i = n := fun z => e z.symm
      simp [e, e2]
theorem g_inI {K : PySem.W.Frag} {p : Addr} {i : Int} {ns : List Int} (h : SqL K H p (ns.map V.int) ∨ SqT K H p (ns.map V.int)) (q : Q (.bl (decide (i ∈ ns))) H) : rIn K false (.int i) (.ref p) H Q :=
  g_in h rfl (flat_ints ns) (by rw [in_ints]; exact q)
theorem g_notinI {K : PySem.W.Frag} {p : Addr} {i : Int} {ns : List Int} (h : SqL K H p (ns.map V.int) ∨ SqT K H p (ns.map V.int)) (q : Q (.bl (!decide (i ∈ ns))) H) : rIn K true (.int i) (.ref p) H Q :=
  g_notin h rfl (flat_ints ns) (by rw [in_ints]; exact q)
/-! tests known and open -/
theorem g_iteD {p A B : Prop} [Decidable p] (h1 : p → A) (h2 : ¬ p → B) : if decide p = true then A else B := by
  by_cases h : p
  · rw [if_pos (decide_eq_true h)]; exact h1 h
  · rw [if_neg (by simp [h])]; exact h2 h
theorem g_iteN {p A B : Prop} [Decidable p] (h1 : ¬ p → A) (h2 : p → B) : if (!decide p) = true then A else B := by
  by_cases h : p
  · rw [if_neg (by simp [h])]; exact h2 h
  · rw [if_pos (by simp [h])]; exact h1 h
theorem g_iteY {p A B : Prop} [Decidable p] (h : p) (h1 : A) : if decide p = true then A else B := by
  rw [if_pos (decide_eq_true h)]; exact h1
theorem g_iteX {p A B : Prop} [Decidable p] (h : ¬ p) (h1 : B) : if decide p = true then A else B := by
  rw [if_neg (by simp [h])]; exact h1
theorem g_iteNY {p A B : Prop} [Decidable p] (h : ¬ p) (h1 : A) : if (!decide p) = true then A else B := by
  rw [if_pos (by simp [h])]; exact h1
theorem g_iteNX {p A B : Prop} [Decidable p] (h : p) (h1 : B) : if (!decide p) = true then A else B := by
  rw [if_neg (by simp [h])]; exact h1
theorem g_iteCT {b : Bool} {A B : Prop} (h : b = true) (q : A) : if b = true then A else B := by rw [if_pos h]; exact q
theorem g_iteCF {b : Bool} {A B : Prop} (h : b = false) (q : B) : if b = true then A else B := by rw [h, if_neg Bool.false_ne_true]; exact q
theorem g_iteBB {b : Bool} {A B : Prop} (h1 : b = true → A) (h2 : b = false → B) : if b = true then A else B := by
  cases b
  · rw [if_neg Bool.false_ne_true]; exact h2 rfl
  · rw [if_pos rfl]; exact h1 rfl
end
/-! ### built-ins, named -/
section
variable {X : Cx} {σ : L2.St} {H : Hp} {Q : VK}
def qInt : List V → Hp → VK → Prop := fun xs H Q => ∃ i, xs = [.int i] ∧ Q (.int i) H
theorem c_int : CallR X (.type "int") qInt := fun pins s σ H xs us Q I r h => call_int1 pins s σ H xs us Q I r (.inl h)
theorem g_int {i : Int} (h : Q (.int i) H) : qInt [.int i] H Q := ⟨i, rfl, h⟩
def qLen (K : PySem.W.Frag) : List V → Hp → VK → Prop := fun xs H Q => ∃ p ys, xs = [.ref p] ∧ (SqL K H p ys ∨ SqT K H p ys) ∧ Q (.int ys.length) H
theorem c_len : CallR X (.builtin "len") (qLen X.K) := call_len_seq
theorem g_len {K : PySem.W.Frag} {p : Addr} {ys : List V} (h : SqL K H p ys ∨ SqT K H p ys) (q : Q (.int ys.length) H) : qLen K [.ref p] H Q := ⟨p, ys, rfl, h, q⟩
def qList (K : PySem.W.Frag) : List V → Hp → VK → Prop := fun xs H Q => ∃ p ys, xs = [.ref p] ∧ (SqL K H p ys ∨ SqT K H p ys) ∧ ∀ l, H l = none → Q (.ref l) (upd H l (.lst ys))
theorem c_list : CallR X (.type "list") (qList X.K) := call_list_of
theorem g_list {K : PySem.W.Frag} {p : Addr} {ys : List V} (h : SqL K H p ys ∨ SqT K H p ys) (q : ∀ l, H l = none → Q (.ref l) (upd H l (.lst ys))) : qList K [.ref p] H Q := ⟨p, ys, rfl, h, q⟩
def qTuple (K : PySem.W.Frag) : List V → Hp → VK → Prop := fun xs H Q => ∃ p ys, xs = [.ref p] ∧ SqL K H p ys ∧ ∀ l, H l = none → Q (.ref l) (upd H l (.tup ys))
theorem c_tuple : CallR X (.type "tuple") (qTuple X.K) := fun pins s σ H xs us Q I r ⟨p, ys, e, h, q⟩ => call_tuple_of pins s σ H xs us Q I r ⟨p, ys, e, .inl ⟨h, q⟩⟩
theorem g_tuple {K : PySem.W.Frag} {p : Addr} {ys : List V} (h : SqL K H p ys) (q : ∀ l, H l = none → Q (.ref l) (upd H l (.tup ys))) : qTuple K [.ref p] H Q := ⟨p, ys, rfl, h, q⟩
theorem g_sum {K : PySem.W.Frag} {a : Addr} {ns : List Int} (h : SqL K H a (ns.map V.int)) (q : Q (.int ns.sum) H) : rSum K [.ref a] H Q := ⟨a, ns, rfl, h, q⟩
theorem g_max {K : PySem.W.Frag} {a : Addr} {ns : List Int} (h : SqL K H a (ns.map V.int)) (l : 0 < ns.length) (q : ∀ m, m ∈ ns → (∀ y, y ∈ ns → y ≤ m) → Q (.int m) H) : rMax K [.ref a] H Q := ⟨a, ns, rfl, h, l, q⟩
theorem g_any {K : PySem.W.Frag} {a : Addr} {bs : List Bool} (h : SqL K H a (bs.map V.bl)) (q : Q (.bl (bs.any id)) H) : rAny K [.ref a] H Q := ⟨a, bs, rfl, h, q⟩
theorem g_all {K : PySem.W.Frag} {a : Addr} {bs : List Bool} (h : SqL K H a (bs.map V.bl)) (q : Q (.bl (bs.all id)) H) : rAll K [.ref a] H Q := ⟨a, bs, rfl, h, q⟩
def qIsN : R2 := fun x y H Q => y = .non ∧ Q (.bl (decide (x = .non))) H
theorem o_isN : OpR X (compareOp .Is) qIsN := op_isN
theorem g_isNr {r : Addr} (h : Q (.bl false) H) : qIsN (.ref r) .non H Q := ⟨rfl, by rw [decide_eq_false (by intro e; cases e)]; exact h⟩
theorem g_isNn (h : Q (.bl true) H) : qIsN .non .non H Q := ⟨rfl, h⟩
theorem g_isNb {b : Bool} (h : Q (.bl false) H) : qIsN (.bl b) .non H Q := ⟨rfl, by rw [decide_eq_false (by intro e; cases e)]; exact h⟩
theorem g_isNs {z : Str} (h : Q (.bl false) H) : qIsN (.str z) .non H Q := ⟨rfl, by rw [decide_eq_false (by intro e; cases e)]; exact h⟩
theorem g_isNi {i : Int} (h : Q (.bl false) H) : qIsN (.int i) .non H Q := ⟨rfl, by rw [decide_eq_false (by intro e; cases e)]; exact h⟩
end

theorem g_v0 {v : V} {r : L2.St} {H : Hp} {Q : VK} (h : Q v H) : tVar 0 (some v :: r) H Q := ⟨v, rfl, h⟩
theorem g_n0 {y : Option V} {v : V} {r : L2.St} {H : Hp} {N : L2.St → Hp → Prop} (h : N (some v :: r) H) : gName 0 v (y :: r) H N := h
theorem g_v1 {x0 : Option V} {v : V} {r : L2.St} {H : Hp} {Q : VK} (h : Q v H) : tVar 1 (x0 :: some v :: r) H Q := ⟨v, rfl, h⟩
theorem g_n1 {x0 y : Option V} {v : V} {r : L2.St} {H : Hp} {N : L2.St → Hp → Prop} (h : N (x0 :: some v :: r) H) : gName 1 v (x0 :: y :: r) H N := h
theorem g_v2 {x0 x1 : Option V} {v : V} {r : L2.St} {H : Hp} {Q : VK} (h : Q v H) : tVar 2 (x0 :: x1 :: some v :: r) H Q := ⟨v, rfl, h⟩
theorem g_n2 {x0 x1 y : Option V} {v : V} {r : L2.St} {H : Hp} {N : L2.St → Hp → Prop} (h : N (x0 :: x1 :: some v :: r) H) : gName 2 v (x0 :: x1 :: y :: r) H N := h
theorem g_v3 {x0 x1 x2 : Option V} {v : V} {r : L2.St} {H : Hp} {Q : VK} (h : Q v H) : tVar 3 (x0 :: x1 :: x2 :: some v :: r) H Q := ⟨v, rfl, h⟩
theorem g_n3 {x0 x1 x2 y : Option V} {v : V} {r : L2.St} {H : Hp} {N : L2.St → Hp → Prop} (h : N (x0 :: x1 :: x2 :: some v :: r) H) : gName 3 v (x0 :: x1 :: x2 :: y :: r) H N := h
theorem g_v4 {x0 x1 x2 x3 : Option V} {v : V} {r : L2.St} {H : Hp} {Q : VK} (h : Q v H) : tVar 4 (x0 :: x1 :: x2 :: x3 :: some v :: r) H Q := ⟨v, rfl, h⟩
theorem g_n4 {x0 x1 x2 x3 y : Option V} {v : V} {r : L2.St} {H : Hp} {N : L2.St → Hp → Prop} (h : N (x0 :: x1 :: x2 :: x3 :: some v :: r) H) : gName 4 v (x0 :: x1 :: x2 :: x3 :: y :: r) H N := h
theorem g_v5 {x0 x1 x2 x3 x4 : Option V} {v : V} {r : L2.St} {H : Hp} {Q : VK} (h : Q v H) : tVar 5 (x0 :: x1 :: x2 :: x3 :: x4 :: some v :: r) H Q := ⟨v, rfl, h⟩
theorem g_n5 {x0 x1 x2 x3 x4 y : Option V} {v : V} {r : L2.St} {H : Hp} {N : L2.St → Hp → Prop} (h : N (x0 :: x1 :: x2 :: x3 :: x4 :: some v :: r) H) : gName 5 v (x0 :: x1 :: x2 :: x3 :: x4 :: y :: r) H N := h
theorem g_v6 {x0 x1 x2 x3 x4 x5 : Option V} {v : V} {r : L2.St} {H : Hp} {Q : VK} (h : Q v H) : tVar 6 (x0 :: x1 :: x2 :: x3 :: x4 :: x5 :: some v :: r) H Q := ⟨v, rfl, h⟩
theorem g_n6 {x0 x1 x2 x3 x4 x5 y : Option V} {v : V} {r : L2.St} {H : Hp} {N : L2.St → Hp → Prop} (h : N (x0 :: x1 :: x2 :: x3 :: x4 :: x5 :: some v :: r) H) : gName 6 v (x0 :: x1 :: x2 :: x3 :: x4 :: x5 :: y :: r) H N := h
theorem g_v7 {x0 x1 x2 x3 x4 x5 x6 : Option V} {v : V} {r : L2.St} {H : Hp} {Q : VK} (h : Q v H) : tVar 7 (x0 :: x1 :: x2 :: x3 :: x4 :: x5 :: x6 :: some v :: r) H Q := ⟨v, rfl, h⟩
theorem g_n7 {x0 x1 x2 x3 x4 x5 x6 y : Option V} {v : V} {r : L2.St} {H : Hp} {N : L2.St → Hp → Prop} (h : N (x0 :: x1 :: x2 :: x3 :: x4 :: x5 :: x6 :: some v :: r) H) : gName 7 v (x0 :: x1 :: x2 :: x3 :: x4 :: x5 :: x6 :: y :: r) H N := h
theorem g_v8 {x0 x1 x2 x3 x4 x5 x6 x7 : Option V} {v : V} {r : L2.St} {H : Hp} {Q : VK} (h : Q v H) : tVar 8 (x0 :: x1 :: x2 :: x3 :: x4 :: x5 :: x6 :: x7 :: some v :: r) H Q := ⟨v, rfl, h⟩
theorem g_n8 {x0 x1 x2 x3 x4 x5 x6 x7 y : Option V} {v : V} {r : L2.St} {H : Hp} {N : L2.St → Hp → Prop} (h : N (x0 :: x1 :: x2 :: x3 :: x4 :: x5 :: x6 :: x7 :: some v :: r) H) : gName 8 v (x0 :: x1 :: x2 :: x3 :: x4 :: x5 :: x6 :: x7 :: y :: r) H N := h
theorem g_v9 {x0 x1 x2 x3 x4 x5 x6 x7 x8 : Option V} {v : V} {r : L2.St} {H : Hp} {Q : VK} (h : Q v H) : tVar 9 (x0 :: x1 :: x2 :: x3 :: x4 :: x5 :: x6 :: x7 :: x8 :: some v :: r) H Q := ⟨v, rfl, h⟩
theorem g_n9 {x0 x1 x2 x3 x4 x5 x6 x7 x8 y : Option V} {v : V} {r : L2.St} {H : Hp} {N : L2.St → Hp → Prop} (h : N (x0 :: x1 :: x2 :: x3 :: x4 :: x5 :: x6 :: x7 :: x8 :: some v :: r) H) : gName 9 v (x0 :: x1 :: x2 :: x3 :: x4 :: x5 :: x6 :: x7 :: x8 :: y :: r) H N := h
theorem g_v10 {x0 x1 x2 x3 x4 x5 x6 x7 x8 x9 : Option V} {v : V} {r : L2.St} {H : Hp} {Q : VK} (h : Q v H) : tVar 10 (x0 :: x1 :: x2 :: x3 :: x4 :: x5 :: x6 :: x7 :: x8 :: x9 :: some v :: r) H Q := ⟨v, rfl, h⟩
theorem g_n10 {x0 x1 x2 x3 x4 x5 x6 x7 x8 x9 y : Option V} {v : V} {r : L2.St} {H : Hp} {N : L2.St → Hp → Prop} (h : N (x0 :: x1 :: x2 :: x3 :: x4 :: x5 :: x6 :: x7 :: x8 :: x9 :: some v :: r) H) : gName 10 v (x0 :: x1 :: x2 :: x3 :: x4 :: x5 :: x6 :: x7 :: x8 :: x9 :: y :: r) H N := h
theorem g_v11 {x0 x1 x2 x3 x4 x5 x6 x7 x8 x9 x10 : Option V} {v : V} {r : L2.St} {H : Hp} {Q : VK} (h : Q v H) : tVar 11 (x0 :: x1 :: x2 :: x3 :: x4 :: x5 :: x6 :: x7 :: x8 :: x9 :: x10 :: some v :: r) H Q := ⟨v, rfl, h⟩
theorem g_n11 {x0 x1 x2 x3 x4 x5 x6 x7 x8 x9 x10 y : Option V} {v : V} {r : L2.St} {H : Hp} {N : L2.St → Hp → Prop} (h : N (x0 :: x1 :: x2 :: x3 :: x4 :: x5 :: x6 :: x7 :: x8 :: x9 :: x10 :: some v :: r) H) : gName 11 v (x0 :: x1 :: x2 :: x3 :: x4 :: x5 :: x6 :: x7 :: x8 :: x9 :: x10 :: y :: r) H N := h
theorem g_v12 {x0 x1 x2 x3 x4 x5 x6 x7 x8 x9 x10 x11 : Option V} {v : V} {r : L2.St} {H : Hp} {Q : VK} (h : Q v H) : tVar 12 (x0 :: x1 :: x2 :: x3 :: x4 :: x5 :: x6 :: x7 :: x8 :: x9 :: x10 :: x11 :: some v :: r) H Q := ⟨v, rfl, h⟩
theorem g_n12 {x0 x1 x2 x3 x4 x5 x6 x7 x8 x9 x10 x11 y : Option V} {v : V} {r : L2.St} {H : Hp} {N : L2.St → Hp → Prop} (h : N (x0 :: x1 :: x2 :: x3 :: x4 :: x5 :: x6 :: x7 :: x8 :: x9 :: x10 :: x11 :: some v :: r) H) : gName 12 v (x0 :: x1 :: x2 :: x3 :: x4 :: x5 :: x6 :: x7 :: x8 :: x9 :: x10 :: x11 :: y :: r) H N := h
theorem g_v13 {x0 x1 x2 x3 x4 x5 x6 x7 x8 x9 x10 x11 x12 : Option V} {v : V} {r : L2.St} {H : Hp} {Q : VK} (h : Q v H) : tVar 13 (x0 :: x1 :: x2 :: x3 :: x4 :: x5 :: x6 :: x7 :: x8 :: x9 :: x10 :: x11 :: x12 :: some v :: r) H Q := ⟨v, rfl, h⟩
theorem g_n13 {x0 x1 x2 x3 x4 x5 x6 x7 x8 x9 x10 x11 x12 y : Option V} {v : V} {r : L2.St} {H : Hp} {N : L2.St → Hp → Prop} (h : N (x0 :: x1 :: x2 :: x3 :: x4 :: x5 :: x6 :: x7 :: x8 :: x9 :: x10 :: x11 :: x12 :: some v :: r) H) : gName 13 v (x0 :: x1 :: x2 :: x3 :: x4 :: x5 :: x6 :: x7 :: x8 :: x9 :: x10 :: x11 :: x12 :: y :: r) H N := h
theorem g_v14 {x0 x1 x2 x3 x4 x5 x6 x7 x8 x9 x10 x11 x12 x13 : Option V} {v : V} {r : L2.St} {H : Hp} {Q : VK} (h : Q v H) : tVar 14 (x0 :: x1 :: x2 :: x3 :: x4 :: x5 :: x6 :: x7 :: x8 :: x9 :: x10 :: x11 :: x12 :: x13 :: some v :: r) H Q := ⟨v, rfl, h⟩
theorem g_n14 {x0 x1 x2 x3 x4 x5 x6 x7 x8 x9 x10 x11 x12 x13 y : Option V} {v : V} {r : L2.St} {H : Hp} {N : L2.St → Hp → Prop} (h : N (x0 :: x1 :: x2 :: x3 :: x4 :: x5 :: x6 :: x7 :: x8 :: x9 :: x10 :: x11 :: x12 :: x13 :: some v :: r) H) : gName 14 v (x0 :: x1 :: x2 :: x3 :: x4 :: x5 :: x6 :: x7 :: x8 :: x9 :: x10 :: x11 :: x12 :: x13 :: y :: r) H N := h
theorem g_v15 {x0 x1 x2 x3 x4 x5 x6 x7 x8 x9 x10 x11 x12 x13 x14 : Option V} {v : V} {r : L2.St} {H : Hp} {Q : VK} (h : Q v H) : tVar 15 (x0 :: x1 :: x2 :: x3 :: x4 :: x5 :: x6 :: x7 :: x8 :: x9 :: x10 :: x11 :: x12 :: x13 :: x14 :: some v :: r) H Q := ⟨v, rfl, h⟩
theorem g_n15 {x0 x1 x2 x3 x4 x5 x6 x7 x8 x9 x10 x11 x12 x13 x14 y : Option V} {v : V} {r : L2.St} {H : Hp} {N : L2.St → Hp → Prop} (h : N (x0 :: x1 :: x2 :: x3 :: x4 :: x5 :: x6 :: x7 :: x8 :: x9 :: x10 :: x11 :: x12 :: x13 :: x14 :: some v :: r) H) : gName 15 v (x0 :: x1 :: x2 :: x3 :: x4 :: x5 :: x6 :: x7 :: x8 :: x9 :: x10 :: x11 :: x12 :: x13 :: x14 :: y :: r) H N := h

theorem g_ixL0 {K : PySem.W.Frag} {p : Addr} {H : Hp} {Q : VK} {v : V} {r : List V} (h : SqL K H p (v :: r)) (q : Q v H) : rIxL K (.ref p) (.int 0) H Q := g_ixL h (atI_nat (j := 0) rfl) q
theorem g_setL0 {p : Addr} {H : Hp} {N : Hp → Prop} {y : V} {v : V} {r : List V} (h : H p = some (.lst (y :: r))) (q : N (upd H p (.lst (v :: r)))) : rSetL (.ref p) (.int 0) v H N :=
  ⟨p, _, 0, 0, rfl, rfl, h, by unfold ixN; rw [if_pos (by omega), if_pos (by simp only [List.length_cons]; omega)]; rfl, q⟩
theorem g_ixL1 {K : PySem.W.Frag} {p : Addr} {H : Hp} {Q : VK} {x0 : V} {v : V} {r : List V} (h : SqL K H p (x0 :: v :: r)) (q : Q v H) : rIxL K (.ref p) (.int 1) H Q := g_ixL h (atI_nat (j := 1) rfl) q
theorem g_setL1 {p : Addr} {H : Hp} {N : Hp → Prop} {x0 y : V} {v : V} {r : List V} (h : H p = some (.lst (x0 :: y :: r))) (q : N (upd H p (.lst (x0 :: v :: r)))) : rSetL (.ref p) (.int 1) v H N :=
  ⟨p, _, 1, 1, rfl, rfl, h, by unfold ixN; rw [if_pos (by omega), if_pos (by simp only [List.length_cons]; omega)]; rfl, q⟩
theorem g_ixL2 {K : PySem.W.Frag} {p : Addr} {H : Hp} {Q : VK} {x0 x1 : V} {v : V} {r : List V} (h : SqL K H p (x0 :: x1 :: v :: r)) (q : Q v H) : rIxL K (.ref p) (.int 2) H Q := g_ixL h (atI_nat (j := 2) rfl) q
theorem g_setL2 {p : Addr} {H : Hp} {N : Hp → Prop} {x0 x1 y : V} {v : V} {r : List V} (h : H p = some (.lst (x0 :: x1 :: y :: r))) (q : N (upd H p (.lst (x0 :: x1 :: v :: r)))) : rSetL (.ref p) (.int 2) v H N :=
  ⟨p, _, 2, 2, rfl, rfl, h, by unfold ixN; rw [if_pos (by omega), if_pos (by simp only [List.length_cons]; omega)]; rfl, q⟩
theorem g_ixL3 {K : PySem.W.Frag} {p : Addr} {H : Hp} {Q : VK} {x0 x1 x2 : V} {v : V} {r : List V} (h : SqL K H p (x0 :: x1 :: x2 :: v :: r)) (q : Q v H) : rIxL K (.ref p) (.int 3) H Q := g_ixL h (atI_nat (j := 3) rfl) q
theorem g_setL3 {p : Addr} {H : Hp} {N : Hp → Prop} {x0 x1 x2 y : V} {v : V} {r : List V} (h : H p = some (.lst (x0 :: x1 :: x2 :: y :: r))) (q : N (upd H p (.lst (x0 :: x1 :: x2 :: v :: r)))) : rSetL (.ref p) (.int 3) v H N :=
  ⟨p, _, 3, 3, rfl, rfl, h, by unfold ixN; rw [if_pos (by omega), if_pos (by simp only [List.length_cons]; omega)]; rfl, q⟩
theorem g_ixL4 {K : PySem.W.Frag} {p : Addr} {H : Hp} {Q : VK} {x0 x1 x2 x3 : V} {v : V} {r : List V} (h : SqL K H p (x0 :: x1 :: x2 :: x3 :: v :: r)) (q : Q v H) : rIxL K (.ref p) (.int 4) H Q := g_ixL h (atI_nat (j := 4) rfl) q
theorem g_setL4 {p : Addr} {H : Hp} {N : Hp → Prop} {x0 x1 x2 x3 y : V} {v : V} {r : List V} (h : H p = some (.lst (x0 :: x1 :: x2 :: x3 :: y :: r))) (q : N (upd H p (.lst (x0 :: x1 :: x2 :: x3 :: v :: r)))) : rSetL (.ref p) (.int 4) v H N :=
  ⟨p, _, 4, 4, rfl, rfl, h, by unfold ixN; rw [if_pos (by omega), if_pos (by simp only [List.length_cons]; omega)]; rfl, q⟩
theorem g_ixL5 {K : PySem.W.Frag} {p : Addr} {H : Hp} {Q : VK} {x0 x1 x2 x3 x4 : V} {v : V} {r : List V} (h : SqL K H p (x0 :: x1 :: x2 :: x3 :: x4 :: v :: r)) (q : Q v H) : rIxL K (.ref p) (.int 5) H Q := g_ixL h (atI_nat (j := 5) rfl) q
theorem g_setL5 {p : Addr} {H : Hp} {N : Hp → Prop} {x0 x1 x2 x3 x4 y : V} {v : V} {r : List V} (h : H p = some (.lst (x0 :: x1 :: x2 :: x3 :: x4 :: y :: r))) (q : N (upd H p (.lst (x0 :: x1 :: x2 :: x3 :: x4 :: v :: r)))) : rSetL (.ref p) (.int 5) v H N :=
  ⟨p, _, 5, 5, rfl, rfl, h, by unfold ixN; rw [if_pos (by omega), if_pos (by simp only [List.length_cons]; omega)]; rfl, q⟩
theorem g_ixL6 {K : PySem.W.Frag} {p : Addr} {H : Hp} {Q : VK} {x0 x1 x2 x3 x4 x5 : V} {v : V} {r : List V} (h : SqL K H p (x0 :: x1 :: x2 :: x3 :: x4 :: x5 :: v :: r)) (q : Q v H) : rIxL K (.ref p) (.int 6) H Q := g_ixL h (atI_nat (j := 6) rfl) q
theorem g_setL6 {p : Addr} {H : Hp} {N : Hp → Prop} {x0 x1 x2 x3 x4 x5 y : V} {v : V} {r : List V} (h : H p = some (.lst (x0 :: x1 :: x2 :: x3 :: x4 :: x5 :: y :: r))) (q : N (upd H p (.lst (x0 :: x1 :: x2 :: x3 :: x4 :: x5 :: v :: r)))) : rSetL (.ref p) (.int 6) v H N :=
  ⟨p, _, 6, 6, rfl, rfl, h, by unfold ixN; rw [if_pos (by omega), if_pos (by simp only [List.length_cons]; omega)]; rfl, q⟩
theorem g_ixL7 {K : PySem.W.Frag} {p : Addr} {H : Hp} {Q : VK} {x0 x1 x2 x3 x4 x5 x6 : V} {v : V} {r : List V} (h : SqL K H p (x0 :: x1 :: x2 :: x3 :: x4 :: x5 :: x6 :: v :: r)) (q : Q v H) : rIxL K (.ref p) (.int 7) H Q := g_ixL h (atI_nat (j := 7) rfl) q
theorem g_setL7 {p : Addr} {H : Hp} {N : Hp → Prop} {x0 x1 x2 x3 x4 x5 x6 y : V} {v : V} {r : List V} (h : H p = some (.lst (x0 :: x1 :: x2 :: x3 :: x4 :: x5 :: x6 :: y :: r))) (q : N (upd H p (.lst (x0 :: x1 :: x2 :: x3 :: x4 :: x5 :: x6 :: v :: r)))) : rSetL (.ref p) (.int 7) v H N :=
  ⟨p, _, 7, 7, rfl, rfl, h, by unfold ixN; rw [if_pos (by omega), if_pos (by simp only [List.length_cons]; omega)]; rfl, q⟩
theorem g_ixL8 {K : PySem.W.Frag} {p : Addr} {H : Hp} {Q : VK} {x0 x1 x2 x3 x4 x5 x6 x7 : V} {v : V} {r : List V} (h : SqL K H p (x0 :: x1 :: x2 :: x3 :: x4 :: x5 :: x6 :: x7 :: v :: r)) (q : Q v H) : rIxL K (.ref p) (.int 8) H Q := g_ixL h (atI_nat (j := 8) rfl) q
theorem g_setL8 {p : Addr} {H : Hp} {N : Hp → Prop} {x0 x1 x2 x3 x4 x5 x6 x7 y : V} {v : V} {r : List V} (h : H p = some (.lst (x0 :: x1 :: x2 :: x3 :: x4 :: x5 :: x6 :: x7 :: y :: r))) (q : N (upd H p (.lst (x0 :: x1 :: x2 :: x3 :: x4 :: x5 :: x6 :: x7 :: v :: r)))) : rSetL (.ref p) (.int 8) v H N :=
  ⟨p, _, 8, 8, rfl, rfl, h, by unfold ixN; rw [if_pos (by omega), if_pos (by simp only [List.length_cons]; omega)]; rfl, q⟩
theorem g_ixL9 {K : PySem.W.Frag} {p : Addr} {H : Hp} {Q : VK} {x0 x1 x2 x3 x4 x5 x6 x7 x8 : V} {v : V} {r : List V} (h : SqL K H p (x0 :: x1 :: x2 :: x3 :: x4 :: x5 :: x6 :: x7 :: x8 :: v :: r)) (q : Q v H) : rIxL K (.ref p) (.int 9) H Q := g_ixL h (atI_nat (j := 9) rfl) q
theorem g_setL9 {p : Addr} {H : Hp} {N : Hp → Prop} {x0 x1 x2 x3 x4 x5 x6 x7 x8 y : V} {v : V} {r : List V} (h : H p = some (.lst (x0 :: x1 :: x2 :: x3 :: x4 :: x5 :: x6 :: x7 :: x8 :: y :: r))) (q : N (upd H p (.lst (x0 :: x1 :: x2 :: x3 :: x4 :: x5 :: x6 :: x7 :: x8 :: v :: r)))) : rSetL (.ref p) (.int 9) v H N :=
  ⟨p, _, 9, 9, rfl, rfl, h, by unfold ixN; rw [if_pos (by omega), if_pos (by simp only [List.length_cons]; omega)]; rfl, q⟩

theorem Chg.put {a : Addr} {H H1 : Hp} {o : HO} (h : Chg a H H1) : Chg a H (L2.upd H1 a o) := h.trans Chg.upd
theorem Chg.lay {a p : Addr} {H H1 : Hp} {o : HO} (h : Chg a H H1) (hp : H1 p = none) : Chg a H (L2.upd H1 p o) := h.trans (Chg.new hp)
theorem Chg.putn {a D : Addr} {H H1 : Hp} {o : HO} (h : Chg a H H1) (hD : H D = none) : Chg a H (L2.upd H1 D o) := fun b u n e => by
  rw [upd_ne (ne_of_none e hD)]
  exact h b u n e
theorem Same.lay {p : Addr} {H H1 : Hp} {o : HO} (h : Same H H1) (hp : H1 p = none) : Same H (L2.upd H1 p o) := h.trans (same_new hp)

theorem g_cut {t u : TS} {D : Ends} {σ : L2.St} {H : Hp} (Mid : L2.St → Hp → Prop) (h1 : t { D with nx := Mid } σ H) (h2 : ∀ σ' H', Mid σ' H' → u D σ' H') : C8.tCut t u D σ H := ⟨Mid, h1, h2⟩
/-! ### heaps -/
theorem h_same {H : Hp} {a : Addr} {o u : HO} (e : o = u) : upd H a o a = some u := by rw [upd_same, e]
theorem h_ne {H : Hp} {a b : Addr} {o u : HO} (n : b ≠ a) (h : H b = some u) : upd H a o b = some u := by rw [upd_ne n]; exact h
theorem h_chg {H H' : Hp} {a b : Addr} {u : HO} (c : Chg a H H') (n : b ≠ a) (h : H b = some u) : H' b = some u := c b u n h
theorem h_sm {H H' : Hp} {b : Addr} {u : HO} (c : Same H H') (h : H b = some u) : H' b = some u := c b u h
/-! ### the rules that speak of the written part, with that part as a letter -/
section
variable {X : Cx} {K : PySem.W.Frag}
def qIx (K : PySem.W.Frag) : R2 := fun x y H Q => ∃ p xs i v, x = .ref p ∧ y = .int i ∧ (SqL K H p xs ∨ SqT K H p xs) ∧ atI xs i = some v ∧ Q v H
theorem k_ix (e : X.K = K) : IxR X (qIx K) := by
  subst e
  intro value slice pins s σ H x y v u Q I rx ry h hs
  obtain ⟨p, xs, i, z, e1, e2, h1 | h1, h2, h3⟩ := h
  · exact ix_list value slice pins s σ H x y v u Q I rx ry ⟨p, xs, i, z, e1, e2, h1, h2, h3⟩ hs
  · exact ix_tup value slice pins s σ H x y v u Q I rx ry ⟨p, xs, i, z, e1, e2, h1, h2, h3⟩ hs
theorem g_qix {H : Hp} {Q : VK} {p : Addr} {xs : List V} {i : Int} {v : V} (h : SqL K H p xs ∨ SqT K H p xs) (e : atI xs i = some v) (q : Q v H) : qIx K (.ref p) (.int i) H Q := ⟨p, xs, i, v, rfl, rfl, h, e, q⟩
theorem k_in (e : X.K = K) : OpR X (compareOp .In) (rIn K false) := by subst e; exact op_in_seq
theorem k_notin (e : X.K = K) : OpR X (compareOp .NotIn) (rIn K true) := by subst e; exact op_notIn_seq
theorem k_isi (e : X.K = K) : CallR X (.builtin "isinstance") (rIsi K) := by subst e; exact call_isi
theorem k_isiT (e : X.K = K) : CallR X (.builtin "isinstance") (rIsiT K) := by subst e; exact call_isiT
theorem k_len (e : X.K = K) : CallR X (.builtin "len") (qLen K) := by subst e; exact c_len
theorem k_list (e : X.K = K) : CallR X (.type "list") (qList K) := by subst e; exact c_list
theorem k_tuple (e : X.K = K) : CallR X (.type "tuple") (qTuple K) := by subst e; exact c_tuple
theorem k_sum (e : X.K = K) (c : X.calm = true) : CallR X (.builtin "sum") (rSum K) := by subst e; exact cr_sum c
theorem k_any (e : X.K = K) (c : X.calm = true) : CallR X (.builtin "any") (rAny K) := by subst e; exact cr_any c
theorem k_all (e : X.K = K) (c : X.calm = true) : CallR X (.builtin "all") (rAll K) := by subst e; exact cr_all c
theorem k_max (e : X.K = K) (c : X.calm = true) : CallR X (.builtin "max") (rMax K) := by subst e; exact cr_max c
theorem k_min (e : X.K = K) (c : X.calm = true) : CallR X (.builtin "min") (rMin K) := by subst e; exact cr_min c
theorem k_sl (e : X.K = K) : SlR X (rSlL K) := by subst e; exact sl_list
theorem k_index (e : X.K = K) : MtR X "list.index" (rIndex K) := by subst e; exact mt_index
theorem k_eqD (e : X.K = K) (hu : X.A.units + 64 < cLine) : OpR X (compareOp .Eq) (rEqD K) := by subst e; exact op_eqD hu
theorem k_neD (e : X.K = K) (hu : X.A.units + 64 < cLine) : OpR X (compareOp .NotEq) (rNeD K) := by subst e; exact op_neD hu
theorem k_pil {tg l : Expr} {tl : TE} (e : X.K = K) (hl : PE X l tl) : PI X tg l (iList K tl) := by subst e; exact pi_list hl
theorem k_pit {tg l : Expr} {tl : TE} (e : X.K = K) (hl : PE X l tl) : PI X tg l (iTup K tl) := by subst e; exact pi_tup hl
theorem k_pgt {es : List Expr} {k : Nat} {t : TGs} {n : Nat} {pos : Pos} (e : X.K = K) (hc : X.calm = true) (h : PGs X es t)
    (hn : (assignEach es X.env).length = n) (hst : (assignEach es X.env).findIdx? (·.1) = none) : PG X (.Tuple es k pos) (gTup K n t) := by subst e; exact pg_tup hc h hn hst
end
theorem g_qix0 {K : PySem.W.Frag} {p : Addr} {H : Hp} {Q : VK} {v : V} {r : List V} (h : SqL K H p (v :: r) ∨ SqT K H p (v :: r)) (q : Q v H) : qIx K (.ref p) (.int 0) H Q := g_qix h (atI_nat (j := 0) rfl) q
theorem g_qix1 {K : PySem.W.Frag} {p : Addr} {H : Hp} {Q : VK} {x0 : V} {v : V} {r : List V} (h : SqL K H p (x0 :: v :: r) ∨ SqT K H p (x0 :: v :: r)) (q : Q v H) : qIx K (.ref p) (.int 1) H Q := g_qix h (atI_nat (j := 1) rfl) q
theorem g_qix2 {K : PySem.W.Frag} {p : Addr} {H : Hp} {Q : VK} {x0 x1 : V} {v : V} {r : List V} (h : SqL K H p (x0 :: x1 :: v :: r) ∨ SqT K H p (x0 :: x1 :: v :: r)) (q : Q v H) : qIx K (.ref p) (.int 2) H Q := g_qix h (atI_nat (j := 2) rfl) q
theorem g_qix3 {K : PySem.W.Frag} {p : Addr} {H : Hp} {Q : VK} {x0 x1 x2 : V} {v : V} {r : List V} (h : SqL K H p (x0 :: x1 :: x2 :: v :: r) ∨ SqT K H p (x0 :: x1 :: x2 :: v :: r)) (q : Q v H) : qIx K (.ref p) (.int 3) H Q := g_qix h (atI_nat (j := 3) rfl) q
theorem g_qix4 {K : PySem.W.Frag} {p : Addr} {H : Hp} {Q : VK} {x0 x1 x2 x3 : V} {v : V} {r : List V} (h : SqL K H p (x0 :: x1 :: x2 :: x3 :: v :: r) ∨ SqT K H p (x0 :: x1 :: x2 :: x3 :: v :: r)) (q : Q v H) : qIx K (.ref p) (.int 4) H Q := g_qix h (atI_nat (j := 4) rfl) q
theorem g_qix5 {K : PySem.W.Frag} {p : Addr} {H : Hp} {Q : VK} {x0 x1 x2 x3 x4 : V} {v : V} {r : List V} (h : SqL K H p (x0 :: x1 :: x2 :: x3 :: x4 :: v :: r) ∨ SqT K H p (x0 :: x1 :: x2 :: x3 :: x4 :: v :: r)) (q : Q v H) : qIx K (.ref p) (.int 5) H Q := g_qix h (atI_nat (j := 5) rfl) q
theorem g_qix6 {K : PySem.W.Frag} {p : Addr} {H : Hp} {Q : VK} {x0 x1 x2 x3 x4 x5 : V} {v : V} {r : List V} (h : SqL K H p (x0 :: x1 :: x2 :: x3 :: x4 :: x5 :: v :: r) ∨ SqT K H p (x0 :: x1 :: x2 :: x3 :: x4 :: x5 :: v :: r)) (q : Q v H) : qIx K (.ref p) (.int 6) H Q := g_qix h (atI_nat (j := 6) rfl) q
theorem g_qix7 {K : PySem.W.Frag} {p : Addr} {H : Hp} {Q : VK} {x0 x1 x2 x3 x4 x5 x6 : V} {v : V} {r : List V} (h : SqL K H p (x0 :: x1 :: x2 :: x3 :: x4 :: x5 :: x6 :: v :: r) ∨ SqT K H p (x0 :: x1 :: x2 :: x3 :: x4 :: x5 :: x6 :: v :: r)) (q : Q v H) : qIx K (.ref p) (.int 7) H Q := g_qix h (atI_nat (j := 7) rfl) q
theorem g_qix8 {K : PySem.W.Frag} {p : Addr} {H : Hp} {Q : VK} {x0 x1 x2 x3 x4 x5 x6 x7 : V} {v : V} {r : List V} (h : SqL K H p (x0 :: x1 :: x2 :: x3 :: x4 :: x5 :: x6 :: x7 :: v :: r) ∨ SqT K H p (x0 :: x1 :: x2 :: x3 :: x4 :: x5 :: x6 :: x7 :: v :: r)) (q : Q v H) : qIx K (.ref p) (.int 8) H Q := g_qix h (atI_nat (j := 8) rfl) q
theorem g_qix9 {K : PySem.W.Frag} {p : Addr} {H : Hp} {Q : VK} {x0 x1 x2 x3 x4 x5 x6 x7 x8 : V} {v : V} {r : List V} (h : SqL K H p (x0 :: x1 :: x2 :: x3 :: x4 :: x5 :: x6 :: x7 :: x8 :: v :: r) ∨ SqT K H p (x0 :: x1 :: x2 :: x3 :: x4 :: x5 :: x6 :: x7 :: x8 :: v :: r)) (q : Q v H) : qIx K (.ref p) (.int 9) H Q := g_qix h (atI_nat (j := 9) rfl) q
theorem chg_same {H H' : Hp} {D : Addr} (c : Chg D H H') (hD : H D = none) : Same H H' := fun b o e => c b o (ne_of_none e hD) e
theorem seqT_same {K : PySem.W.Frag} {H H' : Hp} {a : Addr} {xs : List V} (s : Same H H') (h : SqT K H a xs) : SqT K H' a xs := by
  rcases h with (h | ⟨o, h⟩) | h
  · exact .inl (.inl (s _ _ h))
  · exact .inl (.inr ⟨o, s _ _ h⟩)
  · exact .inr h
theorem lt_same {K : PySem.W.Frag} {H H' : Hp} {a : Addr} {xs : List V} (s : Same H H') (h : SqL K H a xs ∨ SqT K H a xs) : SqL K H' a xs ∨ SqT K H' a xs := by
  rcases h with h | h
  · exact .inl (s.seq h)
  · exact .inr (seqT_same s h)
/-! ### a conditional expression as a test -/
def tIfT (t ta tb : TT) : TT := fun σ H Q => t σ H fun k H1 => if k = true then ta σ H1 Q else tb σ H1 Q
theorem pt_ifE {X : Cx} {c a b : Expr} {pos : Pos} {t ta tb : TT} (hc : PT X c t) (ha : PT X a ta) (hb : PT X b tb) : PT X (.IfExp c a b pos) (tIfT t ta tb) := by
  refine ⟨fun pins s σ H Q I hw => PyProof.Rows.isTrue_IfExp (thn (hc.run pins s σ H _ I hw) fun k s1 ⟨H1, I1, q1⟩ => ?_)⟩
  cases k with
  | true => exact ha.run pins s1 σ H1 Q I1 (by simpa using q1)
  | false => exact hb.run pins s1 σ H1 Q I1 (by simpa using q1)
theorem g_ifT {t ta tb : TT} {σ : L2.St} {H : Hp} {Q : Bool → Hp → Prop} (h : t σ H fun k H1 => if k = true then ta σ H1 Q else tb σ H1 Q) : tIfT t ta tb σ H Q := h
/-! ### list(range(..)) -/
section
variable {σ : L2.St} {H : Hp} {Q : VK}
def RgNew (Q : VK) (a b : Int) (H1 : Hp) : Prop := RgOk a b ∧ ∀ q, H1 q = none → Q (.ref q) (upd H1 q (.lst (rgV a b)))
theorem g_lstRg {te : L2.St → Hp → (Int → Int → Hp → Prop) → Prop} (h : te σ H (RgNew Q)) : tLstRg te σ H Q := h
def Rg1R (R : Int → Int → Hp → Prop) (x : V) (H : Hp) : Prop := ∃ n, x = .int n ∧ R 0 n H
theorem g_tRg1 {ta : TE} {R : Int → Int → Hp → Prop} (h : ta σ H (Rg1R R)) : tRg1 ta σ H R := h
theorem g_rg1R {R : Int → Int → Hp → Prop} {n : Int} (h : R 0 n H) : Rg1R R (.int n) H := ⟨n, rfl, h⟩
theorem g_rgNew {a b : Int} (c : 0 ≤ a ∧ b ≤ 16777216 ∧ a ≤ 16777216 ∧ 0 ≤ b) (h : ∀ q, H q = none → Q (.ref q) (upd H q (.lst (rgV a b)))) : RgNew Q a b H := ⟨.of_le c.1 c.2.1 c.2.2.1 c.2.2.2, h⟩
end
/-! ### lists of ints compared -/
def dInts (ns : List Int) : List PyData := ns.map PyData.int
theorem dp_ints {K : PySem.W.Frag} {H : Hp} : ∀ ns : List Int, DpAll K H (ns.map V.int) (dInts ns)
  | [] => .nil
  | n :: r => .cons (.int n) (dp_ints r)
theorem can_ints : ∀ ns : List Int, (PyData.list (dInts ns)).canLay0 = true ∧ PyData.depthAll (dInts ns) = 0
  | [] => ⟨rfl, rfl⟩
  | n :: r => by
    obtain ⟨h1, h2⟩ := can_ints r
    refine ⟨?_, ?_⟩
    · show (PyData.canLay0 (.int n) && PyData.canLayAll0 (dInts r)) = true
      rw [show PyData.canLayAll0 (dInts r) = true from h1]
      rfl
    · show max (PyData.depth (.int n)) (PyData.depthAll (dInts r)) = 0
      rw [h2]
      rfl
theorem shaped_ints (ns : List Int) : SeqAt.shaped (.list (dInts ns)) = true := by
  obtain ⟨h1, h2⟩ := can_ints ns
  unfold SeqAt.shaped
  rw [h1, Bool.true_and]
  exact decide_eq_true (by show PyData.depthAll (dInts ns) + 1 ≤ 64; rw [h2]; decide)
theorem eqv_ints : ∀ a b : List Int, PyData.eqvAll (dInts a) (dInts b) = decide (a = b)
  | [], [] => rfl
  | [], _ :: _ => rfl
  | _ :: _, [] => rfl
  | x :: a, y :: b => by
    show (x == y && PyData.eqvAll (dInts a) (dInts b)) = decide (x :: a = y :: b)
    rw [eqv_ints a b]
    by_cases e : x = y
    · subst e; simp
    · simp [e]
theorem g_eqDI {K : PySem.W.Frag} {H : Hp} {Q : VK} {p q : Addr} {a b : List Int} (h1 : SqL K H p (a.map V.int)) (h2 : SqL K H q (b.map V.int)) (h : Q (.bl (decide (a = b))) H) : rEqD K (.ref p) (.ref q) H Q :=
  ⟨.list (dInts a), .list (dInts b), .lst h1 (dp_ints a), .lst h2 (dp_ints b), shaped_ints a, shaped_ints b, by
    have e : PyData.eqv (.list (dInts a)) (.list (dInts b)) = decide (a = b) := eqv_ints a b
    rw [e]; exact h⟩
theorem g_neDI {K : PySem.W.Frag} {H : Hp} {Q : VK} {p q : Addr} {a b : List Int} (h1 : SqL K H p (a.map V.int)) (h2 : SqL K H q (b.map V.int)) (h : Q (.bl (!decide (a = b))) H) : rNeD K (.ref p) (.ref q) H Q :=
  ⟨.list (dInts a), .list (dInts b), .lst h1 (dp_ints a), .lst h2 (dp_ints b), shaped_ints a, shaped_ints b, by
    have e : PyData.eqv (.list (dInts a)) (.list (dInts b)) = decide (a = b) := eqv_ints a b
    rw [e]; exact h⟩
theorem sqL_new {K : PySem.W.Frag} {H : Hp} {p a : Addr} {o : HO} {xs : List V} (hp : H p = none) (h : SqL K H a xs) : SqL K (upd H p o) a xs := (same_new hp).seq h
theorem sqT_new {K : PySem.W.Frag} {H : Hp} {p a : Addr} {o : HO} {xs : List V} (hp : H p = none) (h : SqT K H a xs) : SqT K (upd H p o) a xs := seqT_same (same_new hp) h
theorem sqL_sm {K : PySem.W.Frag} {H H' : Hp} {a : Addr} {xs : List V} (s : L2.Same H H') (h : SqL K H a xs) : SqL K H' a xs := s.seq h
theorem tyL {K : PySem.W.Frag} {H : Hp} {a : Addr} {xs : List V} (h : SqL K H a xs) : TyX K H (.ref a) (.type "list") := by
  rcases h with (h | ⟨o, h⟩) | ⟨o, its, n, h, c, _⟩
  · exact .base (.lst h)
  · exact .base (.frz h)
  · exact .kList h c
theorem tyT {K : PySem.W.Frag} {H : Hp} {a : Addr} {xs : List V} (h : SqT K H a xs) : TyX K H (.ref a) (.type "tuple") := by
  rcases h with (h | ⟨o, h⟩) | ⟨o, its, n, h, c, _⟩
  · exact .base (.tup h)
  · exact .fTuple h
  · exact .kTuple h c
/-! ### isinstance -/
theorem kb_int_int : kitB "int" "int" = some true := by decide +kernel
theorem kb_int_str : kitB "int" "str" = some false := by decide +kernel
theorem kb_int_bool : kitB "int" "bool" = some false := by decide +kernel
theorem kb_int_list : kitB "int" "list" = some false := by decide +kernel
theorem kb_int_tuple : kitB "int" "tuple" = some false := by decide +kernel
theorem kb_str_int : kitB "str" "int" = some false := by decide +kernel
theorem kb_str_str : kitB "str" "str" = some true := by decide +kernel
theorem kb_str_bool : kitB "str" "bool" = some false := by decide +kernel
theorem kb_str_list : kitB "str" "list" = some false := by decide +kernel
theorem kb_str_tuple : kitB "str" "tuple" = some false := by decide +kernel
theorem kb_bool_int : kitB "bool" "int" = some true := by decide +kernel
theorem kb_bool_str : kitB "bool" "str" = some false := by decide +kernel
theorem kb_bool_bool : kitB "bool" "bool" = some true := by decide +kernel
theorem kb_bool_list : kitB "bool" "list" = some false := by decide +kernel
theorem kb_bool_tuple : kitB "bool" "tuple" = some false := by decide +kernel
theorem kb_NoneType_int : kitB "NoneType" "int" = some false := by decide +kernel
theorem kb_NoneType_str : kitB "NoneType" "str" = some false := by decide +kernel
theorem kb_NoneType_bool : kitB "NoneType" "bool" = some false := by decide +kernel
theorem kb_NoneType_list : kitB "NoneType" "list" = some false := by decide +kernel
theorem kb_NoneType_tuple : kitB "NoneType" "tuple" = some false := by decide +kernel
theorem kb_list_int : kitB "list" "int" = some false := by decide +kernel
theorem kb_list_str : kitB "list" "str" = some false := by decide +kernel
theorem kb_list_bool : kitB "list" "bool" = some false := by decide +kernel
theorem kb_list_list : kitB "list" "list" = some true := by decide +kernel
theorem kb_list_tuple : kitB "list" "tuple" = some false := by decide +kernel
theorem kb_tuple_int : kitB "tuple" "int" = some false := by decide +kernel
theorem kb_tuple_str : kitB "tuple" "str" = some false := by decide +kernel
theorem kb_tuple_bool : kitB "tuple" "bool" = some false := by decide +kernel
theorem kb_tuple_list : kitB "tuple" "list" = some false := by decide +kernel
theorem kb_tuple_tuple : kitB "tuple" "tuple" = some true := by decide +kernel
theorem g_isi {K : PySem.W.Frag} {H : Hp} {Q : VK} {x : V} {t T : String} {b : Bool} (ty : TyX K H x (.type t)) (hb : kitB t T = some b) (h : Q (.bl b) H) : rIsi K [x, .ty T] H Q :=
  ⟨x, .ty T, .type t, .type T, b, rfl, .ty T, ty, kit_ty hb, h⟩
theorem g_isiT2 {K : PySem.W.Frag} {H : Hp} {Q : VK} {x : V} {tp : Addr} {t T1 T2 : String} {b1 b2 : Bool} (e : H tp = some (.tup [.ty T1, .ty T2])) (ty : TyX K H x (.type t)) (h1 : kitB t T1 = some b1) (h2 : kitB t T2 = some b2)
    (h : Q (.bl (b1 || b2)) H) : rIsiT K [x, .ref tp] H Q := by
  refine ⟨x, tp, [.ty T1, .ty T2], .type t, [.type T1, .type T2], b1 || b2, rfl, e, .cons (.ty _) (.cons (.ty _) .nil), ty, ?_, h⟩
  refine kitAny_cons (kit_ty h1) (fun z => ?_) (fun z => by rw [z]; rfl)
  rw [z, Bool.false_or]
  exact kitAny_cons (kit_ty h2) (fun z => by rw [z]; exact kitAny_nil) (fun z => z)
/-! ### comprehensions and loops -/
section
variable {K : PySem.W.Frag} {g : TG} {tt : TT} {te : TE} {tb : TS} {vs : List Nat} {D0 : Ends} {σ σ0 : L2.St} {H : Hp} {Q : VK} {J : It} {a : Addr}
/-- one turn of a comprehension: the item x, the block's slots σ0, the list at D so far -/
def TurnD (D : Addr) (N : Hp → Prop) (y : V) (H4 : Hp) : Prop := ∃ acc, H4 D = some (.lst acc) ∧ acc.length < sizeLine ∧ N (upd H4 D (.lst (acc ++ [y])))
def TurnC (te : TE) (σ2 : L2.St) (D : Addr) (N : Hp → Prop) (b : Bool) (H3 : Hp) : Prop := if b = true then te σ2 H3 (TurnD D N) else N H3
def TurnB (tt : TT) (te : TE) (vs : List Nat) (σ0 : L2.St) (D : Addr) (N : Hp → Prop) (σ2 : L2.St) (H2 : Hp) : Prop := wipe σ2 vs = σ0 ∧ tt σ2 H2 (TurnC te σ2 D N)
def Turn1 (g : TG) (tt : TT) (te : TE) (vs : List Nat) (σ0 : L2.St) (D : Addr) (x : V) (H : Hp) (N : Hp → Prop) : Prop := g x σ0 H (TurnB tt te vs σ0 D N)
theorem g_turn1 {D : Addr} {x : V} {N : Hp → Prop} (h : g x σ0 H (TurnB tt te vs σ0 D N)) : Turn1 g tt te vs σ0 D x H N := h
theorem g_turnB {D : Addr} {N : Hp → Prop} (e : wipe σ vs = σ0) (h : tt σ H (TurnC te σ D N)) : TurnB tt te vs σ0 D N σ H := ⟨e, h⟩
theorem g_turnCt {D : Addr} {N : Hp → Prop} (h : te σ H (TurnD D N)) : TurnC te σ D N true H := by unfold TurnC; rw [if_pos rfl]; exact h
theorem g_turnC {D : Addr} {N : Hp → Prop} {p : Prop} [Decidable p] (h1 : p → te σ H (TurnD D N)) (h2 : ¬ p → N H) : TurnC te σ D N (decide p) H := by
  unfold TurnC
  exact g_iteD h1 h2
theorem g_turnCb {D : Addr} {N : Hp → Prop} {b : Bool} (h1 : b = true → te σ H (TurnD D N)) (h2 : b = false → N H) : TurnC te σ D N b H := by
  unfold TurnC
  exact g_iteBB h1 h2
theorem g_turnD {D : Addr} {N : Hp → Prop} {y : V} {acc : List V} (h : H D = some (.lst acc)) (l : acc.length ≤ 1000) (q : N (upd H D (.lst (acc ++ [y])))) : TurnD D N y H := ⟨acc, h, small1000 l, q⟩
def LcG (J : It) (g : TG) (tt : TT) (te : TE) (vs : List Nat) (σ : L2.St) (Q : VK) (H1 : Hp) : Prop := ∀ D, H1 D = none → ∃ W : Nat → Nat → Hp → Prop,
  (∃ m, W 0 m (upd H1 D (.lst []))) ∧ ∀ i m H, W i m H → (J.stop i H ∧ Q (.ref D) H) ∨ (J.go i H ∧ ∃ Nx : Hp → Prop,
    (∀ H', Nx H' → ∃ m', m' < m ∧ W (i + 1) m' H') ∧ ∀ x H', J.yld i H x H' → Turn1 g tt te vs (wipe σ vs) D x H' Nx)
theorem g_lc {wi : TI} (h : wi σ H fun J H1 => LcG J g tt te vs σ Q H1) : tLc wi g tt te vs σ H Q := h
def ForG (J : It) (g : TG) (tb : TS) (D : Ends) (σ : L2.St) (H1 : Hp) : Prop := ∃ W : Nat → Nat → L2.St → Hp → Prop, (∃ m, W 0 m σ H1) ∧ ∀ i m σ H, W i m σ H →
  (J.stop i H ∧ D.nx σ H) ∨ (J.go i H ∧ ∃ N : L2.St → Hp → Prop, (∀ σ' H', N σ' H' → ∃ m', m' < m ∧ W (i + 1) m' σ' H') ∧
    ∀ x H', J.yld i H x H' → g x σ H' fun σ2 H2 => tb { D with nx := N, ct := N, bk := D.nx } σ2 H2)
theorem g_for {wi : TI} (h : wi σ H fun J H1 => ForG J g tb D0 σ H1) : tFor wi g tb D0 σ H := h
variable {R : It → Hp → Prop}
def Rng1R (ws : List V) (R : It → Hp → Prop) (H : Hp) : Prop := ∃ j : Int, ws = [.int j] ∧ -(2 ^ 62) ≤ j ∧ j < 2 ^ 62 ∧ R (Itr 0 j.toNat) H
theorem g_iRng1 {ta : TA} (h : ta σ H fun ws H1 => Rng1R ws R H1) : iRng1 ta σ H R := h
theorem g_rng1 {v : Int} (c : -(2 ^ 62) ≤ v ∧ v < 2 ^ 62) (h : R (Itr 0 v.toNat) H) : Rng1R [.int v] R H := ⟨v, rfl, c.1, c.2, h⟩
def Rng2R (ws : List V) (R : It → Hp → Prop) (H : Hp) : Prop := ∃ i j : Int, ws = [.int i, .int j] ∧ (-(2 ^ 62) ≤ i ∧ i < 2 ^ 62 ∧ -(2 ^ 62) ≤ j ∧ j < 2 ^ 62) ∧ R (Itr i (j - i).toNat) H
theorem g_iRng2 {ta : TA} (h : ta σ H fun ws H1 => Rng2R ws R H1) : iRng2 ta σ H R := h
theorem g_rng2 {i j : Int} (c : -(2 ^ 62) ≤ i ∧ i < 2 ^ 62 ∧ -(2 ^ 62) ≤ j ∧ j < 2 ^ 62) (h : R (Itr i (j - i).toNat) H) : Rng2R [.int i, .int j] R H := ⟨i, j, rfl, c, h⟩
def LstR (K : PySem.W.Frag) (x : V) (R : It → Hp → Prop) (H : Hp) : Prop := ∃ a, x = .ref a ∧ (∃ xs, SqL K H a xs) ∧ R (Itl K a) H
theorem g_iList {tl : TE} (h : tl σ H fun x H1 => LstR K x R H1) : iList K tl σ H R := h
theorem g_lstR {xs : List V} (c : SqL K H a xs) (h : R (Itl K a) H) : LstR K (.ref a) R H := ⟨a, rfl, ⟨xs, c⟩, h⟩
def TupR (K : PySem.W.Frag) (x : V) (R : It → Hp → Prop) (H : Hp) : Prop := ∃ a, x = .ref a ∧ (∃ xs, SqT K H a xs) ∧ R (Itt K a) H
theorem g_iTup {tl : TE} (h : tl σ H fun x H1 => TupR K x R H1) : iTup K tl σ H R := h
theorem g_tupR {xs : List V} (c : SqT K H a xs) (h : R (Itt K a) H) : TupR K (.ref a) R H := ⟨a, rfl, ⟨xs, c⟩, h⟩
def WhB (tb : TS) (D : Ends) (W : Nat → L2.St → Hp → Prop) (m : Nat) (σ : L2.St) (b : Bool) (H1 : Hp) : Prop :=
  if b = true then ∃ N : L2.St → Hp → Prop, (∀ σ' H', N σ' H' → ∃ m', m' < m ∧ W m' σ' H') ∧ tb { D with nx := N, ct := N, bk := D.nx } σ H1 else D.nx σ H1
theorem g_while {c : TT} (W : Nat → L2.St → Hp → Prop) (h0 : ∃ m, W m σ H) (hs : ∀ m σ H, W m σ H → c σ H (WhB tb D0 W m σ)) : tWhile c tb D0 σ H := ⟨W, h0, hs⟩
theorem g_whB {W : Nat → L2.St → Hp → Prop} {m : Nat} {p : Prop} [Decidable p] (h1 : p → tb { D0 with nx := fun σ' H' => ∃ m', m' < m ∧ W m' σ' H', ct := fun σ' H' => ∃ m', m' < m ∧ W m' σ' H', bk := D0.nx } σ H)
    (h2 : ¬ p → D0.nx σ H) : WhB tb D0 W m σ (decide p) H := by
  unfold WhB
  exact g_iteD (fun h => ⟨_, fun _ _ z => z, h1 h⟩) h2
/-- a comprehension over a range: Pv by the turns done and the heap, the new list at D -/
theorem lcR {lo : Int} {n : Nat} (hw : wipe σ vs = σ0) (h : ∀ D, H D = none → ∃ Pv : Nat → Hp → Prop, Pv 0 (upd H D (.lst [])) ∧
    (∀ (i : Nat) (H' : Hp), i < n → Pv i H' → Turn1 g tt te vs σ0 D (.int (lo + i)) H' (Pv (i + 1))) ∧ ∀ H', Pv n H' → Q (.ref D) H') : LcG (Itr lo n) g tt te vs σ Q H := by
  subst hw
  intro D hD
  obtain ⟨Pv, h0, hs, hd⟩ := h D hD
  refine ⟨fun i m H => m = n - i ∧ i ≤ n ∧ Pv i H, ⟨n, by simp, Nat.zero_le _, h0⟩, ?_⟩
  rintro i m H ⟨rfl, hi, p⟩
  rcases Nat.lt_or_ge i n with hlt | hge
  · exact .inr ⟨hlt, Pv (i + 1), fun H' p' => ⟨n - (i + 1), by omega, rfl, hlt, p'⟩, fun x H' ⟨e1, e2⟩ => by subst e1 e2; exact hs i _ hlt p⟩
  · have e : i = n := by omega
    subst e
    exact .inl ⟨Nat.le_refl _, hd H p⟩
theorem lcL {xs : List V} (hw : wipe σ vs = σ0) (h : ∀ D, H D = none → ∃ Pv : Nat → Hp → Prop, Pv 0 (upd H D (.lst [])) ∧ (∀ i H', i ≤ xs.length → Pv i H' → SqL K H' a xs) ∧
    (∀ (i : Nat) (x : V) (H' : Hp), xs[i]? = some x → Pv i H' → Turn1 g tt te vs σ0 D x H' (Pv (i + 1))) ∧ ∀ H', Pv xs.length H' → Q (.ref D) H') : LcG (Itl K a) g tt te vs σ Q H := by
  subst hw
  intro D hD
  obtain ⟨Pv, h0, hl, hs, hd⟩ := h D hD
  refine ⟨fun i m H => m = xs.length - i ∧ i ≤ xs.length ∧ Pv i H, ⟨xs.length, by simp, Nat.zero_le _, h0⟩, ?_⟩
  rintro i m H ⟨rfl, hi, p⟩
  have q := hl i H hi p
  rcases Nat.lt_or_ge i xs.length with hlt | hge
  · exact .inr ⟨⟨xs, xs[i], q, by simp [hlt]⟩, Pv (i + 1), fun H' p' => ⟨xs.length - (i + 1), by omega, rfl, hlt, p'⟩, fun x H' ⟨e1, e2⟩ => by subst e1; exact hs i x _ (e2 xs q) p⟩
  · have e : i = xs.length := by omega
    subst e
    exact .inl ⟨⟨xs, q, Nat.le_refl _⟩, hd H p⟩
/-- over a list of ints, nothing changed within a turn: p tells which items are kept, f what stands for them -/
theorem lcP {S : List Int} {f : Int → V} {p : Int → Bool} (hw : wipe σ vs = σ0) (hS : SqL K H a (S.map V.int)) (hl : S.length ≤ 1000)
    (turn : ∀ (D : Addr) (acc : List V) (x : Int) (N : Hp → Prop), H D = none → x ∈ S → (p x = true → TurnD D N (f x) (upd H D (.lst acc))) → (p x = false → N (upd H D (.lst acc))) →
      Turn1 g tt te vs σ0 D (.int x) (upd H D (.lst acc)) N)
    (q : ∀ D, H D = none → Q (.ref D) (upd H D (.lst ((S.filter p).map f)))) : LcG (Itl K a) g tt te vs σ Q H := by
  refine lcL (xs := S.map V.int) hw fun D hD => ⟨fun i H' => H' = upd H D (.lst (((S.take i).filter p).map f)), rfl, ?_, ?_, ?_⟩
  · rintro i H' _ rfl
    exact (same_new hD).seq hS
  · rintro i x H' hx rfl
    rw [List.getElem?_map, Option.map_eq_some_iff] at hx
    obtain ⟨n, hn, rfl⟩ := hx
    have hlt : i < S.length := (List.getElem?_eq_some_iff.mp hn).1
    refine turn D _ n _ hD (List.mem_of_getElem? hn) (fun hp => g_turnD upd_same ?_ ?_) (fun hp => ?_)
    · rw [List.length_map]
      have h1 := List.length_filter_le p (S.take i)
      rw [List.length_take] at h1
      omega
    · dsimp only
      rw [upd_upd, List.take_add_one, hn, List.filter_append, List.map_append]
      simp [hp]
    · dsimp only
      rw [List.take_add_one, hn, List.filter_append]
      simp [hp]
  · rintro H' rfl
    rw [List.length_map, List.take_length]
    exact q D hD
/-- the same over range(n) -/
theorem lcPR {n : Nat} {f : Nat → V} {p : Nat → Bool} (hw : wipe σ vs = σ0) (hl : n ≤ 1000)
    (turn : ∀ (D : Addr) (acc : List V) (x : Nat) (N : Hp → Prop), H D = none → x < n → (p x = true → TurnD D N (f x) (upd H D (.lst acc))) → (p x = false → N (upd H D (.lst acc))) →
      Turn1 g tt te vs σ0 D (.int (0 + (x : Int))) (upd H D (.lst acc)) N)
    (q : ∀ D, H D = none → Q (.ref D) (upd H D (.lst (((List.range n).filter p).map f)))) : LcG (Itr 0 n) g tt te vs σ Q H := by
  refine lcR hw fun D hD => ⟨fun i H' => H' = upd H D (.lst (((List.range i).filter p).map f)), rfl, ?_, ?_⟩
  · rintro i H' hi rfl
    refine turn D _ i _ hD hi (fun hp => g_turnD upd_same ?_ ?_) (fun hp => ?_)
    · rw [List.length_map]
      have h1 := List.length_filter_le p (List.range i)
      rw [List.length_range] at h1
      omega
    · dsimp only
      rw [upd_upd, List.range_succ, List.filter_append, List.map_append]
      simp [hp]
    · dsimp only
      rw [List.range_succ, List.filter_append]
      simp [hp]
  · rintro H' rfl
    exact q D hD
theorem forL {xs : List V} (h : ∃ Pv : Nat → L2.St → Hp → Prop, Pv 0 σ H ∧ (∀ i σ' H', i ≤ xs.length → Pv i σ' H' → SqL K H' a xs) ∧
    (∀ i x σ' H', xs[i]? = some x → Pv i σ' H' → g x σ' H' fun σ2 H2 => tb { D0 with nx := Pv (i + 1), ct := Pv (i + 1), bk := D0.nx } σ2 H2) ∧ ∀ σ' H', Pv xs.length σ' H' → D0.nx σ' H') : ForG (Itl K a) g tb D0 σ H := by
  obtain ⟨Pv, h0, hl, hs, hd⟩ := h
  exact for_list Pv h0 hl hs hd
theorem forR {lo : Int} {n : Nat} (h : ∃ Pv : Nat → L2.St → Hp → Prop, Pv 0 σ H ∧
    (∀ i σ' H', i < n → Pv i σ' H' → g (.int (lo + i)) σ' H' fun σ2 H2 => tb { D0 with nx := Pv (i + 1), ct := Pv (i + 1), bk := D0.nx } σ2 H2) ∧ ∀ σ' H', Pv n σ' H' → D0.nx σ' H') : ForG (Itr lo n) g tb D0 σ H := by
  obtain ⟨Pv, h0, hs, hd⟩ := h
  exact for_range Pv h0 hs hd
theorem forT {xs : List V} (h : ∃ Pv : Nat → L2.St → Hp → Prop, Pv 0 σ H ∧ (∀ i σ' H', i ≤ xs.length → Pv i σ' H' → SqT K H' a xs) ∧
    (∀ i x σ' H', xs[i]? = some x → Pv i σ' H' → g x σ' H' fun σ2 H2 => tb { D0 with nx := Pv (i + 1), ct := Pv (i + 1), bk := D0.nx } σ2 H2) ∧ ∀ σ' H', Pv xs.length σ' H' → D0.nx σ' H') : ForG (Itt K a) g tb D0 σ H := by
  obtain ⟨Pv, h0, hl, hs, hd⟩ := h
  exact for_tup Pv h0 hl hs hd
theorem g_app {p : Addr} {xs : List V} {y : V} {H : Hp} {Q : VK} (h : H p = some (.lst xs)) (hl : xs.length < 1000) (q : Q .non (upd H p (.lst (xs ++ [y])))) : rAppend (.ref p) [y] H Q :=
  ⟨p, xs, y, rfl, rfl, h, small1000 (Nat.le_of_lt hl), q⟩
/-- a turn that changes nothing: the item is kept if p says so, and f of it stands in the new list -/
def Pure1 (g : TG) (tt : TT) (te : TE) (vs : List Nat) (σ0 : L2.St) (p : V → Bool) (f : V → V) (x : V) (H : Hp) : Prop :=
  g x σ0 H fun σ2 H2 => wipe σ2 vs = σ0 ∧ tt σ2 H2 fun b H3 => if b = true then te σ2 H3 fun y H4 => p x = true ∧ y = f x ∧ H4 = H else p x = false ∧ H3 = H
end
theorem pure_step {H : Hp} {D : Addr} {xs : List V} {i : Nat} {x y : V} {p : V → Bool} {f : V → V} (hx : xs[i]? = some x) (hp : p x = true) (hy : y = f x) (hl : xs.length ≤ 1000) :
    ∃ acc, (upd H D (.lst (((xs.take i).filter p).map f))) D = some (.lst acc) ∧ acc.length < sizeLine ∧
      upd (upd H D (.lst (((xs.take i).filter p).map f))) D (.lst (acc ++ [y])) = upd H D (.lst (((xs.take (i + 1)).filter p).map f)) := by
  refine ⟨_, upd_same, small1000 ?_, ?_⟩
  · rw [List.length_map]
    have h1 := List.length_filter_le p (xs.take i)
    have h2 : (xs.take i).length ≤ xs.length := by rw [List.length_take]; exact Nat.min_le_right _ _
    omega
  · rw [upd_upd, List.take_add_one, hx, List.filter_append, List.map_append, hy]
    simp [hp]
theorem pure_skip {H : Hp} {D : Addr} {xs : List V} {i : Nat} {x : V} {p : V → Bool} {f : V → V} (hx : xs[i]? = some x) (hp : p x = false) :
    upd H D (.lst (((xs.take i).filter p).map f)) = upd H D (.lst (((xs.take (i + 1)).filter p).map f)) := by
  rw [List.take_add_one, hx, List.filter_append]
  simp [hp]
theorem cxK {CX : CXT} {P : Program} {w : World} {K : PySem.W.Frag} {mg : Str → Option Value} {base : Heap} {N : List Str} {q : Str} {sc : Scope} {f : Addr} {cdv : Value}
    {A : PySem.Around} {outer : List PySem.Env} {s : Shared} {H : Hp} {E : XK} : (cxOf CX P w K mg base N q sc f cdv A outer s H E).K = K := rfl
end Q

set_option Elab.async false
set_option linter.all false
set_option maxRecDepth 100000
namespace PySem
/-! enumerate(t) over a tuple -/
set_option maxHeartbeats 1000000 in
theorem qMeetsEnum {v : Value} {o : Obj} {HH : Heap → Prop} (B : Begins v o HH) :
    Meets (Builtin.«enumerate.__new__» ⟨[.type "enumerate", v], []⟩) (fun _ R s => HH s.heap ∧ R (.ok (.ret (.ref (s.heap.push o).objs.size)))
      { s with heap := (s.heap.push o).push { cls := .type "enumerate", data := .fields #[.none, .bool false, .ref s.heap.objs.size, rawInt 0, .none, .none] } }) :=
  .of_wp fun prog w A R s hyp => by
    obtain ⟨hp, gg, dd, tk, os⟩ := s
    obtain ⟨hstart, hyp⟩ := hyp
    have hsub := sub_enumerate
    have goIter : ∀ {A' : Around} {E : Value → Shared → Prop} {Q : Value → Shared → Prop}, Q (.ref hp.objs.size) ⟨hp.push o, gg, dd, tk, os⟩ → wpAny (model prog w) A' (pyIter v) Q E ⟨hp, gg, dd, tk, os⟩ :=
      fun z => B.iter prog w _ _ ⟨hp, gg, dd, tk, os⟩ _ hstart z
    wp_walk using goIter
    refine wpAny_stack_any fun st => wpAny_pure ?_
    split
    · rename_i c _ _ _ _ _
      cases (c == Value.type "enumerate") <;> (wp_walk using goIter; exact ⟨_, rfl, hyp⟩)
    · wp_walk using goIter
      exact ⟨_, rfl, hyp⟩
theorem qEnumBegin {prog : Program} {w : World} {A : Around} {E : Value → Shared → Prop} {s : Shared} {v : Value} {o : Obj} {HH : Heap → Prop} {Q : Value → Shared → Prop} (B : Begins v o HH) (hb : HH s.heap)
    (done : ∀ h', IsEnum h' (s.heap.objs.size + 1) s.heap.objs.size 0 .none → h'.get? s.heap.objs.size = some o →
      (∀ b o, s.heap.get? b = some o → h'.get? b = some o) → Q (.ref (s.heap.objs.size + 1)) { s with heap := h' }) :
    wpAny (model prog w) A (call (.type "enumerate") [v]) Q E s := by
  refine callType_new F.called_enumerate (by decide) (F.typeCall_enumerate_1 _) (F.newCall_enumerate_1 _) (fun obj => F.args_object_init_2 obj _) F.entry_enumerate_new (qMeetsEnum B) ⟨hb, ?_⟩
  have size1 : (s.heap.push o).objs.size = s.heap.objs.size + 1 := Heap.size_push ..
  show _ ∧ _
  rw [size1]
  have isE : IsEnum ((s.heap.push o).push { cls := .type "enumerate", data := .fields #[.none, .bool false, .ref s.heap.objs.size, rawInt 0, .none, .none] }) (s.heap.objs.size + 1) s.heap.objs.size 0 .none := by
    have z := Heap.get?_push_size (s.heap.push o) (o := { cls := .type "enumerate", data := .fields #[.none, .bool false, .ref s.heap.objs.size, rawInt 0, .none, .none] }) rfl
    rw [size1] at z
    exact z
  exact ⟨⟨_, isE, rfl⟩, done _ isE (Heap.get?_push_of_some _ (Heap.get?_push_size _ B.free)) fun b o x => Heap.get?_push_of_some _ (Heap.get?_push_of_some _ x)⟩
theorem qEnumEnd {prog : Program} {w : World} {A : Around} {E : Value → Shared → Prop} {s : Shared} {e it t : Addr} {i : Nat} {k : Int} {items : Array Value} {old : Value} {Q : Option Value → Shared → Prop} (hh : A.handled = none)
    (isE : IsEnum s.heap e it k old) (iti : s.heap.IsTupleIter it t i) (ht : s.heap.IsTuple t items) (no : items[i]? = none)
    (done : ∀ h', Heap.ExtBut it s.heap h' → Q none { s with heap := h' }) : wpAny (model prog w) A (pyNext (.ref e)) Q E s := by
  have tyE : s.TypeIs (.ref e) "enumerate" := ⟨_, isE, rfl⟩
  unfold pyNext
  refine wpAny_bind (wpAny_attempt (wpAny_callSpecial?_slot (name := Str.ofString "__next__") tyE F.slot_enumerate_next ?_))
  refine wpAny_call_entry F.slot_enumerate_next tyE F.entry_enumerate_next ?_ (F.args_enumerate_next_1 _)
  show wpAny _ _ (field (.ref e) 2 >>= _) _ _ s
  refine wpAny_bind (wpAny_field isE rfl (x := .ref it) rfl (wpAny_bind ?_))
  refine wpAny_nextOf_tuple_end (show A.in1.handled = none from hh) iti ht no fun h' x eb ⟨ox, hox, cx⟩ => ?_
  refine wpAny_bind (wpAny_isInstance (T := "StopIteration") (b := true) ⟨ox, hox, cx⟩ isSubtype_stop ?_)
  exact wpAny_pure (done _ eb)
end PySem
namespace Q
open PySem PySem.Spec L2 RZ
/-- the turns of enumerate over a tuple: a new pair each -/
def Iet (K : PySem.W.Frag) (a : Addr) : It :=
  ⟨fun i H => ∃ (xs : List V) (x : V), SqT K H a xs ∧ xs[i]? = some x,
    fun i H v H' => ∃ T x, v = .ref T ∧ H T = none ∧ H' = upd H T (.tup [.int (i : Nat), x]) ∧ ∀ xs, SqT K H a xs → xs[i]? = some x,
    fun i H => ∃ xs : List V, SqT K H a xs ∧ xs.length ≤ i⟩
theorem turnT {P : Program} {w : World} {K : PySem.W.Frag} {elts : List Expr} {kk : Nat} {tpos : Pos} (a e it : Addr) :
    L2.Turn P w K (.Tuple elts kk tpos) (Iet K a) [e, it] e (fun i h => (∃ old, IsEnum h e it ((i : Nat) : Int) old) ∧ h.IsTupleIter it a i ∧ e ≠ it) where
  mem := List.mem_cons_self ..
  obj := fun i h st b hb => by
    obtain ⟨⟨old, isE⟩, ⟨oi, hoi, _, hdi⟩, _⟩ := st
    rcases List.mem_cons.mp hb with z | z
    · exact ⟨_, by rw [z]; exact isE, fun v q => by cases q⟩
    · have z2 : b = it := by simpa using z
      exact ⟨oi, by rw [z2]; exact hoi, fun v q => by rw [hdi] at q; cases q⟩
  keep := fun i h h' ⟨⟨old, isE⟩, iti, ne⟩ k => ⟨⟨old, k e (by simp) _ isE⟩, iti.at fun o q => k it (by simp) o q, ne⟩
  item := by
    intro X hP hw hK hc i pins s σ H E I hf st hg
    subst hP hw hK
    obtain ⟨⟨old, isE⟩, iti, ne⟩ := st
    obtain ⟨xs, x, hq, hx⟩ := hg
    obtain ⟨its, rv, p, hz⟩ := I.tuple hq
    obtain ⟨u, hu, ru⟩ := rv.get hx
    have hT : s.heap.IsTuple a its.toArray := p
    have sz_e : e < s.heap.objs.size := Heap.lt_size isE
    have sz_i : it < s.heap.objs.size := by obtain ⟨_, q, _⟩ := iti; exact Heap.lt_size q
    have a_it : a ≠ it := fun z => by
      obtain ⟨o1, e1, c1, _⟩ := iti
      obtain ⟨o2, e2, c2, _⟩ := hT
      rw [z, e1] at e2
      cases e2
      rw [c1] at c2
      injection c2 with c3
      exact absurd c3 (by decide)
    have a_e : e ≠ a := fun z => by
      obtain ⟨o2, e2, c2, _⟩ := hT
      rw [← z, isE] at e2
      cases e2
      injection c2 with c3
      exact absurd c3 (by decide)
    have D := Draws.tuple (prog := X.prog) (w := X.w) (A := X.A.in1) (show X.A.in1.handled = none from I.ok.hd hc) it a a_it its.toArray
    have ilt : i < its.toArray.size := by
      have z := List.getElem?_eq_some_iff.mp hu
      rw [List.size_toArray]
      exact z.1
    refine wpAny_pyNext_enum_itemD D isE ⟨iti, hT⟩ ilt ne (by simp [a_e, ne]) fun y h' tk hy ho st' hTup hsz hk => ?_
    have ey : y = u := by
      have z : its.toArray[i]? = some u := by simpa using hu
      rw [z] at hy
      exact (Option.some.inj hy).symm
    subst ey
    refine ⟨_, rfl, wpAny_letOwnedTupleGo_enum (s := { s with heap := h', toks := tk + 1 }) ho fun h'' he' sb => ?_⟩
    have hT2 : h''.get? s.heap.objs.size = some { cls := .type "tuple", data := .seq #[.int i tk, y] } := (sb.2 _ (Nat.ne_of_gt sz_e)).trans hTup
    have new : ObjOk X.prog X.w (upd H s.heap.objs.size (.tup [.int (i : Nat), x])) h'' s.heap.objs.size (.tup [.int (i : Nat), x]) :=
      ⟨by show 2 ≤ sizeLine; decide, [.int i tk, y], .cons ⟨_, rfl⟩ (.cons ru .nil), ⟨_, hT2, rfl, _, rfl⟩⟩
    have I1 : Inv X pins σ (upd H s.heap.objs.size (.tup [.int (i : Nat), x])) { s with heap := h'', toks := tk + 1 } :=
      I.turnedNew (ch := [e, it]) (fun b ob hb q => (sb.2 b (fun z => hb (by simp [z]))).trans (hk b ob (fun z => hb (by simp [z])) (fun z => hb (by simp [z])) q)) hf (Nat.le_refl _) new
    refine ⟨.ref s.heap.objs.size, _, I1, rfl, ⟨_, x, rfl, I.hok.fresh (Nat.le_refl _), rfl, fun ys hy => by rw [I.tuple_inj hy hq]; exact hx⟩,
      ⟨⟨y, ?_⟩, st'.1.at fun o q => (sb.2 it (Ne.symm ne)).trans q, ne⟩, fun b hb => ?_⟩
    · rw [show ((i + 1 : Nat) : Int) = (i : Int) + 1 from by omega]
      exact he'
    · have lt : b < s.heap.objs.size := by
        rcases List.mem_cons.mp hb with z | z
        · rw [z]; exact sz_e
        · rw [show b = it from by simpa using z]; exact sz_i
      rw [upd_ne (Nat.ne_of_lt lt)]
      exact (hf b hb).1
  done := by
    intro X hP hw hK hc i pins s σ H E I hf st hg
    subst hP hw hK
    obtain ⟨⟨old, isE⟩, iti, ne⟩ := st
    obtain ⟨xs, hq, hx⟩ := hg
    obtain ⟨its, rv, p, hz⟩ := I.tuple hq
    obtain ⟨f0, f1, f2, f3, f4, f5⟩ := hf it (by simp)
    have hT : s.heap.IsTuple a its.toArray := p
    have none_i : its.toArray[i]? = none := by
      have z := rv.length
      rw [List.getElem?_toArray]
      exact List.getElem?_eq_none_iff.mpr (by omega)
    exact qEnumEnd (I.ok.hd hc) isE iti hT none_i fun h' eb => ⟨rfl, I.turned (t' := s.toks) (fun b o hb q => eb b o hb q) f0 f1 f3 f4 f5⟩
  self := fun A i s Q E ⟨⟨_, isE⟩, _⟩ hQ => wpAny_pyIter_enum isE hQ
/-- enumerate over a list or a tuple -/
def iEn2 (K : PySem.W.Frag) (ta : TA) : TI := fun σ H R => ta σ H fun vs H1 => ∃ a xs, vs = [.ref a] ∧ ((SqL K H1 a xs ∧ R (Ite K a) H1) ∨ (SqT K H1 a xs ∧ R (Iet K a) H1))
theorem pi_en2 {X : Cx} {e : Expr} {ta : TA} {p pos tpos : Pos} {elts : List Expr} {kk : Nat} (hg : Gl X "enumerate") (hm : X.mg "enumerate" = none) (ha : PA X [e] ta) (hs : starEach [e] X.env = [(false, eval e X.env)] := by rfl) :
    PI X (.Tuple elts kk tpos) (.Call (.Name "enumerate" p) [e] [] pos) (iEn2 X.K ta) := by
  refine ⟨fun pins s σ H R I h => ?_⟩
  refine PyProof.Rows.Call_ (ld_blt I hg hm PyProof.Rows.boot_enumerate (PyProof.Rows.callWith_type1 (thn (ha.run pos pins s σ H _ I h) fun us s1 ⟨vs, H1, I1, r1, q1⟩ => ?_) hs rfl))
  obtain ⟨a, xs, ex, hq⟩ := q1
  subst ex
  cases r1 with
  | cons r rr =>
    cases rr
    cases r
    have places : ∀ b ∈ [s1.heap.objs.size + 1, s1.heap.objs.size], s1.heap.objs.size ≤ b := fun b hb => by
      rcases List.mem_cons.mp hb with z | z
      · omega
      · have z2 : b = s1.heap.objs.size := by simpa using z
        omega
    rcases hq with ⟨hq, q⟩ | ⟨hq, q⟩
    · obtain ⟨its, rv, p', hz⟩ := I1.list hq
      refine call_enumerate_list p'.isList fun h' he hit hsz hk => wpAny_pyIter_enum he ?_
      exact ⟨s1.heap.objs.size + 1, [s1.heap.objs.size + 1, s1.heap.objs.size], _, _, H1, rfl, I1.kept (t' := s1.toks) hk, turn_enum a (s1.heap.objs.size + 1) s1.heap.objs.size,
        ⟨⟨.none, he⟩, hit, Nat.succ_ne_self _⟩, fun b hb => I1.fpOk (places b hb) (I1.hok.fresh (places b hb)), q⟩
    · obtain ⟨its, rv, p', hz⟩ := I1.tuple hq
      have hT : s1.heap.IsTuple a its.toArray := p'
      refine qEnumBegin (begins_tuple a its.toArray) hT fun h' he hit hk => wpAny_pyIter_enum he ?_
      exact ⟨s1.heap.objs.size + 1, [s1.heap.objs.size + 1, s1.heap.objs.size], _, _, H1, rfl, I1.kept (t' := s1.toks) hk, turnT a (s1.heap.objs.size + 1) s1.heap.objs.size,
        ⟨⟨.none, he⟩, ⟨_, hit, rfl, rfl⟩, Nat.succ_ne_self _⟩, fun b hb => I1.fpOk (places b hb) (I1.hok.fresh (places b hb)), q⟩
theorem k_en2 {X : Cx} {K : PySem.W.Frag} {e : Expr} {ta : TA} {p pos tpos : Pos} {elts : List Expr} {kk : Nat} (ek : X.K = K) (hg : Gl X "enumerate") (hm : X.mg "enumerate" = none) (ha : PA X [e] ta) (hs : starEach [e] X.env = [(false, eval e X.env)] := by rfl) :
    PI X (.Tuple elts kk tpos) (.Call (.Name "enumerate" p) [e] [] pos) (iEn2 K ta) := by subst ek; exact pi_en2 hg hm ha hs
section
variable {K : PySem.W.Frag} {g : TG} {tt : TT} {te : TE} {vs : List Nat} {σ σ0 : L2.St} {H : Hp} {Q : VK} {a : Addr} {R : It → Hp → Prop} {N : L2.St → Hp → Prop}
def En2R (K : PySem.W.Frag) (vs : List V) (R : It → Hp → Prop) (H : Hp) : Prop := ∃ a xs, vs = [.ref a] ∧ ((SqL K H a xs ∧ R (Ite K a) H) ∨ (SqT K H a xs ∧ R (Iet K a) H))
theorem g_iEn2 {ta : TA} (h : ta σ H fun ws H1 => En2R K ws R H1) : iEn2 K ta σ H R := h
theorem g_en2L {xs : List V} (c : SqL K H a xs) (h : R (Ite K a) H) : En2R K [.ref a] R H := ⟨a, xs, rfl, .inl ⟨c, h⟩⟩
theorem g_en2T {xs : List V} (c : SqT K H a xs) (h : R (Iet K a) H) : En2R K [.ref a] R H := ⟨a, xs, rfl, .inr ⟨c, h⟩⟩
def En1R (K : PySem.W.Frag) (vs : List V) (R : It → Hp → Prop) (H : Hp) : Prop := ∃ a xs, vs = [.ref a] ∧ SqL K H a xs ∧ R (Ite K a) H
theorem g_iEnum {ta : TA} (h : ta σ H fun ws H1 => En1R K ws R H1) : iEnum K ta σ H R := h
theorem g_en1 {xs : List V} (c : SqL K H a xs) (h : R (Ite K a) H) : En1R K [.ref a] R H := ⟨a, xs, rfl, c, h⟩
theorem g_gTup {n : Nat} {t : TGs} {p : Addr} {xs : List V} (c : SqT K H p xs) (e : xs.length = n) (h : t xs σ H N) : gTup K n t (.ref p) σ H N := ⟨p, xs, rfl, c, e, h⟩
theorem g_gCons {t : TG} {u : TGs} {v : V} {r : List V} (h : t v σ H fun σ' H' => u r σ' H' N) : gCons t u (v :: r) σ H N := ⟨v, r, rfl, h⟩
theorem g_gNil (h : N σ H) : gNil [] σ H N := ⟨rfl, h⟩
theorem lcE {xs : List V} (hw : wipe σ vs = σ0) (h : ∀ D, H D = none → ∃ Pv : Nat → Hp → Prop, Pv 0 (upd H D (.lst [])) ∧ (∀ i H', i ≤ xs.length → Pv i H' → SqL K H' a xs) ∧
    (∀ (i : Nat) (x : V) (T : Addr) (H' : Hp), xs[i]? = some x → Pv i H' → H' T = none → Turn1 g tt te vs σ0 D (.ref T) (upd H' T (.tup [.int (i : Nat), x])) (Pv (i + 1))) ∧
    ∀ H', Pv xs.length H' → Q (.ref D) H') : LcG (Ite K a) g tt te vs σ Q H := by
  subst hw
  intro D hD
  obtain ⟨Pv, h0, hl, hs, hd⟩ := h D hD
  refine ⟨fun i m H => m = xs.length - i ∧ i ≤ xs.length ∧ Pv i H, ⟨xs.length, by simp, Nat.zero_le _, h0⟩, ?_⟩
  rintro i m H ⟨rfl, hi, p⟩
  have q := hl i H hi p
  rcases Nat.lt_or_ge i xs.length with hlt | hge
  · exact .inr ⟨⟨xs, xs[i], q, by simp [hlt]⟩, Pv (i + 1), fun H' p' => ⟨xs.length - (i + 1), by omega, rfl, hlt, p'⟩, fun v H' ⟨T, x, e1, e2, e3, e4⟩ => by subst e1 e3; exact hs i x T _ (e4 xs q) p e2⟩
  · have e : i = xs.length := by omega
    subst e
    exact .inl ⟨⟨xs, q, Nat.le_refl _⟩, hd H p⟩
theorem lcET {xs : List V} (hw : wipe σ vs = σ0) (h : ∀ D, H D = none → ∃ Pv : Nat → Hp → Prop, Pv 0 (upd H D (.lst [])) ∧ (∀ i H', i ≤ xs.length → Pv i H' → SqT K H' a xs) ∧
    (∀ (i : Nat) (x : V) (T : Addr) (H' : Hp), xs[i]? = some x → Pv i H' → H' T = none → Turn1 g tt te vs σ0 D (.ref T) (upd H' T (.tup [.int (i : Nat), x])) (Pv (i + 1))) ∧
    ∀ H', Pv xs.length H' → Q (.ref D) H') : LcG (Iet K a) g tt te vs σ Q H := by
  subst hw
  intro D hD
  obtain ⟨Pv, h0, hl, hs, hd⟩ := h D hD
  refine ⟨fun i m H => m = xs.length - i ∧ i ≤ xs.length ∧ Pv i H, ⟨xs.length, by simp, Nat.zero_le _, h0⟩, ?_⟩
  rintro i m H ⟨rfl, hi, p⟩
  have q := hl i H hi p
  rcases Nat.lt_or_ge i xs.length with hlt | hge
  · exact .inr ⟨⟨xs, xs[i], q, by simp [hlt]⟩, Pv (i + 1), fun H' p' => ⟨xs.length - (i + 1), by omega, rfl, hlt, p'⟩, fun v H' ⟨T, x, e1, e2, e3, e4⟩ => by subst e1 e3; exact hs i x T _ (e4 xs q) p e2⟩
  · have e : i = xs.length := by omega
    subst e
    exact .inl ⟨⟨xs, q, Nat.le_refl _⟩, hd H p⟩
def ZipR (K : PySem.W.Frag) (vs : List V) (R : It → Hp → Prop) (H : Hp) : Prop := ∃ a b xs ys, vs = [.ref a, .ref b] ∧ ((SqL K H a xs ∧ SqL K H b ys ∧ R (Itz K a b) H) ∨ (SqT K H a xs ∧ SqT K H b ys ∧ R (ItzT K a b) H))
theorem g_iZipA {ta : TA} (h : ta σ H fun ws H1 => ZipR K ws R H1) : iZipA K ta σ H R := h
theorem g_zipL {b : Addr} {xs ys : List V} (c : SqL K H a xs) (d : SqL K H b ys) (h : R (Itz K a b) H) : ZipR K [.ref a, .ref b] R H := ⟨a, b, xs, ys, rfl, .inl ⟨c, d, h⟩⟩
theorem g_zipT {b : Addr} {xs ys : List V} (c : SqT K H a xs) (d : SqT K H b ys) (h : R (ItzT K a b) H) : ZipR K [.ref a, .ref b] R H := ⟨a, b, xs, ys, rfl, .inr ⟨c, d, h⟩⟩
theorem lcZ {b : Addr} {xs ys : List V} (hl : xs.length = ys.length) (hw : wipe σ vs = σ0) (h : ∀ D, H D = none → ∃ Pv : Nat → Hp → Prop, Pv 0 (upd H D (.lst [])) ∧ (∀ i H', Pv i H' → SqL K H' a xs ∧ SqL K H' b ys) ∧
    (∀ (i : Nat) (x y : V) (T : Addr) (H' : Hp), xs[i]? = some x → ys[i]? = some y → Pv i H' → H' T = none → Turn1 g tt te vs σ0 D (.ref T) (upd H' T (.tup [x, y])) (Pv (i + 1))) ∧
    ∀ H', Pv xs.length H' → Q (.ref D) H') : LcG (Itz K a b) g tt te vs σ Q H := by
  subst hw
  intro D hD
  obtain ⟨Pv, h0, hq, hs, hd⟩ := h D hD
  refine ⟨fun i m H => m = xs.length - i ∧ i ≤ xs.length ∧ Pv i H, ⟨xs.length, by simp, Nat.zero_le _, h0⟩, ?_⟩
  rintro i m H ⟨rfl, hi, p⟩
  obtain ⟨q1, q2⟩ := hq i H p
  rcases Nat.lt_or_ge i xs.length with hlt | hge
  · exact .inr ⟨⟨xs, ys, xs[i], ys[i]'(by omega), q1, q2, by simp [hlt], by simp⟩, Pv (i + 1), fun H' p' => ⟨xs.length - (i + 1), by omega, rfl, hlt, p'⟩,
      fun v H' ⟨T, x, y, e1, e2, e3, e4, e5⟩ => by subst e1 e3; exact hs i x y T _ (e4 xs q1) (e5 ys q2) p e2⟩
  · have e : i = xs.length := by omega
    subst e
    exact .inl ⟨⟨xs, ys, q1, q2, .inl (Nat.le_refl _)⟩, hd H p⟩
theorem lcZT {b : Addr} {xs ys : List V} (hl : xs.length = ys.length) (hw : wipe σ vs = σ0) (h : ∀ D, H D = none → ∃ Pv : Nat → Hp → Prop, Pv 0 (upd H D (.lst [])) ∧ (∀ i H', Pv i H' → SqT K H' a xs ∧ SqT K H' b ys) ∧
    (∀ (i : Nat) (x y : V) (T : Addr) (H' : Hp), xs[i]? = some x → ys[i]? = some y → Pv i H' → H' T = none → Turn1 g tt te vs σ0 D (.ref T) (upd H' T (.tup [x, y])) (Pv (i + 1))) ∧
    ∀ H', Pv xs.length H' → Q (.ref D) H') : LcG (ItzT K a b) g tt te vs σ Q H := by
  subst hw
  intro D hD
  obtain ⟨Pv, h0, hq, hs, hd⟩ := h D hD
  refine ⟨fun i m H => m = xs.length - i ∧ i ≤ xs.length ∧ Pv i H, ⟨xs.length, by simp, Nat.zero_le _, h0⟩, ?_⟩
  rintro i m H ⟨rfl, hi, p⟩
  obtain ⟨q1, q2⟩ := hq i H p
  rcases Nat.lt_or_ge i xs.length with hlt | hge
  · exact .inr ⟨⟨xs, ys, xs[i], ys[i]'(by omega), q1, q2, by simp [hlt], by simp⟩, Pv (i + 1), fun H' p' => ⟨xs.length - (i + 1), by omega, rfl, hlt, p'⟩,
      fun v H' ⟨T, x, y, e1, e2, e3, e4, e5⟩ => by subst e1 e3; exact hs i x y T _ (e4 xs q1) (e5 ys q2) p e2⟩
  · have e : i = xs.length := by omega
    subst e
    exact .inl ⟨⟨xs, ys, q1, q2, .inl (Nat.le_refl _)⟩, hd H p⟩
end
theorem k_zip {X : Cx} {K : PySem.W.Frag} {e e2 : Expr} {ta : TA} {p pos tpos : Pos} {elts : List Expr} {kk : Nat} (ek : X.K = K) (hg : Gl X "zip") (hm : X.mg "zip" = none) (ha : PA X [e, e2] ta)
    (hs : starEach [e, e2] X.env = (false, eval e X.env) :: starEach [e2] X.env := by rfl) (hl : (backTo pos (starEach [e2] X.env)).any (·.1) = false := by rfl) :
    PI X (.Tuple elts kk tpos) (.Call (.Name "zip" p) [e, e2] [] pos) (iZipA K ta) := by subst ek; exact pi_zipA hg hm ha hs hl
end Q

set_option Elab.async false
set_option linter.all false
set_option maxRecDepth 100000
set_option maxHeartbeats 2000000
/-! zip of lists and tuples, mixed -/
namespace Q
open PySem PySem.Spec L2 RZ
/-- a list (true) or a tuple (false) -/
def SqB (k : Bool) (K : PySem.W.Frag) (H : Hp) (a : Addr) (xs : List V) : Prop := if k = true then SqL K H a xs else SqT K H a xs
def IsB (k : Bool) (h : Heap) (a : Addr) (its : Array Value) : Prop := if k = true then h.IsList a its else h.IsTuple a its
def ItB (k : Bool) (h : Heap) (it a : Addr) (i : Nat) : Prop := if k = true then h.IsListIter it a i else h.IsTupleIter it a i
section
variable {X : Cx} {pins : List (Addr × Obj)} {σ : L2.St} {H : Hp} {s : Shared} {a it : Addr} {xs ys : List V} {k : Bool} {i : Nat} {h h' : Heap}
theorem sqB_of (I : Inv X pins σ H s) (c : SqB k X.K H a xs) : ∃ its : List Value, Vals xs its ∧ IsB k s.heap a its.toArray := by
  cases k
  · obtain ⟨its, r, p, _⟩ := I.tuple (show SqT X.K H a xs from c)
    exact ⟨its, r, show s.heap.IsTuple a its.toArray from p⟩
  · obtain ⟨its, r, p, _⟩ := I.list (show SqL X.K H a xs from c)
    exact ⟨its, r, show s.heap.IsList a its.toArray from p.isList⟩
theorem sqB_inj (I : Inv X pins σ H s) (c : SqB k X.K H a xs) (d : SqB k X.K H a ys) : xs = ys := by
  cases k
  · exact I.tuple_inj (show SqT X.K H a xs from c) d
  · exact I.list_inj (show SqL X.K H a xs from c) d
theorem ItB.keep (c : ItB k h it a i) (q : ∀ o, h.get? it = some o → h'.get? it = some o) : ItB k h' it a i := by
  cases k
  · exact Heap.IsTupleIter.at (show h.IsTupleIter it a i from c) q
  · exact Heap.IsListIter.at (show h.IsListIter it a i from c) q
theorem ItB.obj (c : ItB k h it a i) : ∃ o, h.get? it = some o ∧ ∀ v, o.data ≠ .cell v := by
  cases k
  · obtain ⟨o, e, _, d⟩ := (show h.IsTupleIter it a i from c)
    exact ⟨o, e, fun v z => by rw [d] at z; cases z⟩
  · obtain ⟨o, e, _, d⟩ := (show h.IsListIter it a i from c)
    exact ⟨o, e, fun v z => by rw [d] at z; cases z⟩
theorem IsB.lt {its : Array Value} (c : IsB k h a its) : a < h.objs.size := by
  cases k
  · obtain ⟨o, e, _⟩ := (show h.IsTuple a its from c)
    exact Heap.lt_size e
  · obtain ⟨o, e, _⟩ := (show h.IsList a its from c)
    exact Heap.lt_size e
theorem drawsB {P : Program} {w : World} {A : Around} (hh : A.handled = none) (k : Bool) (it l : Addr) (ne : l ≠ it) (items : Array Value) :
    Draws P w A it [it, l] items.size (fun i v => items[i]? = some v) (fun i h => ItB k h it l i ∧ IsB k h l items) := by
  cases k
  · exact Draws.tuple hh it l ne items
  · exact Draws.list hh it l ne items
def oB (k : Bool) (l : Addr) : Obj := { cls := .type (if k = true then "list_iterator" else "tuple_iterator"), data := .fields #[.ref l, .int 0 0] }
theorem beginsB (k : Bool) (l : Addr) (items : Array Value) : Begins (.ref l) (oB k l) fun h => IsB k h l items := by
  cases k
  · exact begins_tuple l items
  · exact begins_list l items
theorem oB_it {l : Addr} (e : h.get? it = some (oB k l)) : ItB k h it l 0 := by
  cases k
  · exact ⟨_, e, rfl, rfl⟩
  · exact ⟨_, e, rfl, rfl⟩
end
/-- the turns of zip over a and b: a new pair each -/
def Itm (K : PySem.W.Frag) (k l : Bool) (a b : Addr) : It :=
  ⟨fun i H => ∃ (xs ys : List V) (x y : V), SqB k K H a xs ∧ SqB l K H b ys ∧ xs[i]? = some x ∧ ys[i]? = some y,
    fun i H v H' => ∃ T x y, v = .ref T ∧ H T = none ∧ H' = upd H T (.tup [x, y]) ∧ (∀ xs, SqB k K H a xs → xs[i]? = some x) ∧ ∀ ys, SqB l K H b ys → ys[i]? = some y,
    fun i H => ∃ xs ys : List V, SqB k K H a xs ∧ SqB l K H b ys ∧ i ≤ xs.length ∧ i ≤ ys.length ∧ (i = xs.length ∨ i = ys.length)⟩
theorem turnM {P : Program} {w : World} {K : PySem.W.Frag} {elts : List Expr} {kk : Nat} {tpos : Pos} {k l : Bool} {a b z TI TO i1 i2 : Addr} (S : ZipSep2 z TI TO i1 i2 [i1, a] [i2, b]) :
    L2.Turn P w K (.Tuple elts kk tpos) (Itm K k l a b) [z, TI, TO, i1, i2] z
      (fun i h => IsZip h z TI TO .none ∧ IsTupOf2 h TI (.ref i1) (.ref i2) ∧ (∃ x y, IsTupOf2 h TO x y) ∧ ItB k h i1 a i ∧ ItB l h i2 b i) where
  mem := List.mem_cons_self ..
  obj := fun i h ⟨isZ, hTI, ⟨x, y, hTO⟩, t1, t2⟩ c hc => by
    have five : c = z ∨ c = TI ∨ c = TO ∨ c = i1 ∨ c = i2 := by simpa using hc
    rcases five with e | e | e | e | e <;> rw [e]
    · exact ⟨_, isZ, fun v q => by cases q⟩
    · exact ⟨_, hTI, fun v q => by cases q⟩
    · exact ⟨_, hTO, fun v q => by cases q⟩
    · exact t1.obj
    · exact t2.obj
  keep := fun i h h' ⟨isZ, hTI, ⟨x, y, hTO⟩, t1, t2⟩ kp =>
    ⟨kp z (by simp) _ isZ, kp TI (by simp) _ hTI, ⟨x, y, kp TO (by simp) _ hTO⟩, t1.keep fun o q => kp i1 (by simp) o q, t2.keep fun o q => kp i2 (by simp) o q⟩
  item := by
    intro X hP hw hK hc i pins s σ H E I hf ⟨isZ, hTI, ⟨x0, y0, hTO⟩, t1, t2⟩ ⟨xs, ys, x, y, cx, cy, hx, hy⟩
    subst hP hw hK
    obtain ⟨us, ru, pu⟩ := sqB_of I cx
    obtain ⟨vs, rv, pv⟩ := sqB_of I cy
    obtain ⟨u, hu, eu⟩ := ru.get hx
    obtain ⟨v, hv, ev⟩ := rv.get hy
    have hd : X.A.in1.handled = none := I.ok.hd hc
    have n1 : a ≠ i1 := fun e => by
      obtain ⟨o, e1, _⟩ := t1.obj
      have := S.sep1_2
      cases k
      · obtain ⟨o1, g1, c1, _⟩ := (show s.heap.IsTupleIter i1 a i from t1)
        obtain ⟨o2, g2, c2, _⟩ := (show s.heap.IsTuple a us.toArray from pu)
        rw [e, g1] at g2; cases g2; rw [c1] at c2; injection c2 with c3; exact absurd c3 (by decide)
      · obtain ⟨o1, g1, c1, _⟩ := (show s.heap.IsListIter i1 a i from t1)
        obtain ⟨o2, g2, c2, _⟩ := (show s.heap.IsList a us.toArray from pu)
        rw [e, g1] at g2; cases g2; rw [c1] at c2; injection c2 with c3; exact absurd c3 (by decide)
    have n2 : b ≠ i2 := fun e => by
      cases l
      · obtain ⟨o1, g1, c1, _⟩ := (show s.heap.IsTupleIter i2 b i from t2)
        obtain ⟨o2, g2, c2, _⟩ := (show s.heap.IsTuple b vs.toArray from pv)
        rw [e, g1] at g2; cases g2; rw [c1] at c2; injection c2 with c3; exact absurd c3 (by decide)
      · obtain ⟨o1, g1, c1, _⟩ := (show s.heap.IsListIter i2 b i from t2)
        obtain ⟨o2, g2, c2, _⟩ := (show s.heap.IsList b vs.toArray from pv)
        rw [e, g1] at g2; cases g2; rw [c1] at c2; injection c2 with c3; exact absurd c3 (by decide)
    have D1 := drawsB (P := X.prog) (w := X.w) hd k i1 a n1 us.toArray
    have D2 := drawsB (P := X.prog) (w := X.w) hd l i2 b n2 vs.toArray
    have lt1 : i < us.toArray.size := by rw [List.size_toArray]; exact (List.getElem?_eq_some_iff.mp hu).1
    have lt2 : i < vs.toArray.size := by rw [List.size_toArray]; exact (List.getElem?_eq_some_iff.mp hv).1
    have ltz : z < s.heap.objs.size := Heap.lt_size isZ
    refine wpAny_pyNext_zipD2_item S D1 D2 isZ hTI hTO ⟨t1, pu⟩ ⟨t2, pv⟩ lt1 lt2 fun p q h' tk hp hq z' TO' s1' s2' hT hsz hk => ?_
    have ep : u = p := by
      have e : us.toArray[i]? = some u := by simpa using hu
      rw [show us.toArray[i]? = some p from hp] at e
      exact (Option.some.inj e).symm
    have eq : v = q := by
      have e : vs.toArray[i]? = some v := by simpa using hv
      rw [show vs.toArray[i]? = some q from hq] at e
      exact (Option.some.inj e).symm
    subst ep eq
    refine ⟨_, rfl, wpAny_letOwnedTupleGo_zip (s := { s with heap := h', toks := tk }) z' fun h'' z'' sb => ?_⟩
    have pairAt : h''.get? s.heap.objs.size = some { cls := .type "tuple", data := .seq #[u, v] } := (sb.2 _ (Nat.ne_of_gt ltz)).trans hT
    have new : ObjOk X.prog X.w (upd H s.heap.objs.size (.tup [x, y])) h'' s.heap.objs.size (.tup [x, y]) :=
      ⟨by show 2 ≤ sizeLine; decide, [u, v], .cons eu (.cons ev .nil), ⟨_, pairAt, rfl, _, rfl⟩⟩
    have stay : ∀ c o, c ∉ [z, TI, TO, i1, i2] → s.heap.get? c = some o → h''.get? c = some o := fun c o hc e => by
      simp only [List.mem_cons, List.not_mem_nil, or_false, not_or] at hc
      exact (sb.2 c hc.1).trans (hk c o hc.1 hc.2.2.1 hc.2.2.2.1 hc.2.2.2.2 e)
    have I1 : Inv X pins σ (upd H s.heap.objs.size (.tup [x, y])) { s with heap := h'', toks := tk } := I.turnedNew (ch := [z, TI, TO, i1, i2]) stay hf (Nat.le_refl _) new
    refine ⟨.ref s.heap.objs.size, _, I1, rfl, ⟨_, x, y, rfl, I.hok.fresh (Nat.le_refl _), rfl, fun l hl => by rw [sqB_inj I hl cx]; exact hx, fun l hl => by rw [sqB_inj I hl cy]; exact hy⟩,
      ⟨z'', ?_, ⟨u, v, ?_⟩, ?_, ?_⟩, fun c hcm => ?_⟩
    · exact (sb.2 _ S.TIz).trans (hk _ _ S.TIz S.TITO S.TIi1 S.TIi2 hTI)
    · exact (sb.2 _ S.TOz).trans TO'
    · exact s1'.1.keep fun o e => (sb.2 _ S.zi1.symm).trans e
    · exact s2'.1.keep fun o e => (sb.2 _ S.zi2.symm).trans e
    · have five : c = z ∨ c = TI ∨ c = TO ∨ c = i1 ∨ c = i2 := by simpa using hcm
      have lt : c < s.heap.objs.size := by
        rcases five with e | e | e | e | e <;> rw [e]
        · exact ltz
        · exact Heap.lt_size hTI
        · exact Heap.lt_size hTO
        · obtain ⟨o, e1, _⟩ := t1.obj; exact Heap.lt_size e1
        · obtain ⟨o, e1, _⟩ := t2.obj; exact Heap.lt_size e1
      rw [upd_ne (Nat.ne_of_lt lt)]
      exact (hf c hcm).1
  done := by
    intro X hP hw hK hc i pins s σ H E I hf ⟨isZ, hTI, ⟨x0, y0, hTO⟩, t1, t2⟩ ⟨xs, ys, cx, cy, le1, le2, hend⟩
    subst hP hw hK
    obtain ⟨us, ru, pu⟩ := sqB_of I cx
    obtain ⟨vs, rv, pv⟩ := sqB_of I cy
    have l1 := ru.length
    have l2 := rv.length
    have hd : X.A.in1.handled = none := I.ok.hd hc
    have n1 : a ≠ i1 := fun e => by
      cases k
      · obtain ⟨o1, g1, c1, _⟩ := (show s.heap.IsTupleIter i1 a i from t1)
        obtain ⟨o2, g2, c2, _⟩ := (show s.heap.IsTuple a us.toArray from pu)
        rw [e, g1] at g2; cases g2; rw [c1] at c2; injection c2 with c3; exact absurd c3 (by decide)
      · obtain ⟨o1, g1, c1, _⟩ := (show s.heap.IsListIter i1 a i from t1)
        obtain ⟨o2, g2, c2, _⟩ := (show s.heap.IsList a us.toArray from pu)
        rw [e, g1] at g2; cases g2; rw [c1] at c2; injection c2 with c3; exact absurd c3 (by decide)
    have n2 : b ≠ i2 := fun e => by
      cases l
      · obtain ⟨o1, g1, c1, _⟩ := (show s.heap.IsTupleIter i2 b i from t2)
        obtain ⟨o2, g2, c2, _⟩ := (show s.heap.IsTuple b vs.toArray from pv)
        rw [e, g1] at g2; cases g2; rw [c1] at c2; injection c2 with c3; exact absurd c3 (by decide)
      · obtain ⟨o1, g1, c1, _⟩ := (show s.heap.IsListIter i2 b i from t2)
        obtain ⟨o2, g2, c2, _⟩ := (show s.heap.IsList b vs.toArray from pv)
        rw [e, g1] at g2; cases g2; rw [c1] at c2; injection c2 with c3; exact absurd c3 (by decide)
    have D1 := drawsB (P := X.prog) (w := X.w) hd k i1 a n1 us.toArray
    have D2 := drawsB (P := X.prog) (w := X.w) hd l i2 b n2 vs.toArray
    refine wpAny_pyNext_zipD2_end S D1 D2 isZ hTI hTO ⟨t1, pu⟩ ⟨t2, pv⟩ (by rw [List.size_toArray]; omega) (by rw [List.size_toArray]; omega) (by rw [List.size_toArray, List.size_toArray]; omega) fun h' tk hk => ⟨rfl, ?_⟩
    refine I.turnedL (t' := tk) (ch := [z, TI, TO, i1, i2]) (fun c o hc e => ?_) hf
    simp only [List.mem_cons, List.not_mem_nil, or_false, not_or] at hc
    exact hk c o hc.1 hc.2.2.1 hc.2.2.2.1 hc.2.2.2.2 e
  self := fun A i s Q E st go => wpAny_pyIter_zip st.1 go
/-- zip of two, each a list or a tuple -/
def iZm (K : PySem.W.Frag) (ta : TA) : TI := fun σ H R => ta σ H fun vs H1 => ∃ (k l : Bool) (a b : Addr) (xs ys : List V), vs = [.ref a, .ref b] ∧ SqB k K H1 a xs ∧ SqB l K H1 b ys ∧ R (Itm K k l a b) H1
theorem pi_zm {X : Cx} {e e2 : Expr} {ta : TA} {p pos tpos : Pos} {elts : List Expr} {kk : Nat} (hg : Gl X "zip") (hm : X.mg "zip" = none) (ha : PA X [e, e2] ta)
    (st : starEach [e, e2] X.env = (false, eval e X.env) :: starEach [e2] X.env := by rfl) (nost : (backTo pos (starEach [e2] X.env)).any (·.1) = false := by rfl) :
    PI X (.Tuple elts kk tpos) (.Call (.Name "zip" p) [e, e2] [] pos) (iZm X.K ta) := by
  refine ⟨fun pins s σ H R I h => ?_⟩
  refine PyProof.Rows.Call_ (ld_blt I hg hm PyProof.Rows.boot_zip (PyProof.Rows.callWith_type1 (thn (ha.run pos pins s σ H _ I h) fun us s1 ⟨vs, H1, I1, r1, q1⟩ => ?_) st nost))
  obtain ⟨k, l, a, b, xs, ys, ex, cx, cy, q1⟩ := q1
  subst ex
  cases r1 with
  | cons r rr =>
    cases rr with
    | cons r' rr =>
      cases rr
      cases r
      cases r'
      obtain ⟨u, ru, pu⟩ := sqB_of I1 cx
      obtain ⟨v, rv, pv⟩ := sqB_of I1 cy
      have apart : ∀ c ∈ [s1.heap.objs.size + 4, s1.heap.objs.size + 2, s1.heap.objs.size + 3, s1.heap.objs.size, s1.heap.objs.size + 1], FpOk X pins H1 c := fun c hc => by
        have five : c = s1.heap.objs.size + 4 ∨ c = s1.heap.objs.size + 2 ∨ c = s1.heap.objs.size + 3 ∨ c = s1.heap.objs.size ∨ c = s1.heap.objs.size + 1 := by simpa using hc
        have le : s1.heap.objs.size ≤ c := by
          rcases five with z | z | z | z | z
          · rw [z]; exact Nat.le_add_right ..
          · rw [z]; exact Nat.le_add_right ..
          · rw [z]; exact Nat.le_add_right ..
          · rw [z]; exact Nat.le_refl _
          · rw [z]; exact Nat.le_add_right ..
        exact I1.fpOk le (I1.hok.fresh le)
      refine zip_begins2 (beginsB k a u.toArray) (beginsB l b v.toArray) pu pv fun h' isZ hTI hTO g1 g2 hsz hk => wpAny_pyIter_zip isZ ?_
      refine ⟨s1.heap.objs.size + 4, [s1.heap.objs.size + 4, s1.heap.objs.size + 2, s1.heap.objs.size + 3, s1.heap.objs.size, s1.heap.objs.size + 1], _, _, H1, rfl, I1.kept (t' := s1.toks) hk,
        turnM (k := k) (l := l) (zip_sep2 (fp1 := [a]) (fp2 := [b]) (fun c hc => ?_) (fun c hc => ?_)), ⟨isZ, hTI, ⟨_, _, hTO⟩, oB_it g1, oB_it g2⟩, apart, q1⟩
      · rw [show c = a from by simpa using hc]; exact pu.lt
      · rw [show c = b from by simpa using hc]; exact pv.lt
theorem k_zm {X : Cx} {K : PySem.W.Frag} {e e2 : Expr} {ta : TA} {p pos tpos : Pos} {elts : List Expr} {kk : Nat} (ek : X.K = K) (hg : Gl X "zip") (hm : X.mg "zip" = none) (ha : PA X [e, e2] ta)
    (st : starEach [e, e2] X.env = (false, eval e X.env) :: starEach [e2] X.env := by rfl) (nost : (backTo pos (starEach [e2] X.env)).any (·.1) = false := by rfl) :
    PI X (.Tuple elts kk tpos) (.Call (.Name "zip" p) [e, e2] [] pos) (iZm K ta) := by subst ek; exact pi_zm hg hm ha st nost
section
variable {K : PySem.W.Frag} {g : TG} {tt : TT} {te : TE} {vs : List Nat} {σ σ0 : L2.St} {H : Hp} {Q : VK} {a b : Addr} {R : It → Hp → Prop} {k l : Bool}
def ZmR (K : PySem.W.Frag) (vs : List V) (R : It → Hp → Prop) (H : Hp) : Prop := ∃ (k l : Bool) (a b : Addr) (xs ys : List V), vs = [.ref a, .ref b] ∧ SqB k K H a xs ∧ SqB l K H b ys ∧ R (Itm K k l a b) H
theorem g_iZm {ta : TA} (h : ta σ H fun ws H1 => ZmR K ws R H1) : iZm K ta σ H R := h
theorem g_zm {xs ys : List V} (c : SqB k K H a xs) (d : SqB l K H b ys) (h : R (Itm K k l a b) H) : ZmR K [.ref a, .ref b] R H := ⟨k, l, a, b, xs, ys, rfl, c, d, h⟩
theorem sqB_same {xs : List V} {H' : Hp} (c : SqB k K H a xs) (e : L2.Same H H') : SqB k K H' a xs := by
  cases k
  · exact seqT_same e (show SqT K H a xs from c)
  · exact e.seq (show SqL K H a xs from c)
theorem lcM {xs ys : List V} (len : xs.length = ys.length) (hw : wipe σ vs = σ0) (h : ∀ D, H D = none → ∃ Pv : Nat → Hp → Prop, Pv 0 (upd H D (.lst [])) ∧ (∀ i H', Pv i H' → SqB k K H' a xs ∧ SqB l K H' b ys) ∧
    (∀ (i : Nat) (x y : V) (T : Addr) (H' : Hp), xs[i]? = some x → ys[i]? = some y → Pv i H' → H' T = none → Turn1 g tt te vs σ0 D (.ref T) (upd H' T (.tup [x, y])) (Pv (i + 1))) ∧
    ∀ H', Pv xs.length H' → Q (.ref D) H') : LcG (Itm K k l a b) g tt te vs σ Q H := by
  subst hw
  intro D hD
  obtain ⟨Pv, h0, hq, hs, fin⟩ := h D hD
  refine ⟨fun i m H => m = xs.length - i ∧ i ≤ xs.length ∧ Pv i H, ⟨xs.length, by simp, Nat.zero_le _, h0⟩, ?_⟩
  rintro i m H ⟨rfl, hi, p⟩
  obtain ⟨q1, q2⟩ := hq i H p
  rcases Nat.lt_or_ge i xs.length with lt | ge
  · exact .inr ⟨⟨xs, ys, xs[i], ys[i]'(by omega), q1, q2, by simp [lt], by simp⟩, Pv (i + 1), fun H' p' => ⟨xs.length - (i + 1), by omega, rfl, lt, p'⟩,
      fun v H' ⟨T, x, y, e1, e2, e3, e4, e5⟩ => by subst e1 e3; exact hs i x y T _ (e4 xs q1) (e5 ys q2) p e2⟩
  · have e : i = xs.length := by omega
    subst e
    exact .inl ⟨⟨xs, ys, q1, q2, Nat.le_refl _, by omega, .inl rfl⟩, fin H p⟩
end
section
variable {K : PySem.W.Frag} {g : TG} {tt : TT} {te : TE} {tb : TS} {vs : List Nat} {D0 : Ends} {σ σ0 : L2.St} {H : Hp} {Q : VK} {J : It} {a : Addr}
theorem lcT {xs : List V} (hw : wipe σ vs = σ0) (h : ∀ D, H D = none → ∃ Pv : Nat → Hp → Prop, Pv 0 (upd H D (.lst [])) ∧ (∀ i H', i ≤ xs.length → Pv i H' → SqT K H' a xs) ∧
    (∀ (i : Nat) (x : V) (H' : Hp), xs[i]? = some x → Pv i H' → Turn1 g tt te vs σ0 D x H' (Pv (i + 1))) ∧ ∀ H', Pv xs.length H' → Q (.ref D) H') : LcG (Itt K a) g tt te vs σ Q H := by
  subst hw
  intro D hD
  obtain ⟨Pv, h0, hl, hs, hd⟩ := h D hD
  refine ⟨fun i m H => m = xs.length - i ∧ i ≤ xs.length ∧ Pv i H, ⟨xs.length, by simp, Nat.zero_le _, h0⟩, ?_⟩
  rintro i m H ⟨rfl, hi, p⟩
  have q := hl i H hi p
  rcases Nat.lt_or_ge i xs.length with hlt | hge
  · exact .inr ⟨⟨xs, xs[i], q, by simp [hlt]⟩, Pv (i + 1), fun H' p' => ⟨xs.length - (i + 1), by omega, rfl, hlt, p'⟩, fun x H' ⟨e1, e2⟩ => by subst e1; exact hs i x _ (e2 xs q) p⟩
  · have e : i = xs.length := by omega
    subst e
    exact .inl ⟨⟨xs, q, Nat.le_refl _⟩, hd H p⟩
theorem lcPT {S : List Int} {f : Int → V} {p : Int → Bool} (hw : wipe σ vs = σ0) (hS : SqT K H a (S.map V.int)) (hl : S.length ≤ 1000)
    (turn : ∀ (D : Addr) (acc : List V) (x : Int) (N : Hp → Prop), H D = none → x ∈ S → (p x = true → TurnD D N (f x) (upd H D (.lst acc))) → (p x = false → N (upd H D (.lst acc))) →
      Turn1 g tt te vs σ0 D (.int x) (upd H D (.lst acc)) N)
    (q : ∀ D, H D = none → Q (.ref D) (upd H D (.lst ((S.filter p).map f)))) : LcG (Itt K a) g tt te vs σ Q H := by
  refine lcT (xs := S.map V.int) hw fun D hD => ⟨fun i H' => H' = upd H D (.lst (((S.take i).filter p).map f)), rfl, ?_, ?_, ?_⟩
  · rintro i H' _ rfl
    exact seqT_same (same_new hD) hS
  · rintro i x H' hx rfl
    rw [List.getElem?_map, Option.map_eq_some_iff] at hx
    obtain ⟨n, hn, rfl⟩ := hx
    have hlt : i < S.length := (List.getElem?_eq_some_iff.mp hn).1
    refine turn D _ n _ hD (List.mem_of_getElem? hn) (fun hp => g_turnD upd_same ?_ ?_) (fun hp => ?_)
    · rw [List.length_map]
      have h1 := List.length_filter_le p (S.take i)
      rw [List.length_take] at h1
      omega
    · dsimp only
      rw [upd_upd, List.take_add_one, hn, List.filter_append, List.map_append]
      simp [hp]
    · dsimp only
      rw [List.take_add_one, hn, List.filter_append]
      simp [hp]
  · rintro H' rfl
    rw [List.length_map, List.take_length]
    exact q D hD
end
/-! a comprehension within a comprehension -/
theorem blkOk_rel {N : List Str} {sc scope S : Scope} {own : List (Str × Nat)} (h : blkC N (relS S sc) scope own = true) : BlkOk N (relS S sc) scope own := blkOk_by h
theorem ps_weak {X : Cx} {st : Stmt} {t u : TS} (h : PS X st t) (wk : ∀ D σ H, u D σ H → t D σ H) : PS X st u := ⟨fun pins s σ H D I q => h.run pins s σ H D I (wk D σ H q)⟩
end Q

set_option Elab.async false
set_option linter.all false
set_option maxRecDepth 100000
set_option maxHeartbeats 2000000
/-! classes: methods called with keywords and defaults, properties, own len, repr, bool -/
namespace PySem
/-- a built-in type called: what its __new__ does in this program and World -/
theorem qTypeIn {prog : Program} {w : World} {A : Around} {E : Value → Shared → Prop} {s : Shared} {T newId : String} {Bn : Builtin} {args : List Value} {S : Spec} {Q : Value → Shared → Prop} (ft : TypeCalled T newId "object.__init__")
    (ne : (some newId != some "object.__new__") = true) (c1 : checkTypeCall T ⟨args, []⟩ = pure ()) (c2 : checkBuiltinCall newId ⟨.type T :: args, []⟩ = pure ())
    (ok : ∀ obj, argsOk "object.__init__" ⟨obj :: args, []⟩) (en : entryFor table newId = some Bn) (g : MeetsIn prog w (Bn ⟨.type T :: args, []⟩) S)
    (h : S A.in1 (wants (fun obj t => t.TypeIs obj T ∧ Q obj t) E) s) : wpAny (model prog w) A (call (.type T) args) Q E s := by
  obtain ⟨c, tl, hmro⟩ := ft.mro
  have x1 := ft.made
  have x2 := ft.sub
  have x3 := ft.notType
  have x4 := ft.canCreate
  refine wpAny_call (codeAny_of_tree ?_)
  show wpAny _ _ (callAny (.type T) _) _ _ _
  refine wpAny_pure ⟨Code.quiet_builtin _ (by decide +kernel), codeAny_builtin F.entry_type_call ?_⟩
  rw [Around.under_plain (weight_type_call_type T args []) (units_type_call_type T args [])]
  repeat (any_goals (first | assumption | wp_step))
  refine codeAny_mono (codeAny_call_builtin ft.plain en (wpAny_of_eq c2 (g A.in1 _ s h))) fun res t hres => ?_
  cases res with
  | error e => exact hres
  | ok fl =>
    cases fl with
    | ret obj =>
      obtain ⟨tyO, hq⟩ := hres
      have y1 := ft.init.lookup
      have y2 := ft.init.bind obj
      repeat (any_goals (first | assumption | wp_step))
      refine codeAny_mono (codeAny_call_builtin ft.init.plain F.entry_object_init (ft.init.check _ _ _ _ _ _ _ _ tyO (ok obj)
        (object_init_meets ft.init.lookup ft.made ne prog w A.in1 (wants (fun r t2 => r = .none ∧ Q obj t2) E) t ⟨tyO, rfl, hq⟩))) fun res2 t2 hres2 => ?_
      cases res2 with
      | error e => exact hres2
      | ok fl2 =>
        cases fl2 with
        | ret r =>
          obtain ⟨rfl, hq2⟩ := hres2
          repeat (any_goals (first | assumption | wp_step))
        | _ => exact hres2.elim
    | _ => exact hres.elim
theorem qBoolIn {prog : Program} {w : World} {x : Value} :
    MeetsIn prog w (Builtin.«bool.__new__» ⟨[.type "bool", x], []⟩) (fun A R s => wpAny (model prog w) A.in1 (truthy x) (fun b t => R (.ok (.ret (.bool b))) t) (fun e t => R (.error e) t) s) :=
  MeetsIn.of_wp fun A R s hs => by
    obtain ⟨hp, g, d, tk, os⟩ := s
    have sb := F.conv_sub_bool
    repeat (any_goals (first | assumption | (refine wpAny_bind (wpAny_mono hs (fun b t hb => ?_) fun _ _ z => z)) | wp_step))
    all_goals first | exact ⟨_, rfl, hb⟩ | skip
end PySem
namespace Q
open PySem PySem.Spec L2
/-- what a caller of a method needs: n values by position behind self, the keywords ks; the rest by the defaults -/
structure MKCal (P : Program) (w : World) (K : PySem.W.Frag) (mg : Str → Option Value) (base : Heap) (C : Addr) (m : Str) (k n : Nat) (ks : List Str) (gV : List V → List V → List V) (sp : Sp) : Prop where
  ex : ∃ (f : Addr) (fd : FuncData) (ps : List Str) (g : List Value → List Value → List Value), Meth K C m f ∧ FnOk P w K mg base CX0 k f fd ps sp ∧ KBn K fd ps (n + 1) ks g gV
/-- what a caller of a class needs -/
structure MkK (P : Program) (w : World) (K : PySem.W.Frag) (mg : Str → Option Value) (base : Heap) (C : Addr) (k n : Nat) (ks : List Str) (gV : List V → List V → List V) (sp : Sp) : Prop where
  ex : ∃ (f : Addr) (fd : FuncData) (ps : List Str) (g : List Value → List Value → List Value), Mk K C f ∧ FnOk P w K mg base CX0 k f fd ps sp ∧ KBn K fd ps (n + 1) ks g gV
/-- a property -/
structure PropC (P : Program) (w : World) (K : PySem.W.Frag) (mg : Str → Option Value) (base : Heap) (C : Addr) (x : Str) (k : Nat) (sp : Sp) : Prop where
  ex : ∃ (p g : Addr) (fd : FuncData), PropOf K C x p g ∧ FnOk P w K mg base CX0 k g fd ["self"] sp ∧ Binds K fd ["self"] []
def tMethN (C : Addr) (m : Str) (n j : Nat) (sp : Sp) (gV : List V → List V → List V) (E : XK) (to : TE) (t tk : TA) : TE := fun σ H Q => to σ H fun x H1 => ∃ a dx fs, x = .ref a ∧ H1 a = some (.ins C dx fs) ∧ fs.lookup m = none ∧
  t σ H1 fun vs H2 => tk σ H2 fun zs H3 => vs.length = n ∧ zs.length = j ∧ sp (gV (.ref a :: vs) zs) H3 Q E
section
variable {X : Cx} {C : Addr} {m x : Str} {k n : Nat} {ks ps : List Str} {gV : List V → List V → List V} {sp : Sp} {o e : Expr} {es : List Expr} {kws : List Keyword} {to : TE} {t tk : TA} {p pos apos : Pos}
theorem pe_mkcal {pl : Sem Bool} (he : PE X o to) (c : Cls X.K C) (M : MKCal X.prog X.w X.K X.mg X.base C m k n ks gV sp) (hr : Room k X.A) (ha : PA X (e :: es) t) (hkw : PK X kws tk)
    (some_ : (backToKw pos (keywordEach kws X.env)).all (·.1.isSome) = true := by rfl) (names : (backToKw pos (keywordEach kws X.env)).filterMap (·.1) = ks := by rfl)
    (st : starEach (e :: es) X.env = (false, eval e X.env) :: starEach es X.env := by rfl)
    (nost : ((backTo pos (starEach (e :: es) X.env)).any (·.1) || (backToKw pos (keywordEach kws X.env)).any (·.1.isNone)) = false := by rfl)
    (shape : eval (.Call (.Attribute o m apos) (e :: es) kws pos) X.env = (do
      let self_ ← eval o X.env
      standAt apos.atName
      let (fn, first) ← holding [self_] (getMethod self_ m pl)
      callWith pos fn first (backTo pos (starEach (e :: es) X.env)) (backToKw pos (keywordEach kws X.env))) := by rfl) :
    PE X (.Call (.Attribute o m apos) (e :: es) kws pos) (tMethN C m n ks.length sp gV E0 to t tk) := by
  obtain ⟨f, fd, ps, g, hm, F, hb⟩ := M.ex
  refine ⟨fun pins s σ H Q I h => ?_⟩
  refine PySem.W.methodCall_KW (pl := pl) (thn (he.run pins s σ H _ I h) fun u s1 ⟨y, H1, I1, ry, a, dx, fs, ey, ea, l, q⟩ => ?_) shape
  subst ey
  obtain rfl : u = Value.ref a := ry
  refine getmeth_ok I1 ea c hm l ?_
  refine PySem.W.callWith_KW (first := [.ref a]) (h₀ := X.base) I.ok.mod.kin hm.kp some_ (thn (ha.run pos pins s1 σ H1 _ I1 q) fun us s2 ⟨vs, H2, I2, r, q2⟩ => ?_) nost st
  refine thn (hkw.run pos pins s2 σ H2 _ I2 q2) fun ws s3 ⟨zs, H3, I3, rz, l1, l2, q3⟩ => ⟨I3.kIn, ?_⟩
  rw [names]
  exact run_fnN (us := .ref a :: us) (vs := .ref a :: vs) F hr hb pass0 I3 (.cons rfl r) rz (by rw [List.length_cons, l1]) l2 q3
theorem pe_mkcal0 {pl : Sem Bool} (he : PE X o to) (c : Cls X.K C) (M : MKCal X.prog X.w X.K X.mg X.base C m k 0 ks gV sp) (hr : Room k X.A) (hkw : PK X kws tk)
    (some_ : (backToKw pos (keywordEach kws X.env)).all (·.1.isSome) = true := by rfl) (names : (backToKw pos (keywordEach kws X.env)).filterMap (·.1) = ks := by rfl)
    (nost : ((backTo pos (starEach [] X.env)).any (·.1) || (backToKw pos (keywordEach kws X.env)).any (·.1.isNone)) = false := by rfl)
    (shape : eval (.Call (.Attribute o m apos) [] kws pos) X.env = (do
      let self_ ← eval o X.env
      standAt apos.atName
      let (fn, first) ← holding [self_] (getMethod self_ m pl)
      callWith pos fn first (backTo pos (starEach [] X.env)) (backToKw pos (keywordEach kws X.env))) := by rfl) :
    PE X (.Call (.Attribute o m apos) [] kws pos) (tMethN C m 0 ks.length sp gV E0 to tNil tk) := by
  obtain ⟨f, fd, ps, g, hm, F, hb⟩ := M.ex
  refine ⟨fun pins s σ H Q I h => ?_⟩
  refine PySem.W.methodCall_KW (pl := pl) (thn (he.run pins s σ H _ I h) fun u s1 ⟨y, H1, I1, ry, a, dx, fs, ey, ea, l, q⟩ => ?_) shape
  subst ey
  obtain rfl : u = Value.ref a := ry
  refine getmeth_ok I1 ea c hm l ?_
  refine PySem.W.callWith_KW0 (first := [.ref a]) (h₀ := X.base) I.ok.mod.kin hm.kp some_ ?_ nost
  refine thn (hkw.run pos pins s1 σ H1 _ I1 q) fun ws s3 ⟨zs, H3, I3, rz, l1, l2, q3⟩ => ⟨I3.kIn, ?_⟩
  rw [names]
  exact run_fnN (us := [.ref a]) (vs := [.ref a]) F hr hb pass0 I3 (.cons rfl .nil) rz rfl l2 q3
theorem pe_mkk (hm : X.mg x = some (.ref C)) (M : MkK X.prog X.w X.K X.mg X.base C k n ks gV sp) (hr : Room (k + 1) X.A) (hg : Gl X x) (ha : PA X (e :: es) t) (hkw : PK X kws tk)
    (some_ : (backToKw pos (keywordEach kws X.env)).all (·.1.isSome) = true := by rfl) (names : (backToKw pos (keywordEach kws X.env)).filterMap (·.1) = ks := by rfl)
    (dbg : (x == ("__debug__" : Str)) = false := by decide) (st : starEach (e :: es) X.env = (false, eval e X.env) :: starEach es X.env := by rfl)
    (nost : ((backTo pos (starEach (e :: es) X.env)).any (·.1) || (backToKw pos (keywordEach kws X.env)).any (·.1.isNone)) = false := by rfl) :
    PE X (.Call (.Name x p) (e :: es) kws pos) (tMakeK C n ks.length sp gV E0 t tk) := by
  obtain ⟨f, fd, ps, g, hmk, F, hb⟩ := M.ex
  exact pe_makeK hmk F hr hg hm hb pass0 ha hkw some_ names dbg st nost
theorem pe_mkk0 (hm : X.mg x = some (.ref C)) (M : MkK X.prog X.w X.K X.mg X.base C k 0 ks gV sp) (hr : Room (k + 1) X.A) (hg : Gl X x) (hkw : PK X kws tk)
    (some_ : (backToKw pos (keywordEach kws X.env)).all (·.1.isSome) = true := by rfl) (names : (backToKw pos (keywordEach kws X.env)).filterMap (·.1) = ks := by rfl)
    (dbg : (x == ("__debug__" : Str)) = false := by decide)
    (nost : ((backTo pos (starEach [] X.env)).any (·.1) || (backToKw pos (keywordEach kws X.env)).any (·.1.isNone)) = false := by rfl) :
    PE X (.Call (.Name x p) [] kws pos) (tMakeK C 0 ks.length sp gV E0 tNil tk) := by
  obtain ⟨f, fd, ps, g, hmk, F, hb⟩ := M.ex
  exact pe_makeK0 hmk F hr hg hm hb pass0 hkw some_ names dbg nost
theorem pe_propc (he : PE X o to) (c : Cls X.K C) (M : PropC X.prog X.w X.K X.mg X.base C x k sp) (hr : Room (k + 1) X.A) (hab : attributeBase o x X.env (eval o X.env) = eval o X.env) :
    PE X (.Attribute o x pos) (tProp C sp [] E0 to) := by
  obtain ⟨pa, g, fd, hp, F, hb⟩ := M.ex
  exact pe_prop he c hp F hr hb .nil pass0 hab
end
/-! own len, repr, bool -/
section
variable {X : Cx} {C : Addr} {k : Nat} {ps : List Str} {sp : Sp}
/-- a def called with one object, in the room of a built-in that asks it -/
theorem run_own {pins : List (Addr × Obj)} {σ : L2.St} {H : Hp} {s : Shared} {A : Around} {m : Str} {a : Addr} {Q : VK} {f : Addr} {fd : FuncData} (F : FnOk X.prog X.w X.K X.mg X.base CX0 k f fd ps sp) (hb : Binds X.K fd ps []) (hr : Room k A) (fr : A.frames = X.A.frames)
    (I : Inv X pins σ H s) (h : sp [.ref a] H Q E0) : wpAny (model X.prog X.w) A (call (.ref f) [.ref a]) (EP X pins σ Q) X.xe s := by
  have e0 : Env0 X.prog X.w X.K X.mg X.base A X.stack s H := by
    have e := I.env0
    exact ⟨by rw [fr]; exact e.frames, e.mod, e.bs, e.bsz, e.funs, e.frf, e.hok, e.bare⟩
  have hl := F.len _ _ _ _ h
  have bt : BindsTo s fd ⟨[.ref a], []⟩ (ps.zip [.ref a]) := by
    have z := hb s [.ref a] I.kIn (by simpa using hl)
    simpa using z
  refine wpAny_call (codeAny_mono (F.run A X.stack s H ⟨[.ref a], []⟩ [.ref a] [.ref a] Q E0 hr e0 bt (.cons rfl .nil) h) fun res t hres => ?_)
  cases res with
  | error e => exact pass0 pins σ H s e t I hres
  | ok fl =>
    cases fl with
    | ret u =>
      obtain ⟨z, H', I', rz, ez⟩ := I.after hres
      exact ⟨z, H', I', rz, ez⟩
    | next => exact False.elim hres
    | brk => exact False.elim hres
    | cont => exact False.elim hres
def rOwnLen (C : Addr) (sp : Sp) : List V → Hp → VK → Prop := fun xs H Q => ∃ a dx fs, xs = [.ref a] ∧ H a = some (.ins C dx fs) ∧ sp [.ref a] H (fun v H' => ∃ n : Int, v = .int n ∧ 0 ≤ n ∧ n < 2 ^ 63 ∧ Q (.int n) H') E0
theorem call_ownLen (M : MCal X.prog X.w X.K X.mg X.base C "__len__" k ps sp) (hr : Room (k + 1) X.A) : CallR X (.builtin "len") (rOwnLen C sp) := by
  intro pins s σ H xs us Q I r h
  obtain ⟨a, dx, fs, rfl, ha, hs⟩ := h
  obtain rfl := Vals.ref1 r
  obtain ⟨f, fd, hm, F, hb⟩ := M.ex
  obtain ⟨_, J, _⟩ := ins_get I.hok ha
  obtain ⟨od, J, _⟩ := J.look
  obtain ⟨mm, hF⟩ := I.fr
  refine PySem.W.len_K hF I.ok.mod.kin J hm.at_ hm.fn (thn (run_own (m := "__len__") F hb hr.in1 rfl I hs) fun u t ⟨z, H', I', rz, n, ez, n0, n1, q⟩ => ?_)
  subst ez
  obtain ⟨tk, rfl⟩ := rz
  exact ⟨⟨n0, n1⟩, .int n, H', I'.tok _, ⟨_, rfl⟩, q⟩
def rOwnRepr (C : Addr) (sp : Sp) : List V → Hp → VK → Prop := fun xs H Q => ∃ a dx fs, xs = [.ref a] ∧ H a = some (.ins C dx fs) ∧ sp [.ref a] H (fun v H' => ∃ z : Str, v = .str z ∧ Q (.str z) H') E0
theorem call_ownRepr (M : MCal X.prog X.w X.K X.mg X.base C "__repr__" k ps sp) (hr : Room (k + 1) X.A) : CallR X (.builtin "repr") (rOwnRepr C sp) := by
  intro pins s σ H xs us Q I r h
  obtain ⟨a, dx, fs, rfl, ha, hs⟩ := h
  obtain rfl := Vals.ref1 r
  obtain ⟨f, fd, hm, F, hb⟩ := M.ex
  obtain ⟨_, J, _⟩ := ins_get I.hok ha
  obtain ⟨od, J, _⟩ := J.look
  obtain ⟨mm, hF⟩ := I.fr
  refine PySem.W.repr_K hr.in1.units0 hF I.ok.mod.kin J hm.at_ hm.fn (thn (run_own (m := "__repr__") F hb hr.in1 rfl I hs) fun u t ⟨z, H', I', rz, x, ez, q⟩ => ?_)
  subst ez
  obtain ⟨tk, rfl⟩ := rz
  exact ⟨.str x, H', I', ⟨_, rfl⟩, q⟩
def rOwnBool (C : Addr) (sp : Sp) : List V → Hp → VK → Prop := fun xs H Q => ∃ a dx fs, xs = [.ref a] ∧ H a = some (.ins C dx fs) ∧ sp [.ref a] H (fun v H' => ∃ b : Bool, v = .bl b ∧ Q (.bl b) H') E0
theorem call_ownBool (M : MCal X.prog X.w X.K X.mg X.base C "__bool__" k ps sp) (hr : Room (k + 2) X.A) : CallR X (.type "bool") (rOwnBool C sp) := by
  intro pins s σ H xs us Q I r h
  obtain ⟨a, dx, fs, rfl, ha, hs⟩ := h
  obtain rfl := Vals.ref1 r
  obtain ⟨f, fd, hm, F, hb⟩ := M.ex
  obtain ⟨_, J, _⟩ := ins_get I.hok ha
  obtain ⟨od, J, _⟩ := J.look
  obtain ⟨mm, hF⟩ := I.fr
  refine qTypeIn PySem.F.called_bool PySem.F.newNe_bool (PySem.F.typeCall_bool_1 _) (PySem.F.newCall_bool_1 _) (fun obj => PySem.F.args_object_init_2 obj _) PySem.F.entry_bool_new qBoolIn ?_
  refine PySem.W.truthy_K hF I.ok.mod.kin J hm.at_ hm.fn (thn (run_own (m := "__bool__") F hb hr.in1.in1 rfl I hs) fun u t ⟨z, H', I', rz, b, ez, q⟩ => ?_)
  subst ez
  obtain rfl := rz
  exact ⟨typeIs_bool _ _, .bl b, H', I', rfl, q⟩
end
/-! the head's facts about properties -/
def prpP (K : PySem.W.Frag) (c x : Str) : Addr := match PySem.W.findIn K (.ref (He.ga K c)) x with
  | some (some (.ref p)) => p
  | _ => 0
def prpG (K : PySem.W.Frag) (c x : Str) : Addr := match PySem.W.recIn K (prpP K c x) "property" with
  | some (.ref g :: _) => g
  | _ => 0
structure PrpD where
  cls : Str
  attr : Str
  name : Str
  qual : Str
  params : Arguments
  body : List Stmt
  scope : Scope
def PrpD.ok (K : PySem.W.Frag) (d : PrpD) : Bool := He.eqO (PySem.W.findIn K (.ref (He.ga K d.cls)) d.attr) (some (some (.ref (prpP K d.cls d.attr)))) &&
  (He.eqO (PySem.W.specialIn K (.ref (prpP K d.cls d.attr)) "__get__") (some (some (.builtin "property.__get__"))) && (decide (PySem.W.takesIn K (.ref (prpP K d.cls d.attr)) = some true) &&
  (decide ((PySem.W.recIn K (prpP K d.cls d.attr) "property").map (·.head?) = some (some (.ref (prpG K d.cls d.attr)))) && (PySem.W.keepIn K (.ref (prpG K d.cls d.attr)) &&
  (match K.lookup (prpG K d.cls d.attr) with
    | some ⟨_, _, .func q, _⟩ => PySem.W.codeIn K q.code d.qual && (He.dflB K q.defaults [] && He.kwdB K q.kwdefaults [])
    | _ => false)))))
def PrpD.w (K : PySem.W.Frag) (d : PrpD) : He.FnW := match K.lookup (prpG K d.cls d.attr) with
  | some ⟨_, _, .func q, _⟩ => some (q.name, q.qualname, q.params, q.body, q.scope, q.globals, q.closure, q.builtins)
  | _ => none
def PrpD.val (d : PrpD) : He.FnW := some (d.name, d.qual, d.params, .stmts d.body, d.scope, mainGlobals, [], builtinsNs)
theorem PrpD.use {K : PySem.W.Frag} {d : PrpD} (e : d.w K = d.val) (c : d.ok K = true) : PropOf K (He.ga K d.cls) d.attr (prpP K d.cls d.attr) (prpG K d.cls d.attr) ∧ ∃ fd, FunD K d.name d.qual d.params d.body d.scope [] [] (prpG K d.cls d.attr) fd := by
  obtain ⟨c1, c⟩ := He.ba c
  obtain ⟨c2, c⟩ := He.ba c
  obtain ⟨c3, c⟩ := He.ba c
  obtain ⟨c4, c⟩ := He.ba c
  obtain ⟨c5, c6⟩ := He.ba c
  have r1 : ∃ rest, PySem.W.recIn K (prpP K d.cls d.attr) "property" = some (.ref (prpG K d.cls d.attr) :: rest) := by
    have z := of_decide_eq_true c4
    cases q : PySem.W.recIn K (prpP K d.cls d.attr) "property" with
    | none => rw [q] at z; cases z
    | some vs =>
      rw [q] at z
      cases vs with
      | nil => cases z
      | cons v r =>
        have z2 : some (some v) = some (some (Value.ref (prpG K d.cls d.attr))) := z
        injection z2 with z2
        injection z2 with z2
        exact ⟨r, by rw [z2]⟩
  refine ⟨⟨He.eqO_ok c1, He.eqO_ok c2, of_decide_eq_true c3, r1⟩, ?_⟩
  unfold PrpD.w at e
  cases q : K.lookup (prpG K d.cls d.attr) with
  | none => rw [q] at c6; cases c6
  | some ob =>
    obtain ⟨o1, o2, dat, o3⟩ := ob
    rw [q] at c6 e
    cases dat with
    | func fq =>
      obtain ⟨a1, a2, a3, a4, a5, a6, a7, a8, a9, b1, b2, b3, b4, b5, b6⟩ := fq
      have e2 : (some (a1, a2, a3, a4, a5, a6, a7, b6) : He.FnW) = some (d.name, d.qual, d.params, .stmts d.body, d.scope, mainGlobals, [], builtinsNs) := e
      simp only [Option.some.injEq, Prod.mk.injEq] at e2
      obtain ⟨rfl, rfl, rfl, rfl, rfl, rfl, rfl, rfl⟩ := e2
      have k0 : (PySem.W.codeIn K b4 d.qual && (He.dflB K a8 [] && He.kwdB K a9 [])) = true := c6
      obtain ⟨k1, k2⟩ := He.ba k0
      obtain ⟨k3, k4⟩ := He.ba k2
      exact ⟨_, ⟨o1, o2, a8, a9, b1, b2, b3, b4, b5, o3, rfl, q, k1, He.dflB_ok k3, He.kwdB_ok k4⟩, c5⟩
    | _ => cases c6
abbrev AlP : Type := He.AlD × (Bool × List He.FnW)
def obsP (fa : List He.Fa) (fn : List He.DefD) (pr : List PrpD) (K : PySem.W.Frag) : AlP := (He.obsD fa fn K, (pr.all fun d => d.ok K, pr.map fun d => d.w K))
def valP (fn : List He.DefD) (pr : List PrpD) : AlP := (He.valD fn, (true, pr.map PrpD.val))
structure SaysP (fa : List He.Fa) (fn : List He.DefD) (pr : List PrpD) (K : PySem.W.Frag) : Prop where
  eq : obsP fa fn pr K = valP fn pr
def obsPG (n : Nat) (fa : List He.Fa) (fn : List He.DefD) (pr : List PrpD) (g : Addr → Option Obj) : AlP := obsP fa fn pr (He.frG g (He.asD g n))
def hookP (n : Nat) (fa : List He.Fa) (fn : List He.DefD) (pr : List PrpD) : PySem.W.Hook where
  α := AlP
  obs := fun s => obsPG n fa fn pr s.heap.get?
  val := fun _ => valP fn pr
  says := fun _ h => ∃ K : PySem.W.Frag, K.In h ∧ SaysP fa fn pr K
  of := fun _ _ e => ⟨_, He.frG_in, ⟨e⟩⟩
  keeps := fun _ _ _ ⟨K, inK, c⟩ kp => ⟨K, PySem.W.Frag.In.keeps inK kp, c⟩
theorem obsPG_eq {n : Nat} {fa : List He.Fa} {fn : List He.DefD} {pr : List PrpD} {g : Addr → Option Obj} {s : Shared} (h : ∀ a, g a = s.heap.get? a) : obsPG n fa fn pr g = (hookP n fa fn pr).obs s := by
  obtain rfl : g = s.heap.get? := funext h
  rfl
section
variable {fa : List He.Fa} {fn : List He.DefD} {pr : List PrpD} {K : PySem.W.Frag}
theorem SaysP.d (c : SaysP fa fn pr K) : He.SaysD fa fn K := congrArg (fun z : AlP => z.1) c.eq
theorem SaysP.prp (c : SaysP fa fn pr K) (i : Nat) {d : PrpD} (h : pr[i]? = some d := by rfl) : PropOf K (He.ga K d.cls) d.attr (prpP K d.cls d.attr) (prpG K d.cls d.attr) ∧ ∃ fd, FunD K d.name d.qual d.params d.body d.scope [] [] (prpG K d.cls d.attr) fd := by
  have z := congrArg (fun z : AlP => z.2) c.eq
  have z1 : (pr.all fun d => d.ok K) = true := congrArg (fun z : Bool × List He.FnW => z.1) z
  have z2 : pr.map (fun d => d.w K) = pr.map PrpD.val := congrArg (fun z : Bool × List He.FnW => z.2) z
  have z3 : (pr.map fun d => d.w K)[i]? = (pr.map PrpD.val)[i]? := by rw [z2]
  rw [List.getElem?_map, List.getElem?_map, h] at z3
  exact PrpD.use (Option.some.inj z3) (List.all_eq_true.mp z1 d (List.mem_of_getElem? h))
end
section
variable {K : PySem.W.Frag} {x qual : Str} {params : Arguments} {body : List Stmt} {scope : Scope} {dvs : List V} {f : Addr} {fd : FuncData} {ps : List Str}
theorem mkbD (F : FunD K x qual params body scope dvs [] f fd) (n : Nat) (ks : List Str) (ix : List (Nat × Nat)) (hd : dvs ≠ [])
    (h : ∀ (T : Addr) (kV doc pm : Value) (an : Option Addr) (cdv ct : Value) (us its ws : List Value), us.length = n → its.length = dvs.length → ws.length = ks.length →
      ∃ k, bindArgs (PySem.W.fnOf x qual params body scope (.ref T) kV doc pm an cdv ct) ⟨us, ks.zip ws⟩ = seqItems? (.ref T) >>= k ∧ k (some its.toArray) = pure (ps.zip (pick ix us its ws))) :
    ∃ g, KBn K fd ps n ks g (fun vs zs => pick ix vs dvs zs) := by
  obtain ⟨its, kb⟩ := F.kbindsD n ks (fun us its ws => pick ix us its ws) hd (fun r1 r2 r3 => vals_pick ix r1 r2 r3) h
  exact ⟨_, kb⟩
end
theorem mkcal_mk {P : Program} {w : World} {K : PySem.W.Frag} {mg : Str → Option Value} {base : Heap} {C : Addr} {m : Str} {x q : Str} {pa : Arguments} {bd : List Stmt} {sc : Scope} {dv : List V} {kw : List (Str × V)} {k n : Nat} {ks ps : List Str} {gV : List V → List V → List V} {sp : Sp} {f : Addr}
    (me : Meth K C m f) (h : ∃ (fd : FuncData), FunD K x q pa bd sc dv kw f fd)
    (ok : ∀ {f : Addr} {fd : FuncData}, FunD K x q pa bd sc dv kw f fd → FnOk P w K mg base CX0 k f fd ps sp)
    (b : ∀ {f : Addr} {fd : FuncData}, FunD K x q pa bd sc dv kw f fd → ∃ g, KBn K fd ps (n + 1) ks g gV) : MKCal P w K mg base C m k n ks gV sp := by
  obtain ⟨fd, F⟩ := h
  obtain ⟨g, kb⟩ := b F
  exact ⟨f, fd, ps, g, me, ok F, kb⟩
theorem mkk_mk {P : Program} {w : World} {K : PySem.W.Frag} {mg : Str → Option Value} {base : Heap} {C : Addr} {x q : Str} {pa : Arguments} {bd : List Stmt} {sc : Scope} {dv : List V} {kw : List (Str × V)} {k n : Nat} {ks ps : List Str} {gV : List V → List V → List V} {sp : Sp} {f : Addr}
    (mk : Mk K C f) (h : ∃ (fd : FuncData), FunD K x q pa bd sc dv kw f fd)
    (ok : ∀ {f : Addr} {fd : FuncData}, FunD K x q pa bd sc dv kw f fd → FnOk P w K mg base CX0 k f fd ps sp)
    (b : ∀ {f : Addr} {fd : FuncData}, FunD K x q pa bd sc dv kw f fd → ∃ g, KBn K fd ps (n + 1) ks g gV) : MkK P w K mg base C k n ks gV sp := by
  obtain ⟨fd, F⟩ := h
  obtain ⟨g, kb⟩ := b F
  exact ⟨f, fd, ps, g, mk, ok F, kb⟩
theorem propc_mk {P : Program} {w : World} {K : PySem.W.Frag} {mg : Str → Option Value} {base : Heap} {C : Addr} {m : Str} {x q : Str} {pa : Arguments} {bd : List Stmt} {sc : Scope} {k : Nat} {sp : Sp}
    (h : ∃ (p g : Addr) (fd : FuncData), PropOf K C m p g ∧ FunD K x q pa bd sc [] [] g fd)
    (ok : ∀ {f : Addr} {fd : FuncData}, FunD K x q pa bd sc [] [] f fd → FnOk P w K mg base CX0 k f fd ["self"] sp)
    (b : ∀ {f : Addr} {fd : FuncData}, FunD K x q pa bd sc [] [] f fd → Binds K fd ["self"] []) : PropC P w K mg base C m k sp := by
  obtain ⟨p, g, fd, hp, F⟩ := h
  exact ⟨p, g, fd, hp, ok F, b F⟩
theorem k_pgl {X : Cx} {K : PySem.W.Frag} {es : List Expr} {k : Nat} {t : TGs} {n : Nat} {pos : Pos} (ek : X.K = K) (hc : X.calm = true) (h : PGs X es t)
    (many : (assignEach es X.env).length = n) (nostar : (assignEach es X.env).findIdx? (·.1) = none) : PG X (.Tuple es k pos) (gLst K n t) := by subst ek; exact pg_lst hc h many nostar
def qIntB : List V → Hp → VK → Prop := fun xs H Q => ∃ b, xs = [.bl b] ∧ Q (.int (if b then 1 else 0)) H
theorem c_intB {X : Cx} : CallR X (.type "int") qIntB := fun pins s σ H xs us Q I r h => call_int1 pins s σ H xs us Q I r (.inr h)
theorem g_intB {p : Prop} [Decidable p] {H : Hp} {Q : VK} (h : Q (.int (if p then 1 else 0)) H) : qIntB [.bl (decide p)] H Q := ⟨decide p, rfl, by
  by_cases c : p
  · rw [if_pos c] at h; rw [if_pos (decide_eq_true c)]; exact h
  · rw [if_neg c] at h; rw [if_neg (by simp [c])]; exact h⟩
theorem k_join {X : Cx} {K : PySem.W.Frag} {o e : Expr} {to te : TE} {apos pos : Pos} (ek : X.K = K) (ho : PE X o to) (he : PE X e te) (hs : starEach [e] X.env = [(false, eval e X.env)] := by rfl) (hb : attributeBase o "join" X.env (eval o X.env) = eval o X.env := by rfl) (hl : (apos.endLine == pos.line) = true := by rfl) :
    PE X (.Call (.Attribute o "join" apos) [e] [] pos) (tM1 (fun x xs H Q => ∃ a p, ∃ ys : List Str, x = .str a ∧ xs = [.ref p] ∧ (SqL K H p (ys.map V.str) ∨ SqT K H p (ys.map V.str)) ∧
      (ys.map (·.length)).sum + ys.length * a.length ≤ 16777216 ∧ Q (.str (Txt.join a ys)) H) to te) := by subst ek; exact pe_join ho he hs hb hl
end Q

set_option Elab.async false
set_option linter.all false
set_option maxRecDepth 100000
set_option maxHeartbeats 4000000
namespace Q
open PySem PySem.Builtin.Str PySem.StrLaws
abbrev sOf (cs : List Nat) : Str := ⟨cs.toArray⟩
theorem sOf_len (cs : List Nat) : (sOf cs).length = cs.length := by simp [sOf, Str.length]
theorem sOf_app (a b : List Nat) : sOf a ++ sOf b = sOf (a ++ b) := by
  show (⟨a.toArray ++ b.toArray⟩ : Str) = ⟨(a ++ b).toArray⟩
  rw [List.append_toArray]
theorem sOf_cps (x : Str) : sOf x.cps.toList = x := by cases x; simp [sOf]
theorem sOf_inj {a b : List Nat} (h : sOf a = sOf b) : a = b := by
  have := congrArg (fun s : Str => s.cps.toList) h
  simpa using this
/-- the pieces between the line feeds -/
def spl : List Nat → List (List Nat)
  | [] => [[]]
  | x :: t => if x = 10 then [] :: spl t else match spl t with
    | p :: ps => (x :: p) :: ps
    | [] => [[x]]
theorem spl_ne : ∀ t, spl t ≠ []
  | [] => by simp [spl]
  | x :: t => by
    unfold spl
    split
    · simp
    · split <;> simp
theorem spl_nl (t : List Nat) : spl (10 :: t) = [] :: spl t := by rw [spl, if_pos rfl]
theorem spl_cons {x : Nat} {t p : List Nat} {ps : List (List Nat)} (h : x ≠ 10) (e : spl t = p :: ps) : spl (x :: t) = (x :: p) :: ps := by rw [spl, if_neg h, e]
theorem spl_some (t : List Nat) : ∃ p ps, spl t = p :: ps := by
  cases e : spl t with
  | nil => exact absurd e (spl_ne t)
  | cons p ps => exact ⟨p, ps, rfl⟩
/-- the places of the line feeds -/
def posN : List Nat → Nat → List Nat
  | [], _ => []
  | x :: t, i => if x = 10 then i :: posN t (i + 1) else posN t (i + 1)
theorem occ_pos (a : List Nat) : ∀ (t pre : List Nat) (acc : Array Nat) (free : Nat), a = pre ++ t → free ≤ pre.length → acc.size ≤ pre.length →
    (forIn (List.range' pre.length (t.length + 1)) (acc, free) (occBody (sOf a) ⟨#[10]⟩ a.length (a.length + 1))).run.fst.toList = acc.toList ++ posN t pre.length
  | [], pre, acc, free, e, hf, hs => by
    have no : ¬ (((acc.size < a.length + 1 ∧ free ≤ pre.length) ∧ pre.length + (⟨#[10]⟩ : Str).length ≤ a.length) ∧ subAt (sOf a) ⟨#[10]⟩ pre.length = true) := fun z => by
      have z2 : pre.length + 1 ≤ a.length := z.1.2
      rw [e, List.append_nil] at z2
      omega
    show (Id.run (forIn [pre.length] (acc, free) _)).fst.toList = _
    rw [List.forIn_cons]
    unfold occBody
    rw [if_neg no]
    simp [posN]
  | x :: t, pre, acc, free, e, hf, hs => by
    have hl : a.length = pre.length + (t.length + 1) := by rw [e]; simp
    have ex : a[pre.length]? = some x := by rw [e]; simp
    show (Id.run (forIn (pre.length :: List.range' (pre.length + 1) (t.length + 1)) (acc, free) _)).fst.toList = _
    rw [List.forIn_cons]
    have hl2 : (sOf a).length = a.length := sOf_len a
    by_cases hx : x = 10
    · subst hx
      have sub := (subAt_one (sOf a) 10 pre.length).mpr (by simpa using ex)
      rw [hl2] at sub
      have yes : ((acc.size < a.length + 1 ∧ free ≤ pre.length) ∧ pre.length + (⟨#[10]⟩ : Str).length ≤ a.length) ∧ subAt (sOf a) ⟨#[10]⟩ pre.length = true := ⟨⟨⟨by omega, hf⟩, sub.1⟩, sub.2⟩
      have step : occBody (sOf a) ⟨#[10]⟩ a.length (a.length + 1) pre.length (acc, free) = pure (ForInStep.yield (acc.push pre.length, pre.length + 1)) := by
        unfold occBody
        rw [if_pos yes]
        rfl
      rw [step]
      have ih := occ_pos a t (pre ++ [10]) (acc.push pre.length) (pre.length + 1) (by rw [e]; simp) (by simp) (by simp; omega)
      have el : List.length (pre ++ [10]) = pre.length + 1 := by simp
      rw [el] at ih
      rw [show posN (10 :: t) pre.length = pre.length :: posN t (pre.length + 1) by rw [posN, if_pos rfl]]
      show (Id.run (forIn (List.range' (pre.length + 1) (t.length + 1)) (acc.push pre.length, pre.length + 1) _)).fst.toList = _
      rw [ih]
      simp
    · have no : ¬ (((acc.size < a.length + 1 ∧ free ≤ pre.length) ∧ pre.length + (⟨#[10]⟩ : Str).length ≤ a.length) ∧ subAt (sOf a) ⟨#[10]⟩ pre.length = true) := fun z => by
        have z2 := (subAt_one (sOf a) 10 pre.length).mp ⟨by rw [hl2]; exact z.1.2, z.2⟩
        have z3 : a[pre.length]? = some 10 := by simpa using z2
        rw [ex] at z3
        exact hx (Option.some.inj z3)
      have step : occBody (sOf a) ⟨#[10]⟩ a.length (a.length + 1) pre.length (acc, free) = pure (ForInStep.yield (acc, free)) := by
        unfold occBody
        rw [if_neg no]
      rw [step]
      have ih := occ_pos a t (pre ++ [x]) acc free (by rw [e]; simp) (by simp; omega) (by simp; omega)
      have el : List.length (pre ++ [x]) = pre.length + 1 := by simp
      rw [el] at ih
      rw [show posN (x :: t) pre.length = posN t (pre.length + 1) by rw [posN, if_neg hx]]
      exact ih
theorem occ_nl (a : List Nat) : occurrences (sOf a) ⟨#[10]⟩ 0 (sOf a).length ((sOf a).length + 1) = posN a 0 := by
  rw [occ_eq, sOf_len]
  have z := occ_pos a a [] #[] 0 rfl (Nat.le_refl _) (Nat.le_refl _)
  rw [Nat.sub_zero]
  exact z.trans (by simp)
def seg (a : List Nat) (st i : Nat) : List Nat := (a.drop st).take (i - st)
theorem strSub_seg (a : List Nat) (i j : Nat) : strSub (sOf a) i j = sOf (seg a i j) := by
  unfold strSub sOf seg
  congr 1
  apply Array.ext'
  simp [Array.toList_extract, List.extract_eq_drop_take]
theorem parts_spl (a : List Nat) : ∀ (t pre : List Nat) (st : Nat), a = pre ++ t → st ≤ pre.length →
    ((st :: (posN t pre.length).map (· + 1)).zip (posN t pre.length ++ [a.length])).map (fun (i, j) => strSub (sOf a) i j) =
      (match spl t with
      | p :: ps => sOf (seg a st pre.length ++ p) :: ps.map sOf
      | [] => [])
  | [], pre, st, e, hst => by
    have e0 : a = pre := by rw [e, List.append_nil]
    subst e0
    simp [posN, spl, strSub_seg]
  | x :: t, pre, st, e, hst => by
    by_cases hx : x = 10
    · subst hx
      have ih := parts_spl a t (pre ++ [10]) (pre.length + 1) (by rw [e]; simp) (by simp)
      have el : List.length (pre ++ [10]) = pre.length + 1 := by simp
      rw [el] at ih
      rw [show posN (10 :: t) pre.length = pre.length :: posN t (pre.length + 1) by rw [posN, if_pos rfl], spl_nl]
      obtain ⟨p, ps, ep⟩ := spl_some t
      rw [ep] at ih ⊢
      have z : seg a (pre.length + 1) (pre.length + 1) = [] := by unfold seg; simp
      simp only [z, List.nil_append] at ih
      simp only [List.map_cons, List.cons_append, List.zip_cons_cons, List.append_nil]
      rw [ih, strSub_seg]
    · have ih := parts_spl a t (pre ++ [x]) st (by rw [e]; simp) (by simp; omega)
      have el : List.length (pre ++ [x]) = pre.length + 1 := by simp
      rw [el] at ih
      rw [show posN (x :: t) pre.length = posN t (pre.length + 1) by rw [posN, if_neg hx]]
      obtain ⟨p, ps, ep⟩ := spl_some t
      rw [spl_cons hx ep]
      rw [ep] at ih
      rw [ih]
      have z : seg a st (pre.length + 1) = seg a st pre.length ++ [x] := by
        unfold seg
        rw [show pre.length + 1 - st = (pre.length - st) + 1 by omega, List.take_add_one, List.getElem?_drop, show st + (pre.length - st) = pre.length by omega]
        have ex : a[pre.length]? = some x := by rw [e]; simp
        rw [ex]
        rfl
      simp only [z, List.append_assoc, List.singleton_append]
theorem kind_pos (x : Str) : 1 ≤ Builtin.Str.strKind x := by
  unfold Builtin.Str.strKind
  split
  · decide
  · split <;> decide
theorem split_nl (a : List Nat) : Txt.split (sOf a) ⟨#[10]⟩ = (spl a).map sOf := by
  unfold Txt.split
  rw [occ_nl]
  have k1 : decide (Builtin.Str.strKind (sOf a) < Builtin.Str.strKind ⟨#[10]⟩) = false := decide_eq_false (by
    have := kind_pos (sOf a)
    have e : Builtin.Str.strKind (⟨#[10]⟩ : Str) = 1 := by simp [Builtin.Str.strKind]
    omega)
  rw [k1, Bool.or_false]
  have full : partsBetween (sOf a) (posN a 0) (⟨#[10]⟩ : Str).length = (spl a).map sOf := by
    unfold partsBetween
    have z := parts_spl a a [] 0 rfl (Nat.le_refl _)
    rw [sOf_len]
    obtain ⟨p, ps, ep⟩ := spl_some a
    rw [ep] at z ⊢
    have s0 : seg a 0 0 = [] := by simp [seg]
    simp only [List.length_nil, s0, List.nil_append] at z
    exact z
  split
  · rename_i h
    have hl : (sOf a).length < 1 := of_decide_eq_true h
    rw [sOf_len] at hl
    have : a = [] := List.length_eq_zero_iff.mp (by omega)
    subst this
    rfl
  · split
    · rename_i h
      rw [List.isEmpty_iff] at h
      rw [← full, h]
      unfold partsBetween
      simp [strSub_seg, seg, sOf_len]
    · exact full
theorem glue_fold (xs : List (List Nat)) : ∀ acc : Array Nat, (xs.map sOf).foldl (fun acc p => acc ++ (sOf []).cps ++ p.cps) acc = acc ++ xs.flatten.toArray := by
  induction xs with
  | nil => intro acc; simp
  | cons x r ih =>
    intro acc
    rw [List.map_cons, List.foldl_cons, ih]
    apply Array.ext'
    simp
theorem join_e (xs : List (List Nat)) : Txt.join (sOf []) (xs.map sOf) = sOf xs.flatten := by
  unfold Txt.join glued
  cases xs with
  | nil => rfl
  | cons x r =>
    show (⟨(r.map sOf).foldl _ (sOf x).cps⟩ : Str) = _
    rw [glue_fold]
    show (⟨x.toArray ++ r.flatten.toArray⟩ : Str) = ⟨(x :: r).flatten.toArray⟩
    rw [List.append_toArray]
    rfl
/-! the last line feed -/
def kp : List Nat → Nat
  | [] => 0
  | x :: t => if 0 < kp t then kp t + 1 else if x = 10 then 1 else 0
theorem kp_le : ∀ t, kp t ≤ t.length
  | [] => Nat.le_refl _
  | x :: t => by
    have := kp_le t
    unfold kp
    split
    · simp; omega
    · split <;> simp
def lastBody (s sub : Str) (hi : Nat) (i : Nat) (st : Option Nat) : Id (ForInStep (Option Nat)) :=
  if i + sub.length ≤ hi ∧ subAt s sub i = true then pure (ForInStep.yield (some i)) else pure (ForInStep.yield st)
theorem last_eq (s sub : Str) (lo hi : Nat) : lastOccurrence s sub lo hi = (forIn (List.range' lo (hi + 1 - lo)) none (lastBody s sub hi)).run := by
  unfold lastOccurrence lastBody
  simp
theorem last_kp (a : List Nat) : ∀ (t pre : List Nat) (o : Option Nat), a = pre ++ t →
    (forIn (List.range' pre.length (t.length + 1)) o (lastBody (sOf a) ⟨#[10]⟩ a.length)).run = if 0 < kp t then some (pre.length + kp t - 1) else o
  | [], pre, o, e => by
    have no : ¬ (pre.length + (⟨#[10]⟩ : Str).length ≤ a.length ∧ subAt (sOf a) ⟨#[10]⟩ pre.length = true) := fun z => by
      have z2 : pre.length + 1 ≤ a.length := z.1
      rw [e, List.append_nil] at z2
      omega
    show Id.run (forIn [pre.length] o _) = _
    rw [List.forIn_cons]
    unfold lastBody
    rw [if_neg no]
    simp [kp]
  | x :: t, pre, o, e => by
    have ex : a[pre.length]? = some x := by rw [e]; simp
    have hl2 : (sOf a).length = a.length := sOf_len a
    show Id.run (forIn (pre.length :: List.range' (pre.length + 1) (t.length + 1)) o _) = _
    rw [List.forIn_cons]
    have step : lastBody (sOf a) ⟨#[10]⟩ a.length pre.length o = pure (ForInStep.yield (if x = 10 then some pre.length else o)) := by
      unfold lastBody
      by_cases hx : x = 10
      · subst hx
        have sub := (subAt_one (sOf a) 10 pre.length).mpr (by simpa using ex)
        rw [hl2] at sub
        rw [if_pos sub, if_pos rfl]
      · have no : ¬ (pre.length + (⟨#[10]⟩ : Str).length ≤ a.length ∧ subAt (sOf a) ⟨#[10]⟩ pre.length = true) := fun z => by
          have z2 := (subAt_one (sOf a) 10 pre.length).mp ⟨by rw [hl2]; exact z.1, z.2⟩
          have z3 : a[pre.length]? = some 10 := by simpa using z2
          rw [ex] at z3
          exact hx (Option.some.inj z3)
        rw [if_neg no, if_neg hx]
    rw [step]
    have ih := last_kp a t (pre ++ [x]) (if x = 10 then some pre.length else o) (by rw [e]; simp)
    have el : List.length (pre ++ [x]) = pre.length + 1 := by simp
    rw [el] at ih
    refine ih.trans ?_
    rw [kp]
    by_cases h1 : 0 < kp t
    · rw [if_pos h1, if_pos h1, if_pos (by omega)]
      congr 1
      omega
    · rw [if_neg h1, if_neg h1]
      by_cases hx : x = 10
      · rw [if_pos hx, if_pos hx, if_pos (by omega)]
        rfl
      · rw [if_neg hx, if_neg hx, if_neg (by omega)]
theorem rfind_nl (a : List Nat) : Txt.rfind (sOf a) ⟨#[10]⟩ = (kp a : Int) - 1 := by
  unfold Txt.rfind
  rw [last_eq, sOf_len, Nat.sub_zero]
  have z := last_kp a a [] none rfl
  rw [List.length_nil] at z
  rw [z]
  by_cases h : 0 < kp a
  · rw [if_pos h]
    show ((0 + kp a - 1 : Nat) : Int) = _
    omega
  · rw [if_neg h]
    show (-1 : Int) = _
    omega
/-- the whole lines -/
def whole (a : List Nat) : List (List Nat) := (spl a).dropLast
theorem trim_kp : ∀ a : List Nat, ((whole a).map (· ++ [10])).flatten = a.take (kp a)
  | [] => rfl
  | x :: t => by
    have ih := trim_kp t
    unfold whole at ih ⊢
    obtain ⟨p, ps, ep⟩ := spl_some t
    by_cases hx : x = 10
    · subst hx
      rw [spl_nl, List.dropLast_cons_of_ne_nil (spl_ne t), List.map_cons, List.flatten_cons, ih]
      have e : kp (10 :: t) = kp t + 1 := by
        rw [kp]
        by_cases h : 0 < kp t
        · rw [if_pos h]
        · rw [if_neg h, if_pos rfl]; omega
      rw [e]
      rfl
    · rw [spl_cons hx ep]
      rw [ep] at ih
      have hk := kp_le t
      cases ps with
      | nil =>
        have z : (t.take (kp t)).length = 0 := by rw [← ih]; rfl
        rw [List.length_take] at z
        have e : kp (x :: t) = 0 := by rw [kp, if_neg (by omega), if_neg hx]
        rw [e]
        rfl
      | cons q qs =>
        have l : 0 < (t.take (kp t)).length := by
          rw [← ih]
          simp
          omega
        rw [List.length_take] at l
        have e : kp (x :: t) = kp t + 1 := by rw [kp, if_pos (by omega)]
        rw [e, List.take_succ_cons, ← ih]
        simp
/-! what a fall leaves -/
def fallF : List Nat → Nat → Nat → List Nat
  | [], _, _ => []
  | x :: t, 0, r => if x = 10 ∨ r = 0 then [] else x :: fallF t 0 (r - 1)
  | x :: t, k + 1, r => x :: fallF t (if x = 10 then k else k + 1) r
def fallP (t : List Nat) (k r : Nat) : List Nat := (((whole t).take k).map (· ++ [10])).flatten ++ ((spl t).getD ((whole t).take k).length []).take r
/-- whole lines alone -/
def Nl (t : List Nat) : Prop := kp t = t.length
theorem nl_tail {x : Nat} {t : List Nat} (h : Nl (x :: t)) : Nl t := by
  unfold Nl at *
  have := kp_le t
  rw [kp] at h
  split at h
  · simp at h; exact h
  · split at h
    · simp at h; simp [h, kp]
    · simp at h
theorem nl_first {x : Nat} {t : List Nat} (h : Nl (x :: t)) (hx : x ≠ 10) : 0 < kp t := by
  unfold Nl at h
  rw [kp] at h
  split at h
  · assumption
  · simp [hx] at h
theorem fall_eq : ∀ (t : List Nat) (k r : Nat), Nl t → fallP t k r = fallF t k r
  | [], k, r, _ => by simp [fallP, fallF, whole, spl]
  | x :: t, 0, r, h => by
    unfold fallP
    rw [fallF]
    obtain ⟨p, ps, ep⟩ := spl_some t
    by_cases hx : x = 10
    · subst hx
      rw [spl_nl, if_pos (.inl rfl)]
      simp
    · rw [spl_cons hx ep]
      cases r with
      | zero => rw [if_pos (.inr rfl)]; simp
      | succ r =>
        have ih := fall_eq t 0 r (nl_tail h)
        unfold fallP at ih
        rw [ep] at ih
        rw [if_neg (by rintro (z | z); exact hx z; omega)]
        show _ = x :: fallF t 0 r
        rw [← ih]
        simp
  | x :: t, k + 1, r, h => by
    unfold fallP
    rw [fallF]
    obtain ⟨p, ps, ep⟩ := spl_some t
    by_cases hx : x = 10
    · subst hx
      have ih := fall_eq t k r (nl_tail h)
      unfold fallP whole at ih
      unfold whole
      rw [spl_nl, if_pos rfl, List.dropLast_cons_of_ne_nil (spl_ne t), ← ih]
      simp
    · have ih := fall_eq t (k + 1) r (nl_tail h)
      have hk := nl_first h hx
      have tk := trim_kp t
      have kl := kp_le t
      unfold fallP whole at ih
      unfold whole at tk ⊢
      rw [ep] at ih tk
      rw [spl_cons hx ep, if_neg hx, ← ih]
      cases ps with
      | nil =>
        have z : (t.take (kp t)).length = 0 := by rw [← tk]; rfl
        rw [List.length_take] at z
        omega
      | cons q qs => simp
theorem spl_snoc (x : Nat) : ∀ a : List Nat, spl (a ++ [x]) = if x = 10 then spl a ++ [[]] else (spl a).dropLast ++ [(spl a).getLastD [] ++ [x]]
  | [] => by
    by_cases hx : x = 10
    · subst hx; simp [spl]
    · simp [spl, hx]
  | y :: a => by
    have ih := spl_snoc x a
    obtain ⟨p, ps, ep⟩ := spl_some a
    by_cases hy : y = 10
    · subst hy
      rw [List.cons_append, spl_nl, spl_nl, ih, ep]
      by_cases hx : x = 10
      · rw [if_pos hx, if_pos hx]; simp
      · rw [if_neg hx, if_neg hx]; simp
    · rw [List.cons_append, spl_cons hy ep]
      by_cases hx : x = 10
      · rw [if_pos hx, ep] at ih
        rw [if_pos hx, spl_cons hy ih]
        simp
      · rw [if_neg hx, ep] at ih
        rw [if_neg hx]
        cases ps with
        | nil => rw [spl_cons (p := p ++ [x]) (ps := []) hy (by simpa using ih)]; simp
        | cons q qs =>
          rw [spl_cons (p := p) (ps := (q :: qs).dropLast ++ [(q :: qs).getLastD [] ++ [x]]) hy (by rw [ih]; simp)]
          simp
end Q

set_option Elab.async false
set_option linter.all false
set_option maxRecDepth 100000
namespace Q
open PySem PySem.Spec L2
/-! readings, step by step -/
section
variable {D : Ends} {σ : L2.St} {H : Hp} {Q : VK} {K : PySem.W.Frag}
def PropR (C : Addr) (sp : Sp) (Q : VK) (x : V) (H1 : Hp) : Prop := ∃ a dx fs, x = .ref a ∧ H1 a = some (.ins C dx fs) ∧ sp [.ref a] H1 Q E0
theorem g_prop {C : Addr} {sp : Sp} {ta : TE} (h : ta σ H (PropR C sp Q)) : tProp C sp [] E0 ta σ H Q := h
theorem g_propR {C : Addr} {sp : Sp} {a dx : Addr} {fs : List (Str × V)} (h : H a = some (.ins C dx fs)) (q : sp [.ref a] H Q E0) : PropR C sp Q (.ref a) H := ⟨a, dx, fs, rfl, h, q⟩
def M1R (r : V → List V → Hp → VK → Prop) (te : TE) (σ : L2.St) (Q : VK) (x : V) (H1 : Hp) : Prop := (∃ a, x = .str a) ∧ te σ H1 fun y H2 => r x [y] H2 Q
theorem g_m1 {r : V → List V → Hp → VK → Prop} {to te : TE} (h : to σ H (M1R r te σ Q)) : tM1 r to te σ H Q := h
theorem g_m1R {r : V → List V → Hp → VK → Prop} {te : TE} {a : Str} (h : te σ H fun y H2 => r (.str a) [y] H2 Q) : M1R r te σ Q (.str a) H := ⟨⟨a, rfl⟩, h⟩
def FmtR (Q : VK) (x : V) (H1 : Hp) : Prop := (∃ y : Str, x = .str y ∧ y.length ≤ sizeLine ∧ Q (.str y) H1) ∨ ∃ i : Int, x = .int i ∧ i.natAbs.log2 < 1920 ∧ Q (.str (toString i)) H1
theorem g_fmt {te : TE} (h : te σ H (FmtR Q)) : tFmt te σ H Q := h
theorem g_fmtS {y : Str} (l : y.length ≤ sizeLine) (h : Q (.str y) H) : FmtR Q (.str y) H := .inl ⟨y, rfl, l, h⟩
theorem g_fmtI {i : Int} (l : i.natAbs.log2 < 1920) (h : Q (.str (toString i)) H) : FmtR Q (.int i) H := .inr ⟨i, rfl, l, h⟩
def JR (ts : List TE) (acc : Str) (σ : L2.St) (R : Str → Hp → Prop) (x : V) (H1 : Hp) : Prop := ∃ y : Str, x = .str y ∧ (acc ++ y).length ≤ sizeLine ∧ tJs ts (acc ++ y) σ H1 R
theorem g_jsC {t : TE} {ts : List TE} {acc : Str} {R : Str → Hp → Prop} (h : t σ H (JR ts acc σ R)) : tJs (t :: ts) acc σ H R := h
theorem g_jsN {acc : Str} {R : Str → Hp → Prop} (h : R acc H) : tJs [] acc σ H R := h
theorem g_jR {ts : List TE} {acc y : Str} {R : Str → Hp → Prop} (l : (acc ++ y).length ≤ sizeLine) (h : tJs ts (acc ++ y) σ H R) : JR ts acc σ R (.str y) H := ⟨y, rfl, l, h⟩
def MkR (C : Addr) (n m : Nat) (sp : Sp) (gV : List V → List V → List V) (Q : VK) (vs zs : List V) (H2 : Hp) : Prop := vs.length = n ∧ zs.length = m ∧ ∀ x dx, H2 x = none → H2 dx = none → dx ≠ x →
  sp (gV (.ref x :: vs) zs) (upd (upd H2 dx (.own x)) x (.ins C dx [])) (fun v H3 => v = .non ∧ Q (.ref x) H3) E0
theorem g_mk {C : Addr} {n m : Nat} {sp : Sp} {gV : List V → List V → List V} {t tk : TA} (h : t σ H fun vs H1 => tk σ H1 fun zs H2 => MkR C n m sp gV Q vs zs H2) : tMakeK C n m sp gV E0 t tk σ H Q := h
theorem g_mkR {C : Addr} {n m : Nat} {sp : Sp} {gV : List V → List V → List V} {vs zs ws : List V} (h1 : vs.length = n) (h2 : zs.length = m) (e : ∀ x, gV (.ref x :: vs) zs = .ref x :: ws)
    (h : ∀ x dx, H x = none → H dx = none → dx ≠ x → sp (.ref x :: ws) (upd (upd H dx (.own x)) x (.ins C dx [])) (fun v H3 => v = .non ∧ Q (.ref x) H3) E0) : MkR C n m sp gV Q vs zs H :=
  ⟨h1, h2, fun x dx a b c => by rw [e]; exact h x dx a b c⟩
def MtR2 (C : Addr) (m : Str) (n j : Nat) (sp : Sp) (gV : List V → List V → List V) (t tk : TA) (σ : L2.St) (Q : VK) (x : V) (H1 : Hp) : Prop := ∃ a dx fs, x = .ref a ∧ H1 a = some (.ins C dx fs) ∧ fs.lookup m = none ∧
  t σ H1 fun vs H2 => tk σ H2 fun zs H3 => vs.length = n ∧ zs.length = j ∧ sp (gV (.ref a :: vs) zs) H3 Q E0
theorem g_methN {C : Addr} {m : Str} {n j : Nat} {sp : Sp} {gV : List V → List V → List V} {to : TE} {t tk : TA} (h : to σ H (MtR2 C m n j sp gV t tk σ Q)) : tMethN C m n j sp gV E0 to t tk σ H Q := h
def MtR3 (n j : Nat) (sp : Sp) (gV : List V → List V → List V) (a : Addr) (Q : VK) (vs zs : List V) (H3 : Hp) : Prop := vs.length = n ∧ zs.length = j ∧ sp (gV (.ref a :: vs) zs) H3 Q E0
theorem g_methN2 {C : Addr} {m : Str} {n j : Nat} {sp : Sp} {gV : List V → List V → List V} {t tk : TA} {a dx : Addr} {fs : List (Str × V)} (h : H a = some (.ins C dx fs)) (l : fs.lookup m = none)
    (q : t σ H fun vs H2 => tk σ H2 fun zs H3 => MtR3 n j sp gV a Q vs zs H3) : MtR2 C m n j sp gV t tk σ Q (.ref a) H := ⟨a, dx, fs, rfl, h, l, q⟩
theorem g_methN3 {n j : Nat} {sp : Sp} {gV : List V → List V → List V} {a : Addr} {vs zs ws : List V} (h1 : vs.length = n) (h2 : zs.length = j) (e : gV (.ref a :: vs) zs = ws) (h : sp ws H Q E0) : MtR3 n j sp gV a Q vs zs H := ⟨h1, h2, by rw [e]; exact h⟩
theorem g_ownLen {C : Addr} {sp : Sp} {a dx : Addr} {fs : List (Str × V)} (h : H a = some (.ins C dx fs)) (q : sp [.ref a] H (fun v H' => ∃ n : Int, v = .int n ∧ 0 ≤ n ∧ n < 2 ^ 63 ∧ Q (.int n) H') E0) : rOwnLen C sp [.ref a] H Q := ⟨a, dx, fs, rfl, h, q⟩
theorem g_ownRepr {C : Addr} {sp : Sp} {a dx : Addr} {fs : List (Str × V)} (h : H a = some (.ins C dx fs)) (q : sp [.ref a] H (fun v H' => ∃ z : Str, v = .str z ∧ Q (.str z) H') E0) : rOwnRepr C sp [.ref a] H Q := ⟨a, dx, fs, rfl, h, q⟩
theorem g_ownBool {C : Addr} {sp : Sp} {a dx : Addr} {fs : List (Str × V)} (h : H a = some (.ins C dx fs)) (q : sp [.ref a] H (fun v H' => ∃ b : Bool, v = .bl b ∧ Q (.bl b) H') E0) : rOwnBool C sp [.ref a] H Q := ⟨a, dx, fs, rfl, h, q⟩
end
theorem sz_ok {n : Nat} (h : n ≤ 100000) : n ≤ sizeLine := Nat.le_trans h (by decide)
theorem str_app_len (a b : Str) : (a ++ b).length = a.length + b.length := by
  show (a.cps ++ b.cps).size = a.cps.size + b.cps.size
  exact Array.size_append
/-! texts -/
section
variable {σ : L2.St} {H : Hp} {Q : VK} {K : PySem.W.Frag}
theorem g_lenS {z : Str} (l : z.length ≤ sizeLine) (h : Q (.int z.length) H) : (∃ y : Str, [V.str z] = [.str y] ∧ y.length ≤ sizeLine ∧ Q (.int y.length) H) := ⟨z, rfl, l, h⟩
theorem g_slS {z : Str} {lo hi : Option Int} (l : z.length ≤ sizeLine) (h : Q (.str (cutS z lo hi)) H) : rSlS (.str z) lo hi H Q := ⟨z, rfl, l, h⟩
def qMax2 : List V → Hp → VK → Prop := fun xs H Q => ∃ i j, xs = [.int i, .int j] ∧ Q (.int (if j > i then j else i)) H
theorem c_max2 {X : Cx} (c : X.calm = true) : CallR X (.builtin "max") qMax2 := call_max2 c
theorem g_max2 {i j : Int} (h : Q (.int (if j > i then j else i)) H) : qMax2 [.int i, .int j] H Q := ⟨i, j, rfl, h⟩
def qMin2 : List V → Hp → VK → Prop := fun xs H Q => ∃ i j, xs = [.int i, .int j] ∧ Q (.int (if j < i then j else i)) H
theorem c_min2 {X : Cx} (c : X.calm = true) : CallR X (.builtin "min") qMin2 := call_min2 c
theorem g_min2 {i j : Int} (h : Q (.int (if j < i then j else i)) H) : qMin2 [.int i, .int j] H Q := ⟨i, j, rfl, h⟩
theorem g_addS {x y : Str} (l : x.length + y.length ≤ sizeLine) (h : Q (.str (x ++ y)) H) : (∃ i j : Str, V.str x = .str i ∧ V.str y = .str j ∧ i.length + j.length ≤ sizeLine ∧ Q (.str (i ++ j)) H) := ⟨x, y, rfl, rfl, l, h⟩
end
theorem cut_from (cs : List Nat) (n : Nat) : cutS (sOf cs) (some (n : Int)) none = sOf (cs.drop n) := by
  unfold cutS
  rw [HT.sIx_nat, HT.sIx_none, sOf_len]
  show (⟨((cs.drop (min n cs.length)).take (cs.length - min n cs.length)).toArray⟩ : Str) = ⟨(cs.drop n).toArray⟩
  rcases Nat.le_total n cs.length with h | h
  · rw [Nat.min_eq_left h, List.take_of_length_le (by rw [List.length_drop]; omega)]
  · rw [Nat.min_eq_right h, Nat.sub_self, List.take_zero, List.drop_eq_nil_of_le h]
theorem cut_to (cs : List Nat) (n : Nat) : cutS (sOf cs) none (some (n : Int)) = sOf (cs.take n) := by
  unfold cutS
  rw [HT.sIx_nat, HT.sIx_none, sOf_len, Nat.sub_zero]
  show (⟨((cs.drop 0).take (min n cs.length)).toArray⟩ : Str) = ⟨(cs.take n).toArray⟩
  rw [List.drop_zero]
  rcases Nat.le_total n cs.length with h | h
  · rw [Nat.min_eq_left h]
  · rw [Nat.min_eq_right h, List.take_length, List.take_of_length_le h]
theorem cutV_to (xs : List V) (n : Nat) : cutV xs none (some (n : Int)) = xs.take n := by
  unfold cutV
  rw [HT.sIx_nat, HT.sIx_none, Nat.sub_zero, List.drop_zero]
  rcases Nat.le_total n xs.length with h | h
  · rw [Nat.min_eq_left h]
  · rw [Nat.min_eq_right h, List.take_length, List.take_of_length_le h]
theorem cutV_last (xs : List V) : cutV xs none (some (-1)) = xs.dropLast := by
  unfold cutV
  rw [HT.sIx_none, Nat.sub_zero, List.drop_zero]
  have e : HT.sIx xs.length xs.length (some (-1)) = xs.length - 1 := by
    show (if (-1 : Int) < 0 then ((-1 : Int) + (xs.length : Int)).toNat else min (-1 : Int).toNat xs.length) = _
    rw [if_pos (by decide)]
    omega
  rw [e, List.dropLast_eq_take]
/-- a number as a text -/
abbrev nTxt (n : Nat) : Str := Str.ofString (toString (n : Int))
theorem nTxt_len {n : Nat} (h : n < 100000) : (nTxt n).length ≤ 10 := by
  have e := int_text_length_le10 (k := 5) (a := (n : Int)) (by decide) (by show n < 10 ^ 5; omega)
  rw [PySem.ofString_length]
  omega
theorem log_ok {n : Nat} (h : n < 100000) : (n : Int).natAbs.log2 < 1920 := Nat.lt_trans (PySem.Flt.log2_lt_of (k := 20) (by decide) (show n < 2 ^ 20 by omega)) (by decide)
section
variable {K : PySem.W.Frag} {g : TG} {tt : TT} {te : TE} {vs : List Nat} {σ σ0 : L2.St} {H : Hp} {Q : VK} {a : Addr}
/-- a comprehension over a list, an item for each item -/
theorem lcMap {α : Type} {S : List α} {g0 f : α → V} (hw : wipe σ vs = σ0) (hS : SqL K H a (S.map g0)) (hl : S.length ≤ 1000)
    (turn : ∀ (D : Addr) (acc : List V) (x : α) (N : Hp → Prop), H D = none → x ∈ S → TurnD D N (f x) (upd H D (.lst acc)) → Turn1 g tt te vs σ0 D (g0 x) (upd H D (.lst acc)) N)
    (q : ∀ D, H D = none → Q (.ref D) (upd H D (.lst (S.map f)))) : LcG (Itl K a) g tt te vs σ Q H := by
  refine lcL (xs := S.map g0) hw fun D hD => ⟨fun i H' => H' = upd H D (.lst ((S.take i).map f)), rfl, ?_, ?_, ?_⟩
  · rintro i H' _ rfl
    exact (same_new hD).seq hS
  · rintro i x H' hx rfl
    rw [List.getElem?_map, Option.map_eq_some_iff] at hx
    obtain ⟨n, hn, rfl⟩ := hx
    have lt : i < S.length := (List.getElem?_eq_some_iff.mp hn).1
    refine turn D _ n _ hD (List.mem_of_getElem? hn) (g_turnD upd_same ?_ ?_)
    · rw [List.length_map, List.length_take]
      omega
    · dsimp only
      rw [upd_upd, List.take_add_one, hn, List.map_append]
      rfl
  · rintro H' rfl
    rw [List.length_map, List.take_length]
    exact q D hD
end
/-! over the signs of a text -/
section
variable {K : PySem.W.Frag} {g : TG} {tt : TT} {te : TE} {tb : TS} {vs : List Nat} {D0 : Ends} {σ σ0 : L2.St} {H : Hp} {Q : VK} {R : It → Hp → Prop}
def StrR (x : V) (R : It → Hp → Prop) (H : Hp) : Prop := ∃ z, x = .str z ∧ R (Its z) H
theorem g_iStr {te : TE} (h : te σ H fun x H1 => StrR x R H1) : iStr te σ H R := h
theorem g_strR {z : Str} (h : R (Its z) H) : StrR (.str z) R H := ⟨z, rfl, h⟩
theorem forS {cs : List Nat} (h : ∃ Pv : Nat → L2.St → Hp → Prop, Pv 0 σ H ∧
    (∀ i c σ' H', cs[i]? = some c → Pv i σ' H' → g (.str (sOf [c])) σ' H' fun σ2 H2 => tb { D0 with nx := Pv (i + 1), ct := Pv (i + 1), bk := D0.nx } σ2 H2) ∧ ∀ σ' H', Pv cs.length σ' H' → D0.nx σ' H') : ForG (Its (sOf cs)) g tb D0 σ H := by
  obtain ⟨Pv, h0, hs, hd⟩ := h
  have sz : (sOf cs).cps.size = cs.length := sOf_len cs
  refine ⟨fun i m σ H => m = cs.length - i ∧ i ≤ cs.length ∧ Pv i σ H, ⟨cs.length, by simp, Nat.zero_le _, h0⟩, ?_⟩
  rintro i m σ H ⟨rfl, hi, p⟩
  rcases Nat.lt_or_ge i cs.length with lt | ge
  · refine .inr ⟨show i < (sOf cs).cps.size by omega, Pv (i + 1), fun σ' H' p' => ⟨cs.length - (i + 1), by omega, rfl, lt, p'⟩, ?_⟩
    rintro x H' ⟨rfl, c, hc, rfl⟩
    exact hs i c σ _ (by simpa using hc) p
  · have e : i = cs.length := by omega
    subst e
    exact .inl ⟨show (sOf cs).cps.size ≤ cs.length by omega, hd σ H p⟩
theorem lcS {cs : List Nat} {f : Nat → V} (hw : wipe σ vs = σ0) (hl : cs.length ≤ 1000)
    (turn : ∀ (D : Addr) (acc : List V) (c : Nat) (N : Hp → Prop), H D = none → c ∈ cs → TurnD D N (f c) (upd H D (.lst acc)) → Turn1 g tt te vs σ0 D (.str (sOf [c])) (upd H D (.lst acc)) N)
    (q : ∀ D, H D = none → Q (.ref D) (upd H D (.lst (cs.map f)))) : LcG (Its (sOf cs)) g tt te vs σ Q H := by
  subst hw
  intro D hD
  have sz : (sOf cs).cps.size = cs.length := sOf_len cs
  refine ⟨fun i m H' => m = cs.length - i ∧ i ≤ cs.length ∧ H' = upd H D (.lst ((cs.take i).map f)), ⟨cs.length, by simp, Nat.zero_le _, rfl⟩, ?_⟩
  rintro i m H' ⟨rfl, hi, rfl⟩
  rcases Nat.lt_or_ge i cs.length with lt | ge
  · refine .inr ⟨show i < (sOf cs).cps.size by omega, fun H' => H' = upd H D (.lst ((cs.take (i + 1)).map f)), fun H' p' => ⟨cs.length - (i + 1), by omega, rfl, lt, p'⟩, ?_⟩
    rintro x H' ⟨rfl, c, hc, rfl⟩
    have hc2 : cs[i]? = some c := by simpa using hc
    refine turn D _ c _ hD (List.mem_of_getElem? hc2) (g_turnD upd_same (by rw [List.length_map, List.length_take]; omega) ?_)
    rw [upd_upd, List.take_add_one, hc2, List.map_append]
    rfl
  · have e : i = cs.length := by omega
    subst e
    rw [List.take_length]
    exact .inl ⟨show (sOf cs).cps.size ≤ cs.length by omega, q D hD⟩
end
theorem join_len (sep : Str) (xs : List Str) : (Txt.join sep xs).length ≤ (xs.map (·.length)).sum + xs.length * sep.length := by
  unfold Txt.join
  rw [StrLaws.glued_eq_join]
  exact StrLaws.join_length_le sep xs
theorem sum_le {xs : List Nat} {b : Nat} (h : ∀ x ∈ xs, x ≤ b) : xs.sum ≤ xs.length * b := by
  induction xs with
  | nil => simp
  | cons x r ih =>
    have h1 := h x (List.mem_cons_self ..)
    have h2 := ih fun y hy => h y (List.mem_cons_of_mem _ hy)
    rw [List.sum_cons, List.length_cons, Nat.add_mul]
    omega
theorem g_gLst {K : PySem.W.Frag} {n : Nat} {t : TGs} {p : Addr} {xs : List V} {σ : L2.St} {H : Hp} {N : L2.St → Hp → Prop} (c : SqL K H p xs) (e : xs.length = n) (h : t xs σ H N) : gLst K n t (.ref p) σ H N := ⟨p, xs, rfl, c, e, h⟩
end Q

set_option Elab.async false
set_option linter.all false
set_option maxRecDepth 100000
set_option maxHeartbeats 4000000
namespace PySem
open PySem.Builtin.Str
theorem qStrIn {prog : Program} {w : World} {a : Addr} :
    MeetsIn prog w (Builtin.«str.__new__» ⟨[.type "str", .ref a], []⟩) (fun A R s => wpAny (model prog w) A.in1 (Builtin.Str.strOf (.ref a)) (fun v t => R (.ok (.ret v)) t) (fun e t => R (.error e) t) s) :=
  MeetsIn.of_wp fun A R s hs => by
    rw [str_new_tree (.ref a)]
    refine wpAny_bind (wpAny_pure ?_)
    refine wpAny_bind (wpAny_of_eq isSubtype_str_str ?_)
    exact wpAny_bind (wpAny_mono hs (fun r t hq => wpAny_pure ⟨_, rfl, hq⟩) fun _ _ z => z)
end PySem
namespace Q
open PySem PySem.Spec L2
section
variable {X : Cx} {C : Addr} {k : Nat} {ps : List Str} {sp : Sp}
def rOwnStr (C : Addr) (sp : Sp) : List V → Hp → VK → Prop := fun xs H Q => ∃ a dx fs, xs = [.ref a] ∧ H a = some (.ins C dx fs) ∧ sp [.ref a] H (fun v H' => ∃ z : Str, v = .str z ∧ Q (.str z) H') E0
theorem call_ownStr (M : MCal X.prog X.w X.K X.mg X.base C "__str__" k ps sp) (hr : Room (k + 2) X.A) : CallR X (.type "str") (rOwnStr C sp) := by
  intro pins s σ H xs us Q I r h
  obtain ⟨a, dx, fs, rfl, ha, hs⟩ := h
  obtain rfl := Vals.ref1 r
  obtain ⟨f, fd, hm, F, hb⟩ := M.ex
  obtain ⟨_, J, _⟩ := ins_get I.hok ha
  obtain ⟨od, J, _⟩ := J.look
  obtain ⟨mm, hF⟩ := I.fr
  refine qTypeIn PySem.F.called_str (by decide) (PySem.F.typeCall_str_1 _) (PySem.F.newCall_str_1 _) (fun obj => PySem.F.args_object_init_2 obj _) PySem.F.entry_str_new qStrIn ?_
  unfold PySem.Builtin.Str.strOf
  rw [show Builtin.Str.isExactStr (Value.ref a) = false from rfl]
  simp only [Bool.false_eq_true, if_false, pure_bind]
  refine wpAny_bind (wpAny_cRoomFor hr.in1.in1.units0 ?_)
  refine wpAny_bind (m := callSpecial? (.ref a) (Str.ofString "__str__")) (PySem.W.special_fn (I.ok.mod.kin.keeps hF.keep) J hm.at_ (beq_iff_eq.mp hm.fn) (thn (run_own (m := "__str__") F hb hr.in1.in1 rfl I hs) fun u t ⟨z, H', I', rz, b, ez, q⟩ => ?_))
  subst ez
  obtain ⟨tk, rfl⟩ := rz
  show wpAny _ _ (do
    let o ← asStr? (Value.str b tk)
    if o.isNone = true then _ else _) _ _ _
  refine wpAny_bind (wpAny_pure ?_)
  rw [if_neg (by simp)]
  exact wpAny_pure ⟨typeIs_str _ _ _, .str b, H', I', ⟨_, rfl⟩, q⟩
theorem g_ownStr {H : Hp} {Q : VK} {a dx : Addr} {fs : List (Str × V)} (h : H a = some (.ins C dx fs)) (q : sp [.ref a] H (fun v H' => ∃ z : Str, v = .str z ∧ Q (.str z) H') E0) : rOwnStr C sp [.ref a] H Q := ⟨a, dx, fs, rfl, h, q⟩
end
end Q

set_option Elab.async false
set_option linter.all false
set_option maxRecDepth 100000
set_option maxHeartbeats 4000000
/-! own operators, own ==, -x, truth; more facts of the head -/
namespace Q
open PySem PySem.Spec PyProof.Rows L2
section
variable {X : Cx} {C : Addr} {k : Nat} {ps : List Str} {sp : Sp}
/-- a def of a class called with values -/
theorem run_vals {pins : List (Addr × Obj)} {σ : L2.St} {H : Hp} {s : Shared} {m : Str} {vs : List V} {us : List Value} {Q : VK} (M : MCal X.prog X.w X.K X.mg X.base C m k ps sp) (hr : Room k X.A)
    (I : Inv X pins σ H s) (r : Vals vs us) (h : sp vs H Q E0) : ∃ f, Meth X.K C m f ∧ wpAny (model X.prog X.w) X.A (call (.ref f) us) (EP X pins σ Q) X.xe s := by
  obtain ⟨f, fd, hm, F, hb⟩ := M.ex
  exact ⟨f, hm, run_fn F hr hb .nil pass0 I r (by rw [List.append_nil]; exact h)⟩
theorem cmpBack {pins : List (Addr × Obj)} {σ : L2.St} {Q : VK} {v : Value} {s' : Shared} (h : EP X pins σ Q v s') : PySem.W.CmpBack (EP X pins σ Q) v s' := by
  cases v with
  | notImplemented =>
    obtain ⟨z, H', I', rz, _⟩ := h
    cases z with
    | non => cases rz
    | bl b => cases rz
    | int i => obtain ⟨t, e⟩ := rz; cases e
    | str i => obtain ⟨t, e⟩ := rz; cases e
    | byt i => obtain ⟨t, e⟩ := rz; cases e
    | flt i => obtain ⟨t, e⟩ := rz; cases e
    | ref i => cases rz
    | ty i => cases rz
  | _ => exact h
def rOwnBin (C : Addr) (sp : Sp) : R2 := fun x y H Q => ∃ a dx fs b dx2 fs2, x = .ref a ∧ y = .ref b ∧ H a = some (.ins C dx fs) ∧ H b = some (.ins C dx2 fs2) ∧ sp [.ref a, .ref b] H Q E0
theorem op_ownBin {op : Operator} {m : Str} (em : PySem.dunder op.info.2 = m) (sf : PySem.W.selfFirst X.K C = true) (M : MCal X.prog X.w X.K X.mg X.base C m k ps sp) (hr : Room k X.A) : OpR X (binaryOp op) (rOwnBin C sp) := by
  intro pins s σ H x y v u Q I rx ry h
  obtain ⟨a, dx, fs, b, dx2, fs2, rfl, rfl, ha, hb, hs⟩ := h
  cases rx
  cases ry
  obtain ⟨_, J, _⟩ := ins_get I.hok ha
  obtain ⟨od, J, _⟩ := J.look
  obtain ⟨_, J', _⟩ := ins_get I.hok hb
  obtain ⟨od', J', _⟩ := J'.look
  obtain ⟨mm, hF⟩ := I.fr
  obtain ⟨f, hm, hw⟩ := run_vals M hr I (vs := [.ref a, .ref b]) (us := [.ref a, .ref b]) (.cons rfl (.cons rfl .nil)) hs
  exact PySem.W.binop_K hF I.ok.mod.kin J J'.type sf (by rw [em]; exact hm.at_) hm.fn (wpAny_mono hw (fun v s' z => cmpBack z) fun _ _ z => z)
def rOwnEq (K : PySem.W.Frag) (C : Addr) (sp : Sp) : R2 := fun x y H Q => ∃ a dx fs t, x = .ref a ∧ H a = some (.ins C dx fs) ∧ TyX K H y t ∧ PySem.W.notFirst K C t = true ∧ sp [.ref a, y] H Q E0
theorem op_ownEq (M : MCal X.prog X.w X.K X.mg X.base C "__eq__" k ps sp) (hr : Room k X.A) : OpR X (compareOp .Eq) (rOwnEq X.K C sp) := by
  intro pins s σ H x y v u Q I rx ry h
  obtain ⟨a, dx, fs, t, rfl, ha, ty, nf, hs⟩ := h
  cases rx
  obtain ⟨_, J, _⟩ := ins_get I.hok ha
  obtain ⟨od, J, _⟩ := J.look
  obtain ⟨mm, hF⟩ := I.fr
  obtain ⟨P, Z, p, hx⟩ := kit_of I ry ty
  obtain ⟨f, hm, hw⟩ := run_vals M hr I (vs := [.ref a, y]) (us := [.ref a, u]) (.cons rfl (.cons ry .nil)) hs
  exact PySem.W.cmp_K (op := .Eq) (tb := t) hr.units0 hF I.ok.mod.kin J (Z.ty _ _ I.kIn p) nf hm.at_ hm.fn (wpAny_mono hw (fun v s' z => cmpBack z) fun _ _ z => z)
def rOwnUn (C : Addr) (sp : Sp) : V → Hp → VK → Prop := fun x H Q => ∃ a dx fs, x = .ref a ∧ H a = some (.ins C dx fs) ∧ sp [.ref a] H Q E0
theorem un_ownNeg (M : MCal X.prog X.w X.K X.mg X.base C "__neg__" k ps sp) (hr : Room k X.A) : UnR X (unaryOp .USub) (rOwnUn C sp) := by
  intro pins s σ H x v Q I rx h
  obtain ⟨a, dx, fs, rfl, ha, hs⟩ := h
  cases rx
  obtain ⟨_, J, _⟩ := ins_get I.hok ha
  obtain ⟨od, J, _⟩ := J.look
  obtain ⟨mm, hF⟩ := I.fr
  obtain ⟨f, hm, hw⟩ := run_vals M hr I (vs := [.ref a]) (us := [.ref a]) (.cons rfl .nil) hs
  unfold unaryOp
  refine wpAny_holding ?_
  dsimp only
  rw [if_neg (by decide)]
  refine wpAny_bind (m := callSpecial? (.ref a) (Str.ofString "__neg__")) (PySem.W.special_fn (I.ok.mod.kin.keeps hF.keep) J hm.at_ (beq_iff_eq.mp hm.fn) (wpAny_mono hw (fun v s' z => ?_) fun _ _ z => z))
  exact wpAny_pure z
/-- an own object as a test, by its __bool__ -/
theorem pt_ownBool {e : Expr} {ta : TE} (he : PE X e ta) (M : MCal X.prog X.w X.K X.mg X.base C "__bool__" k ps sp) (hr : Room k X.A) (hw : ∀ whole, isTrue e X.env whole = (do let v ← whole; standAt e.pos; holding [v] (truthy v))) :
    PT X e (fun σ H Q => ta σ H fun x H1 => ∃ a dx fs, x = .ref a ∧ H1 a = some (.ins C dx fs) ∧ sp [.ref a] H1 (fun v H' => ∃ b : Bool, v = .bl b ∧ Q b H') E0) := by
  refine ⟨fun pins s σ H Q I h => ?_⟩
  refine isTrue_plain (thn (he.run pins s σ H _ I h) fun v s1 ⟨x, H1, I1, rx, q1⟩ => ?_) (hw _)
  obtain ⟨a, dx, fs, rfl, ha, hs⟩ := q1
  cases rx
  obtain ⟨_, J, _⟩ := ins_get I1.hok ha
  obtain ⟨od, J, _⟩ := J.look
  obtain ⟨mm, hF⟩ := I1.fr
  obtain ⟨f, hm, hw⟩ := run_vals M hr I1 (vs := [.ref a]) (us := [.ref a]) (.cons rfl .nil) hs
  refine PySem.W.truthy_K hF I1.ok.mod.kin J hm.at_ hm.fn (wpAny_mono hw (fun v s' ⟨z, H', I', rz, b, ez, q⟩ => ?_) fun _ _ z => z)
  subst ez
  cases rz
  exact ⟨H', I', q⟩
/-- // of whole numbers of any sign, the divisor below 2 ^ 9000 -/
def CDivZ (_ j : Int) : Prop := j ≠ 0 ∧ j.natAbs.log2 < 9000
theorem op_fdivZ : OpR X (binaryOp .FloorDiv) (rI CDivZ fun i j => .int (i.fdiv j)) := opI fun _ _ _ _ _ _ _ hc q => floordiv_int hc.1 q (.inl (PyProof.noPylong_of_log2 hc.2))
theorem div_z {i j : Int} {b : Nat} (h : j ≠ 0) (hb : j.natAbs < 2 ^ b) (h0 : 0 < b) (h9 : b ≤ 9000) : CDivZ i j := ⟨h, Nat.lt_of_lt_of_le (PySem.Flt.log2_lt_of h0 hb) h9⟩
end
/-! the head's facts, with tests of one's own -/
abbrev AlX : Type := AlP × Bool
def obsX (fa : List He.Fa) (fn : List He.DefD) (pr : List PrpD) (bs : List (PySem.W.Frag → Bool)) (K : PySem.W.Frag) : AlX := (obsP fa fn pr K, bs.all fun b => b K)
def valX (fn : List He.DefD) (pr : List PrpD) : AlX := (valP fn pr, true)
structure SaysX (fa : List He.Fa) (fn : List He.DefD) (pr : List PrpD) (bs : List (PySem.W.Frag → Bool)) (K : PySem.W.Frag) : Prop where
  eq : obsX fa fn pr bs K = valX fn pr
def obsXG (n : Nat) (fa : List He.Fa) (fn : List He.DefD) (pr : List PrpD) (bs : List (PySem.W.Frag → Bool)) (g : Addr → Option Obj) : AlX := obsX fa fn pr bs (He.frG g (He.asD g n))
def hookX (n : Nat) (fa : List He.Fa) (fn : List He.DefD) (pr : List PrpD) (bs : List (PySem.W.Frag → Bool)) : PySem.W.Hook where
  α := AlX
  obs := fun s => obsXG n fa fn pr bs s.heap.get?
  val := fun _ => valX fn pr
  says := fun _ h => ∃ K : PySem.W.Frag, K.In h ∧ SaysX fa fn pr bs K
  of := fun _ _ e => ⟨_, He.frG_in, ⟨e⟩⟩
  keeps := fun _ _ _ ⟨K, inK, c⟩ kp => ⟨K, PySem.W.Frag.In.keeps inK kp, c⟩
theorem obsXG_eq {n : Nat} {fa : List He.Fa} {fn : List He.DefD} {pr : List PrpD} {bs : List (PySem.W.Frag → Bool)} {g : Addr → Option Obj} {s : Shared} (h : ∀ a, g a = s.heap.get? a) : obsXG n fa fn pr bs g = (hookX n fa fn pr bs).obs s := by
  obtain rfl : g = s.heap.get? := funext h
  rfl
section
variable {fa : List He.Fa} {fn : List He.DefD} {pr : List PrpD} {bs : List (PySem.W.Frag → Bool)} {K : PySem.W.Frag}
theorem SaysX.p (c : SaysX fa fn pr bs K) : SaysP fa fn pr K := ⟨congrArg (fun z : AlX => z.1) c.eq⟩
theorem SaysX.test (c : SaysX fa fn pr bs K) (i : Nat) {b : PySem.W.Frag → Bool} (h : bs[i]? = some b := by rfl) : b K = true := by
  have z : (bs.all fun b => b K) = true := congrArg (fun z : AlX => z.2) c.eq
  exact List.all_eq_true.mp z b (List.mem_of_getElem? h)
end
/-! tests of the head -/
/-- an own class asked by isinstance -/
def insB (K : PySem.W.Frag) (c : Str) : Bool := decide (PySem.W.findIn K (.ref (He.ga K c)) "__class__" = some (some (.builtin "object.__class__"))) &&
  (decide (PySem.W.specialIn K (.builtin "object.__class__") "__get__" = some (some (.builtin "getset_descriptor.__get__"))) && (decide (PySem.W.takesIn K (.builtin "object.__class__") = some true) &&
  (decide (PySem.W.mroIn K (He.ga K c) (.type "object") = some true) && PySem.W.selfFirst K (He.ga K c))))
structure InsK (K : PySem.W.Frag) (C : Addr) : Prop where
  ha : PySem.W.findIn K (.ref C) "__class__" = some (some (.builtin "object.__class__"))
  hn : PySem.W.specialIn K (.builtin "object.__class__") "__get__" = some (some (.builtin "getset_descriptor.__get__"))
  htk : PySem.W.takesIn K (.builtin "object.__class__") = some true
  hm : PySem.W.mroIn K C (.type "object") = some true
  sf : PySem.W.selfFirst K C = true
theorem insB_ok {K : PySem.W.Frag} {c : Str} (h : insB K c = true) : InsK K (He.ga K c) := by
  obtain ⟨h1, h⟩ := He.ba h
  obtain ⟨h2, h⟩ := He.ba h
  obtain ⟨h3, h⟩ := He.ba h
  obtain ⟨h4, h5⟩ := He.ba h
  exact ⟨of_decide_eq_true h1, of_decide_eq_true h2, of_decide_eq_true h3, of_decide_eq_true h4, h5⟩
theorem InsK.ty {K : PySem.W.Frag} {C : Addr} {H : Hp} {a dx : Addr} {fs : List (Str × V)} (i : InsK K C) (c : Cls K C) (h : H a = some (.ins C dx fs)) : TyX K H (.ref a) (.ref C) := .base (.ins h c i.ha i.hn i.htk i.hm)
/-- isinstance of a value of the type t against the own class c -/
def kitB1 (K : PySem.W.Frag) (t : Value) (c : Str) (b : Bool) : Bool := decide (PySem.W.kitOne K t (.ref (He.ga K c)) = some b)
/-- a global that is a built-in -/
def bltB (K : PySem.W.Frag) (x : Str) (id : String) : Bool := decide (PySem.W.nsIn K mainGlobals x = some (some (.builtin id)))
theorem bltB_ok {K : PySem.W.Frag} {h : Heap} {mg : Str → Option Value} {x : Str} {id : String} (X : K.In h) (G : h.Ns mainGlobals mg) (c : bltB K x id = true) : mg x = some (.builtin id) := PySem.W.mg_of X G (of_decide_eq_true c)
end Q
namespace Q
open PySem PySem.Spec PyProof.Rows L2
theorem k_ownEq {X : Cx} {K : PySem.W.Frag} {C : Addr} {k : Nat} {ps : List Str} {sp : Sp} (ek : X.K = K) (M : MCal X.prog X.w X.K X.mg X.base C "__eq__" k ps sp) (hr : Room k X.A) : OpR X (compareOp .Eq) (rOwnEq K C sp) := by subst ek; exact op_ownEq M hr
theorem k_revL {X : Cx} {K : PySem.W.Frag} {e : Expr} {te : TE} {k : Nat} {p1 p2 p3 pos : Pos} (ek : X.K = K) (he : PE X e te) : PE X (.Subscript e (.Slice none none (some (.UnaryOp .USub (.Constant (.int 1) k p1) p2)) p3) pos) (tRevL K te) := by subst ek; exact pe_revL he
section
variable {σ : L2.St} {H : Hp} {Q : VK} {K : PySem.W.Frag} {C : Addr} {sp : Sp}
theorem g_ownBin {a b dx dx2 : Addr} {fs fs2 : List (Str × V)} (h1 : H a = some (.ins C dx fs)) (h2 : H b = some (.ins C dx2 fs2)) (q : sp [.ref a, .ref b] H Q E0) : rOwnBin C sp (.ref a) (.ref b) H Q := ⟨a, dx, fs, b, dx2, fs2, rfl, rfl, h1, h2, q⟩
theorem g_ownEq {a dx : Addr} {fs : List (Str × V)} {y : V} {t : Value} (h1 : H a = some (.ins C dx fs)) (ty : TyX K H y t) (nf : PySem.W.notFirst K C t = true) (q : sp [.ref a, y] H Q E0) : rOwnEq K C sp (.ref a) y H Q := ⟨a, dx, fs, t, rfl, h1, ty, nf, q⟩
theorem g_ownUn {a dx : Addr} {fs : List (Str × V)} (h1 : H a = some (.ins C dx fs)) (q : sp [.ref a] H Q E0) : rOwnUn C sp (.ref a) H Q := ⟨a, dx, fs, rfl, h1, q⟩
theorem g_gcd {a b : Int} (q : Q (.int ((Nat.gcd a.natAbs b.natAbs : Nat) : Int)) H) : rGcd [.int a, .int b] H Q := ⟨a, b, rfl, q⟩
/-- isinstance of anything against an own class -/
theorem g_isiC {x : V} {t : Value} {D : Addr} {b : Bool} (ty : TyX K H x t) (e : PySem.W.kitOne K t (.ref D) = some b) (q : Q (.bl b) H) : rIsi K [x, .ref D] H Q := ⟨x, .ref D, t, .ref D, b, rfl, .own D, ty, e, q⟩
end
end Q

set_option Elab.async false
set_option linter.all false
set_option maxRecDepth 100000
set_option maxHeartbeats 4000000
/-! what may raise: methods, own error classes without arguments, the suite -/
namespace Q
open PySem PySem.Spec PyProof.Rows L2
/-- what a caller needs of a method that may raise -/
structure MCalX (P : Program) (w : World) (K : PySem.W.Frag) (mg : Str → Option Value) (base : Heap) (C : Addr) (m : Str) (k : Nat) (ps : List Str) (sp : Sp) : Prop where
  ex : ∃ (f : Addr) (fd : FuncData), Meth K C m f ∧ FnOk P w K mg base (L2.CX P w) k f fd ps sp ∧ Binds K fd ps []
theorem mcalx_mk {P : Program} {w : World} {K : PySem.W.Frag} {mg : Str → Option Value} {base : Heap} {C : Addr} {m : Str} {x q : Str} {pa : Arguments} {bd : List Stmt} {sc : Scope} {dv : List V} {kw : List (Str × V)} {k : Nat} {ps : List Str} {sp : Sp} {f : Addr}
    (me : Meth K C m f) (h : ∃ (fd : FuncData), FunD K x q pa bd sc dv kw f fd)
    (ok : ∀ {f : Addr} {fd : FuncData}, FunD K x q pa bd sc dv kw f fd → FnOk P w K mg base (L2.CX P w) k f fd ps sp)
    (b : ∀ {f : Addr} {fd : FuncData}, FunD K x q pa bd sc dv kw f fd → Binds K fd ps []) : MCalX P w K mg base C m k ps sp := by
  obtain ⟨fd, F⟩ := h
  exact ⟨f, fd, me, ok F, b F⟩
def tMethX (C : Addr) (m : Str) (sp : Sp) (E : L2.St → XK) (ta : TE) (t : TA) : TE := fun σ H Q => ta σ H fun x H1 => ∃ a dx fs, x = .ref a ∧ H1 a = some (.ins C dx fs) ∧ fs.lookup m = none ∧ t σ H1 fun vs H2 => sp (x :: vs) H2 Q (E σ)
section
variable {X : Cx} {C : Addr} {m x : Str} {k : Nat} {ps : List Str} {sp : Sp} {o e : Expr} {es : List Expr} {ta : TE} {t : TA} {E : L2.St → XK} {p pos apos : Pos}
theorem pe_mcalX {pl : Sem Bool} (he : PE X o ta) (c : Cls X.K C) (M : MCalX X.prog X.w X.K X.mg X.base C m k ps sp) (hr : Room k X.A) (hx : ∀ σ, PassesAt (L2.CX X.prog X.w) X σ (E σ)) (ha : PA X (e :: es) t)
    (hst : starEach (e :: es) X.env = (false, eval e X.env) :: starEach es X.env := by rfl) (hpl : (backTo pos (starEach es X.env)).any (·.1) = false := by rfl)
    (ht : eval (.Call (.Attribute o m apos) (e :: es) [] pos) X.env = (do
      let ov ← eval o X.env
      standAt apos.atName
      let (f, first) ← holding [ov] (getMethod ov m pl)
      callWith pos f first (backTo pos (starEach (e :: es) X.env)) (backToKw pos (keywordEach [] X.env))) := by rfl) :
    PE X (.Call (.Attribute o m apos) (e :: es) [] pos) (tMethX C m sp E ta t) := by
  obtain ⟨f, fd, hm, F, hb⟩ := M.ex
  refine ⟨fun pins s σ H Q I h => ?_⟩
  refine PySem.W.methodCall_KW (pl := pl) (thn (he.run pins s σ H _ I h) fun u s1 ⟨y, H1, I1, rx, a, dx, fs, ex, ea, l, q⟩ => ?_) ht
  subst ex
  obtain rfl : u = Value.ref a := rx
  refine getmeth_ok I1 ea c hm l ?_
  refine PySem.W.callWith_K (first := [.ref a]) (h₀ := X.base) I.ok.mod.kin hm.kp (thn (ha.run pos pins s1 σ H1 _ I1 q) fun us s2 ⟨vs, H2, I2, r, q2⟩ => ⟨I2.kIn, ?_⟩) hst hpl
  exact run_fnS (us := .ref a :: us) (vs := .ref a :: vs) F hr hb (hx σ) I2 (.cons rfl r) q2
/-- X(), X an own exception class without own __init__ -/
theorem pmk_own0 {C : Addr} {bmB : List Value} {B newId initId : String} {x : Str} {p : Pos} (F : ExcBaseFacts B newId initId bmB) (q : PySem.W.excIn X.K C bmB newId = true) (gC : X.mg x = some (.ref C))
    (kC : PySem.W.keepIn X.K (.ref C) = true) (r : Raises X (.ref C)) (hg : Gl X x) (hdb : (x == ("__debug__" : Str)) = false := by decide) :
    PMk X (.Call (.Name x p) [] [] pos) (fun _ H Q => Q (.ref C) none H) := by
  intro pins s σ H Q I h
  refine wpAny_Call_Name_kw (ld_glob I hg gC ?_ hdb)
  refine PySem.W.callWith_K0 I.kIn kC ?_
  show wpAny _ _ (call (.ref C) []) _ _ _
  obtain ⟨bm, N, nm, qn, bs, hdct, sn, sub, ab, col, dd, k0, k1, k2, k3, k5, mN, hC, hN, hni, T⟩ := exc_obj I.kIn q
  refine wpAny_call_exc_subT F T hC hN hni (fun h' e hm => ?_) (Nat.zero_le _)
  exact mk_of I hm r h (I.hok.gone hm.new)
end
/-- facts of an own error class without own __init__, over ValueError -/
def excB (K : PySem.W.Frag) (c : Str) : Bool := PySem.W.excIn K (He.ga K c) He.veBase "ValueError.__new__" && (PySem.W.keepIn K (.ref (He.ga K c)) && (decide (PySem.W.subIn K (.ref (He.ga K c)) (.type "BaseException") = some true) &&
  (decide (PySem.W.typeIn K (.ref (He.ga K c)) = some (.type "type")) && (decide (PySem.W.exmOne K (.ref (He.ga K c)) (.ref (He.ga K c)) = some true) &&
  (decide (PySem.W.findIn K (.ref (He.ga K c)) "__getattribute__" = some (some (.builtin "BaseException.__getattribute__"))) && (decide (PySem.W.findIn K (.ref (He.ga K c)) "__getattr__" = some none) && (PySem.W.hasDictIn K (He.ga K c) &&
  (decide (PySem.W.findIn K (.ref (He.ga K c)) "__class__" = some (some (.builtin "object.__class__"))) && (decide (PySem.W.specialIn K (.builtin "object.__class__") "__get__" = some (some (.builtin "getset_descriptor.__get__"))) &&
  (decide (PySem.W.takesIn K (.builtin "object.__class__") = some true) && decide (PySem.W.mroIn K (He.ga K c) (.type "object") = some true)))))))))))
structure ExcK (K : PySem.W.Frag) (C : Addr) : Prop where
  xe : PySem.W.excIn K C He.veBase "ValueError.__new__" = true
  kp : PySem.W.keepIn K (.ref C) = true
  sb : PySem.W.subIn K (.ref C) (.type "BaseException") = some true
  ty : PySem.W.typeIn K (.ref C) = some (.type "type")
  me : PySem.W.exmOne K (.ref C) (.ref C) = some true
  cc : ExcC K C
theorem excB_ok {K : PySem.W.Frag} {c : Str} (h : excB K c = true) : ExcK K (He.ga K c) := by
  obtain ⟨h1, h⟩ := He.ba h
  obtain ⟨h2, h⟩ := He.ba h
  obtain ⟨h3, h⟩ := He.ba h
  obtain ⟨h4, h⟩ := He.ba h
  obtain ⟨h5, h⟩ := He.ba h
  obtain ⟨h6, h⟩ := He.ba h
  obtain ⟨h7, h⟩ := He.ba h
  obtain ⟨h8, h⟩ := He.ba h
  obtain ⟨h9, h⟩ := He.ba h
  obtain ⟨h10, h⟩ := He.ba h
  obtain ⟨h11, h12⟩ := He.ba h
  exact ⟨h1, h2, of_decide_eq_true h3, of_decide_eq_true h4, of_decide_eq_true h5, ⟨of_decide_eq_true h6, of_decide_eq_true h7, of_decide_eq_true h3, h8, of_decide_eq_true h9, of_decide_eq_true h10, of_decide_eq_true h11, of_decide_eq_true h12⟩⟩
end Q

set_option Elab.async false
set_option linter.all false
set_option maxRecDepth 100000
set_option maxHeartbeats 4000000
/-! small readings -/
namespace Q
open PySem PySem.Spec PyProof.Rows L2
theorem sm_putn {H H' : Hp} {p : Addr} {o : HO} (s : Same H H') (hp : H p = none) : Same H (L2.upd H' p o) := fun b u e => by
  rw [upd_ne (ne_of_none e hp)]
  exact s b u e
theorem log_pow {r k : Nat} (h : r < 2 ^ k) (h0 : 0 < k) (hk : k ≤ 1920) : (r : Int).natAbs.log2 < 1920 := Nat.lt_of_lt_of_le (PySem.Flt.log2_lt_of h0 h) hk
theorem log_small {r : Nat} (h : r < 10 ^ 9) : (r : Int).natAbs.log2 < 1920 := log_pow (k := 30) (Nat.lt_trans h (by decide)) (by decide) (by decide)
section
variable {σ : L2.St} {H : Hp} {Q : VK} {K : PySem.W.Frag}
def qAbs : List V → Hp → VK → Prop := fun xs H Q => ∃ i : Int, xs = [.int i] ∧ Q (.int ((i.natAbs : Nat) : Int)) H
theorem c_absN {X : Cx} : CallR X (.builtin "abs") qAbs := fun pins s σ H xs us Q I r ⟨i, e, q⟩ => call_abs pins s σ H xs us Q I r ⟨i, e, by
  rw [show (if i < 0 then -i else i) = ((i.natAbs : Nat) : Int) by split <;> omega]
  exact q⟩
theorem g_absN {i : Int} (q : Q (.int ((i.natAbs : Nat) : Int)) H) : qAbs [.int i] H Q := ⟨i, rfl, q⟩
def RevR (K : PySem.W.Frag) (Q : VK) (x : V) (H1 : Hp) : Prop := ∃ a xs, x = .ref a ∧ SqL K H1 a xs ∧ ∀ p, H1 p = none → Q (.ref p) (upd H1 p (.lst xs.reverse))
theorem g_rev {te : TE} (h : te σ H (RevR K Q)) : tRevL K te σ H Q := h
theorem g_revR {a : Addr} {xs : List V} (h : SqL K H a xs) (q : ∀ p, H p = none → Q (.ref p) (upd H p (.lst xs.reverse))) : RevR K Q (.ref a) H := ⟨a, xs, rfl, h, q⟩
end
end Q
namespace Q
open PySem PySem.Spec PyProof.Rows L2
section
variable {H : Hp} {Q : VK} {K : PySem.W.Frag}
theorem g_isiO {a dx C D : Addr} {fs : List (Str × V)} {b : Bool} (h : H a = some (.ins C dx fs)) (i : InsK K C) (c : Cls K C) (e : PySem.W.kitOne K (.ref C) (.ref D) = some b) (q : Q (.bl b) H) : rIsi K [.ref a, .ref D] H Q := g_isiC (i.ty c h) e q
theorem g_isiB {x : V} {t : String} {D : Addr} {b : Bool} (ty : TyX K H x (.type t)) (e : PySem.W.kitOne K (.type t) (.ref D) = some b) (q : Q (.bl b) H) : rIsi K [x, .ref D] H Q := g_isiC ty e q
end
theorem mul_c {i j : Int} {k : Nat} (hi : i.natAbs < 2 ^ k) (hj : j.natAbs < 2 ^ k) (h0 : 0 < k) (h : k ≤ 500000) : CMulW i j := wide_mul hi hj h0 h0 (by omega)
theorem mul_lt {i j : Int} {a b : Nat} (ha : i.natAbs < 2 ^ a) (hb : j.natAbs < 2 ^ b) : (i * j).natAbs < 2 ^ (a + b) := wide_lt ha hb
theorem add_lt {i j : Int} {a : Nat} (ha : i.natAbs < 2 ^ a) (hb : j.natAbs < 2 ^ a) : (i + j).natAbs < 2 ^ (a + 1) := by
  rw [Nat.pow_succ]
  omega
theorem sub_lt' {i j : Int} {a : Nat} (ha : i.natAbs < 2 ^ a) (hb : j.natAbs < 2 ^ a) : (i - j).natAbs < 2 ^ (a + 1) := by
  rw [Nat.pow_succ]
  omega
theorem lt_pow {x a b : Nat} (h : x < 2 ^ a) (hab : a ≤ b) : x < 2 ^ b := Nat.lt_of_lt_of_le h (Nat.pow_le_pow_right (by decide) hab)
end Q

set_option Elab.async false
set_option linter.all false
set_option maxRecDepth 100000
set_option maxHeartbeats 4000000
/-! != of own objects that have an own == -/
namespace PySem.W
open PySem PySem.Calls PyProof.Rows Builtin
theorem ne_bind (self : Value) : bindSpecial (.builtin "object.__ne__") self = pure (.builtin "object.__ne__", [self]) :=
  (Slot.of (T := "object") (name := "__ne__") (owner := "object") (n := "__ne__") (by rw [typeLookup_type, builtinLookup_eq_fast]; kernel_rfl) (by decide +kernel) (by decide +kernel) (by decide +kernel)
    (.inl (by decide +kernel)) (by rw [isSubtype_type]; kernel_rfl)).bind self
section
variable {prog : Program} {w : World} {A : Around} {E : Value → Shared → Prop} {s : Shared} {K : Frag} {x C L f : Addr} {h₀ : Heap} {m : Str → Option Value} {ox : Obj} {od : Option Obj} {b tb : Value}
theorem ifBound_ne {M : Model} {args : List Value} {Q : Option Value → Shared → Prop} (X : K.In s.heap) (I : InstAt s.heap x ox C od) (hs : findIn K (.ref C) "__ne__" = some (some (.builtin "object.__ne__")))
    (h : wpAny M A (call (.builtin "object.__ne__") (.ref x :: args)) (fun v => Q (some v)) E s) : wpAny M A (callSpecialIfBound? (.ref x) "__ne__" args) Q E s := by
  simp only [callSpecialIfBound?, bindSpecialIfBound?]
  refine wpAny_holding (wpAny_bind (wpAny_bind (wpAny_bind (I.type.here ((looks_findIn X hs).here ?_)))))
  refine wpAny_bind (wpAny_askSetting (wpAny_ite ?_))
  have fin : wpAny M A (call (.builtin "object.__ne__") ([.ref x] ++ args) >>= fun v => pure (some v)) Q E s := wpAny_bind (wpAny_mono h (fun v s' h' => wpAny_pure h') fun _ _ h' => h')
  split
  · exact wpAny_bind ((Looks.of_pure (ne_bind _)).here (wpAny_pure (by exact fin)))
  · exact wpAny_tryCatch (wpAny_bind ((Looks.of_pure (ne_bind _)).here (wpAny_pure (by exact fin))))
theorem entry_ne (X : K.In s.heap) (I : InstAt s.heap x ox C od) (hu : A.units < cLine) (hs : findIn K (.ref C) "__eq__" = some (some (.ref f))) (hf : isFn K (.ref f) = true) {Q : Fin → Shared → Prop}
    (hcall : wpAny (model prog w) A (call (.ref f) [.ref x, b]) (fun v s' => ∃ r, v = .bool r ∧ Q (.done (.ret (.bool (!r)))) s') E s) :
    wpAny (model prog w) A (Builtin.«object.__ne__» ⟨[.ref x, b], []⟩) Q E s := by
  unfold Builtin.«object.__ne__»
  refine wpAny_bind (wpAny_of_eq (a := ((Value.ref x : Value), [b])) (by first | rfl | (simp only [slotArgs]; rfl)) ?_)
  refine wpAny_bind (wpAny_cRoomFor hu ?_)
  refine wpAny_bind (m := callSpecialIfBound? (.ref x) (Str.ofString "__eq__") [b]) (ifBound_K X I hs hf (wpAny_mono hcall (fun r s' hr => ?_) fun _ _ e => e))
  obtain ⟨r, rfl, hq⟩ := hr
  show wpAny _ _ (do
    let b ← truthy (Value.bool r)
    ret (Value.bool !b)) _ _ _
  exact wpAny_bind (wpAny_truthy_bool (wpAny_pure hq))
theorem ne_K {Q : Value → Shared → Prop} (hu : A.units + 1 < cLine) (F : Fr h₀ L s.heap m) (X₀ : K.In h₀) (I : InstAt s.heap x ox C od) (hb : Looks (model prog w) s.heap (typeOf b) tb) (hn : notFirst K C tb = true)
    (hne : findIn K (.ref C) "__ne__" = some (some (.builtin "object.__ne__"))) (hob : subIn K (.ref C) (.type "object") = some true) (hs : findIn K (.ref C) "__eq__" = some (some (.ref f))) (hf : isFn K (.ref f) = true)
    (h : wpAny (model prog w) A.in1 (call (.ref f) [.ref x, b]) (fun v s' => ∃ r, v = .bool r ∧ Q (.bool (!r)) s') E s) : wpAny (model prog w) A (richCompare .NotEq (.ref x) b) Q E s := by
  have X := X₀.keeps F.keep
  have sub : Looks (model prog w) s.heap (isInstance (.ref x) (.type "object")) true := I.type.andThen (looks_subIn X hob)
  have one : wpAny (model prog w) A (tryCompare (.ref x) "__ne__" b) (fun r s' => ∃ v, r = some v ∧ Q v s') E s := by
    unfold tryCompare
    refine wpAny_bind (ifBound_ne X I hne (wpAny_call (codeAny_call_builtin (by decide +kernel) PySem.F.cmpEntry_ne (check_slot PySem.F.cmpKind_ne PySem.F.cmpSplit_ne sub (PySem.F.cmpArgs_ne _ _) ?_))))
    refine entry_ne (A := A.in1) X I hu hs hf (wpAny_mono h (fun v s' hv => ?_) fun _ _ e => e)
    obtain ⟨r, rfl, hq⟩ := hv
    exact ⟨r, rfl, wpAny_pure ⟨_, rfl, hq⟩⟩
  unfold richCompare
  simp only [oneThing_ref]
  refine wpAny_holding (wpAny_bind (wpAny_cRoomFor (Nat.lt_of_succ_lt hu) ?_))
  rw [cmpInfo_NotEq]
  dsimp only
  refine wpAny_bind (I.type.here (wpAny_bind (hb.here ?_)))
  split
  · rename_i q
    have e : subIn K tb (.ref C) = some false := by
      rcases Bool.or_eq_true_iff.mp hn with e | e
      · rw [beq_iff_eq.mp e] at q; simp at q
      · exact beq_iff_eq.mp e
    refine wpAny_bind ((looks_subIn X e).here ?_)
    simp only [Bool.false_eq_true, if_false]
    refine wpAny_bind (wpAny_mono one (fun r s' z => ?_) fun _ _ e => e)
    obtain ⟨v, rfl, hq⟩ := z
    exact wpAny_pure hq
  · refine wpAny_bind (wpAny_pure ?_)
    simp only [Bool.false_eq_true, if_false]
    refine wpAny_bind (wpAny_mono one (fun r s' z => ?_) fun _ _ e => e)
    obtain ⟨v, rfl, hq⟩ := z
    exact wpAny_pure hq
end
end PySem.W
namespace Q
open PySem PySem.Spec PyProof.Rows L2
section
variable {X : Cx} {C : Addr} {k : Nat} {ps : List Str} {sp : Sp}
def rOwnNe (K : PySem.W.Frag) (C : Addr) (sp : Sp) : R2 := fun x y H Q => ∃ a dx fs t, x = .ref a ∧ H a = some (.ins C dx fs) ∧ TyX K H y t ∧ PySem.W.notFirst K C t = true ∧ sp [.ref a, y] H (fun v H' => ∃ b : Bool, v = .bl b ∧ Q (.bl (!b)) H') E0
structure NeK (K : PySem.W.Frag) (C : Addr) : Prop where
  ne : PySem.W.findIn K (.ref C) "__ne__" = some (some (.builtin "object.__ne__"))
  ob : PySem.W.subIn K (.ref C) (.type "object") = some true
def neB (K : PySem.W.Frag) (c : Str) : Bool := decide (PySem.W.findIn K (.ref (He.ga K c)) "__ne__" = some (some (.builtin "object.__ne__"))) && decide (PySem.W.subIn K (.ref (He.ga K c)) (.type "object") = some true)
theorem neB_ok {K : PySem.W.Frag} {c : Str} (h : neB K c = true) : NeK K (He.ga K c) := by
  obtain ⟨h1, h2⟩ := He.ba h
  exact ⟨of_decide_eq_true h1, of_decide_eq_true h2⟩
theorem op_ownNe (n : NeK X.K C) (M : MCal X.prog X.w X.K X.mg X.base C "__eq__" k ps sp) (hr : Room (k + 1) X.A) : OpR X (compareOp .NotEq) (rOwnNe X.K C sp) := by
  intro pins s σ H x y v u Q I rx ry h
  obtain ⟨a, dx, fs, t, rfl, ha, ty, nf, hs⟩ := h
  cases rx
  obtain ⟨_, J, _⟩ := ins_get I.hok ha
  obtain ⟨od, J, _⟩ := J.look
  obtain ⟨mm, hF⟩ := I.fr
  obtain ⟨P, Z, p, hx⟩ := kit_of I ry ty
  obtain ⟨f, fd, hm, F, hb⟩ := M.ex
  refine PySem.W.ne_K (tb := t) hr.in1.units0 hF I.ok.mod.kin J (Z.ty _ _ I.kIn p) nf n.ne n.ob hm.at_ hm.fn ?_
  have e0 : Env0 X.prog X.w X.K X.mg X.base X.A.in1 X.stack s H := by
    have e := I.env0
    exact ⟨e.frames, e.mod, e.bs, e.bsz, e.funs, e.frf, e.hok, e.bare⟩
  have hl := F.len _ _ _ _ hs
  have bt := hb s [.ref a, u] I.kIn (by simpa using hl)
  rw [List.append_nil] at bt
  refine wpAny_call (codeAny_mono (F.run X.A.in1 X.stack s H ⟨[.ref a, u], []⟩ [.ref a, u] [.ref a, y] _ E0 hr.in1 e0 bt (.cons rfl (.cons ry .nil)) hs) fun res t hres => ?_)
  cases res with
  | error e => exact pass0 pins σ H s e t I hres
  | ok fl =>
    cases fl with
    | ret u =>
      obtain ⟨z, H', I', rz, b, ez, q⟩ := I.after hres
      subst ez
      cases rz
      exact ⟨b, rfl, .bl (!b), H', I', rfl, q⟩
    | next => exact False.elim hres
    | brk => exact False.elim hres
    | cont => exact False.elim hres
theorem k_ownNe {X : Cx} {K : PySem.W.Frag} {C : Addr} {k : Nat} {ps : List Str} {sp : Sp} (ek : X.K = K) (n : NeK K C) (M : MCal X.prog X.w X.K X.mg X.base C "__eq__" k ps sp) (hr : Room (k + 1) X.A) : OpR X (compareOp .NotEq) (rOwnNe K C sp) := by subst ek; exact op_ownNe n M hr
theorem g_ownNe {K : PySem.W.Frag} {H : Hp} {Q : VK} {a dx : Addr} {fs : List (Str × V)} {y : V} {t : Value} (h1 : H a = some (.ins C dx fs)) (ty : TyX K H y t) (nf : PySem.W.notFirst K C t = true) (q : sp [.ref a, y] H (fun v H' => ∃ b : Bool, v = .bl b ∧ Q (.bl (!b)) H') E0) : rOwnNe K C sp (.ref a) y H Q := ⟨a, dx, fs, t, rfl, h1, ty, nf, q⟩
end
end Q

set_option Elab.async false
set_option linter.all false
set_option maxRecDepth 100000
/-! sum of a list or a tuple of whole numbers -/
namespace Q
open PySem PySem.Spec PyProof.Rows L2 RZ
theorem cr_sumT {X : Cx} (hc : X.calm = true) : CallR X (.builtin "sum") (fun vs H Q => ∃ (a : Addr) (ns : List Int), vs = [V.ref a] ∧ SqT X.K H a (ns.map V.int) ∧ Q (.int ns.sum) H) := by
  intro pins s σ H xs us Q I r h
  obtain ⟨a, ns, rfl, c, q⟩ := h
  cases r with
  | cons r rr =>
    cases rr
    cases r
    obtain ⟨its, ru, pu, _⟩ := I.tuple c
    have iu := RZ.intsAre_vals ru
    have hd : X.A.in1.handled = none := I.ok.hd hc
    have pt : s.heap.IsTuple a its.toArray := pu
    have lt : a < s.heap.objs.size := by
      obtain ⟨o, e, _⟩ := pt
      exact Heap.lt_size e
    refine call_sum_walkG (wpAny_pyIter_tuple pt ?_)
    have B := begins_tuple a its.toArray
    have W := Walks.tuple (prog := X.prog) (w := X.w) (A := X.A.in1) hd s.heap.objs.size a (Nat.ne_of_lt lt) its.toArray
    refine ⟨_, _, _, _, _, _, fun i => ns.getD i 0, rfl, W, ⟨?_, ?_⟩, ?_, ?_, ?_⟩
    · exact ⟨_, Heap.get?_push_at rfl B.free, rfl, rfl⟩
    · exact B.keeps s.heap _ pt fun b o e => Heap.get?_push_of_some _ e
    · intro b hb
      rcases List.mem_cons.mp hb with e | hb
      · rw [e, Heap.size_push]; exact Nat.lt_succ_self _
      · rw [List.mem_singleton.mp hb, Heap.size_push]; exact Nat.lt_succ_of_lt lt
    · intro i v hv
      exact iu.int_at i v (by simpa using hv)
    · intro h' tk t' kp
      refine ⟨.int ns.sum, H, I.kept (t' := tk) fun b o e => ?_, ?_, q⟩
      · refine kp b o ?_ (Heap.get?_push_of_some _ e)
        intro hb
        rw [List.mem_singleton.mp hb] at e
        exact absurd (Heap.lt_size e) (Nat.lt_irrefl _)
      · refine ⟨t', ?_⟩
        rw [preSum_getD, List.take_of_length_le]
        have := iu.length
        simp [this]
def rSumT (K : PySem.W.Frag) : List V → Hp → VK → Prop := fun vs H Q => ∃ (a : Addr) (ns : List Int), vs = [V.ref a] ∧ SqT K H a (ns.map V.int) ∧ Q (.int ns.sum) H
theorem k_sumT {X : Cx} {K : PySem.W.Frag} (e : X.K = K) (hc : X.calm = true) : CallR X (.builtin "sum") (rSumT K) := by
  subst e
  exact cr_sumT hc
section
variable {H : Hp} {Q : VK} {K : PySem.W.Frag} {a : Addr}
theorem g_sumT {ns : List Int} (h : SqT K H a (ns.map V.int)) (q : Q (.int ns.sum) H) : rSumT K [.ref a] H Q := ⟨a, ns, rfl, h, q⟩
end
section
theorem g_v16 {x0 x1 x2 x3 x4 x5 x6 x7 x8 x9 x10 x11 x12 x13 x14 x15 : Option V} {v : V} {r : L2.St} {H : Hp} {Q : VK} (h : Q v H) : tVar 16 (x0 :: x1 :: x2 :: x3 :: x4 :: x5 :: x6 :: x7 :: x8 :: x9 :: x10 :: x11 :: x12 :: x13 :: x14 :: x15 :: some v :: r) H Q := ⟨v, rfl, h⟩
theorem g_n16 {x0 x1 x2 x3 x4 x5 x6 x7 x8 x9 x10 x11 x12 x13 x14 x15 y : Option V} {v : V} {r : L2.St} {H : Hp} {N : L2.St → Hp → Prop} (h : N (x0 :: x1 :: x2 :: x3 :: x4 :: x5 :: x6 :: x7 :: x8 :: x9 :: x10 :: x11 :: x12 :: x13 :: x14 :: x15 :: some v :: r) H) : gName 16 v (x0 :: x1 :: x2 :: x3 :: x4 :: x5 :: x6 :: x7 :: x8 :: x9 :: x10 :: x11 :: x12 :: x13 :: x14 :: x15 :: y :: r) H N := h
theorem g_v17 {x0 x1 x2 x3 x4 x5 x6 x7 x8 x9 x10 x11 x12 x13 x14 x15 x16 : Option V} {v : V} {r : L2.St} {H : Hp} {Q : VK} (h : Q v H) : tVar 17 (x0 :: x1 :: x2 :: x3 :: x4 :: x5 :: x6 :: x7 :: x8 :: x9 :: x10 :: x11 :: x12 :: x13 :: x14 :: x15 :: x16 :: some v :: r) H Q := ⟨v, rfl, h⟩
theorem g_n17 {x0 x1 x2 x3 x4 x5 x6 x7 x8 x9 x10 x11 x12 x13 x14 x15 x16 y : Option V} {v : V} {r : L2.St} {H : Hp} {N : L2.St → Hp → Prop} (h : N (x0 :: x1 :: x2 :: x3 :: x4 :: x5 :: x6 :: x7 :: x8 :: x9 :: x10 :: x11 :: x12 :: x13 :: x14 :: x15 :: x16 :: some v :: r) H) : gName 17 v (x0 :: x1 :: x2 :: x3 :: x4 :: x5 :: x6 :: x7 :: x8 :: x9 :: x10 :: x11 :: x12 :: x13 :: x14 :: x15 :: x16 :: y :: r) H N := h
theorem g_v18 {x0 x1 x2 x3 x4 x5 x6 x7 x8 x9 x10 x11 x12 x13 x14 x15 x16 x17 : Option V} {v : V} {r : L2.St} {H : Hp} {Q : VK} (h : Q v H) : tVar 18 (x0 :: x1 :: x2 :: x3 :: x4 :: x5 :: x6 :: x7 :: x8 :: x9 :: x10 :: x11 :: x12 :: x13 :: x14 :: x15 :: x16 :: x17 :: some v :: r) H Q := ⟨v, rfl, h⟩
theorem g_n18 {x0 x1 x2 x3 x4 x5 x6 x7 x8 x9 x10 x11 x12 x13 x14 x15 x16 x17 y : Option V} {v : V} {r : L2.St} {H : Hp} {N : L2.St → Hp → Prop} (h : N (x0 :: x1 :: x2 :: x3 :: x4 :: x5 :: x6 :: x7 :: x8 :: x9 :: x10 :: x11 :: x12 :: x13 :: x14 :: x15 :: x16 :: x17 :: some v :: r) H) : gName 18 v (x0 :: x1 :: x2 :: x3 :: x4 :: x5 :: x6 :: x7 :: x8 :: x9 :: x10 :: x11 :: x12 :: x13 :: x14 :: x15 :: x16 :: x17 :: y :: r) H N := h
theorem g_v19 {x0 x1 x2 x3 x4 x5 x6 x7 x8 x9 x10 x11 x12 x13 x14 x15 x16 x17 x18 : Option V} {v : V} {r : L2.St} {H : Hp} {Q : VK} (h : Q v H) : tVar 19 (x0 :: x1 :: x2 :: x3 :: x4 :: x5 :: x6 :: x7 :: x8 :: x9 :: x10 :: x11 :: x12 :: x13 :: x14 :: x15 :: x16 :: x17 :: x18 :: some v :: r) H Q := ⟨v, rfl, h⟩
theorem g_n19 {x0 x1 x2 x3 x4 x5 x6 x7 x8 x9 x10 x11 x12 x13 x14 x15 x16 x17 x18 y : Option V} {v : V} {r : L2.St} {H : Hp} {N : L2.St → Hp → Prop} (h : N (x0 :: x1 :: x2 :: x3 :: x4 :: x5 :: x6 :: x7 :: x8 :: x9 :: x10 :: x11 :: x12 :: x13 :: x14 :: x15 :: x16 :: x17 :: x18 :: some v :: r) H) : gName 19 v (x0 :: x1 :: x2 :: x3 :: x4 :: x5 :: x6 :: x7 :: x8 :: x9 :: x10 :: x11 :: x12 :: x13 :: x14 :: x15 :: x16 :: x17 :: x18 :: y :: r) H N := h
theorem g_v20 {x0 x1 x2 x3 x4 x5 x6 x7 x8 x9 x10 x11 x12 x13 x14 x15 x16 x17 x18 x19 : Option V} {v : V} {r : L2.St} {H : Hp} {Q : VK} (h : Q v H) : tVar 20 (x0 :: x1 :: x2 :: x3 :: x4 :: x5 :: x6 :: x7 :: x8 :: x9 :: x10 :: x11 :: x12 :: x13 :: x14 :: x15 :: x16 :: x17 :: x18 :: x19 :: some v :: r) H Q := ⟨v, rfl, h⟩
theorem g_n20 {x0 x1 x2 x3 x4 x5 x6 x7 x8 x9 x10 x11 x12 x13 x14 x15 x16 x17 x18 x19 y : Option V} {v : V} {r : L2.St} {H : Hp} {N : L2.St → Hp → Prop} (h : N (x0 :: x1 :: x2 :: x3 :: x4 :: x5 :: x6 :: x7 :: x8 :: x9 :: x10 :: x11 :: x12 :: x13 :: x14 :: x15 :: x16 :: x17 :: x18 :: x19 :: some v :: r) H) : gName 20 v (x0 :: x1 :: x2 :: x3 :: x4 :: x5 :: x6 :: x7 :: x8 :: x9 :: x10 :: x11 :: x12 :: x13 :: x14 :: x15 :: x16 :: x17 :: x18 :: x19 :: y :: r) H N := h
theorem g_v21 {x0 x1 x2 x3 x4 x5 x6 x7 x8 x9 x10 x11 x12 x13 x14 x15 x16 x17 x18 x19 x20 : Option V} {v : V} {r : L2.St} {H : Hp} {Q : VK} (h : Q v H) : tVar 21 (x0 :: x1 :: x2 :: x3 :: x4 :: x5 :: x6 :: x7 :: x8 :: x9 :: x10 :: x11 :: x12 :: x13 :: x14 :: x15 :: x16 :: x17 :: x18 :: x19 :: x20 :: some v :: r) H Q := ⟨v, rfl, h⟩
theorem g_n21 {x0 x1 x2 x3 x4 x5 x6 x7 x8 x9 x10 x11 x12 x13 x14 x15 x16 x17 x18 x19 x20 y : Option V} {v : V} {r : L2.St} {H : Hp} {N : L2.St → Hp → Prop} (h : N (x0 :: x1 :: x2 :: x3 :: x4 :: x5 :: x6 :: x7 :: x8 :: x9 :: x10 :: x11 :: x12 :: x13 :: x14 :: x15 :: x16 :: x17 :: x18 :: x19 :: x20 :: some v :: r) H) : gName 21 v (x0 :: x1 :: x2 :: x3 :: x4 :: x5 :: x6 :: x7 :: x8 :: x9 :: x10 :: x11 :: x12 :: x13 :: x14 :: x15 :: x16 :: x17 :: x18 :: x19 :: x20 :: y :: r) H N := h
theorem g_v22 {x0 x1 x2 x3 x4 x5 x6 x7 x8 x9 x10 x11 x12 x13 x14 x15 x16 x17 x18 x19 x20 x21 : Option V} {v : V} {r : L2.St} {H : Hp} {Q : VK} (h : Q v H) : tVar 22 (x0 :: x1 :: x2 :: x3 :: x4 :: x5 :: x6 :: x7 :: x8 :: x9 :: x10 :: x11 :: x12 :: x13 :: x14 :: x15 :: x16 :: x17 :: x18 :: x19 :: x20 :: x21 :: some v :: r) H Q := ⟨v, rfl, h⟩
theorem g_n22 {x0 x1 x2 x3 x4 x5 x6 x7 x8 x9 x10 x11 x12 x13 x14 x15 x16 x17 x18 x19 x20 x21 y : Option V} {v : V} {r : L2.St} {H : Hp} {N : L2.St → Hp → Prop} (h : N (x0 :: x1 :: x2 :: x3 :: x4 :: x5 :: x6 :: x7 :: x8 :: x9 :: x10 :: x11 :: x12 :: x13 :: x14 :: x15 :: x16 :: x17 :: x18 :: x19 :: x20 :: x21 :: some v :: r) H) : gName 22 v (x0 :: x1 :: x2 :: x3 :: x4 :: x5 :: x6 :: x7 :: x8 :: x9 :: x10 :: x11 :: x12 :: x13 :: x14 :: x15 :: x16 :: x17 :: x18 :: x19 :: x20 :: x21 :: y :: r) H N := h
theorem g_v23 {x0 x1 x2 x3 x4 x5 x6 x7 x8 x9 x10 x11 x12 x13 x14 x15 x16 x17 x18 x19 x20 x21 x22 : Option V} {v : V} {r : L2.St} {H : Hp} {Q : VK} (h : Q v H) : tVar 23 (x0 :: x1 :: x2 :: x3 :: x4 :: x5 :: x6 :: x7 :: x8 :: x9 :: x10 :: x11 :: x12 :: x13 :: x14 :: x15 :: x16 :: x17 :: x18 :: x19 :: x20 :: x21 :: x22 :: some v :: r) H Q := ⟨v, rfl, h⟩
theorem g_n23 {x0 x1 x2 x3 x4 x5 x6 x7 x8 x9 x10 x11 x12 x13 x14 x15 x16 x17 x18 x19 x20 x21 x22 y : Option V} {v : V} {r : L2.St} {H : Hp} {N : L2.St → Hp → Prop} (h : N (x0 :: x1 :: x2 :: x3 :: x4 :: x5 :: x6 :: x7 :: x8 :: x9 :: x10 :: x11 :: x12 :: x13 :: x14 :: x15 :: x16 :: x17 :: x18 :: x19 :: x20 :: x21 :: x22 :: some v :: r) H) : gName 23 v (x0 :: x1 :: x2 :: x3 :: x4 :: x5 :: x6 :: x7 :: x8 :: x9 :: x10 :: x11 :: x12 :: x13 :: x14 :: x15 :: x16 :: x17 :: x18 :: x19 :: x20 :: x21 :: x22 :: y :: r) H N := h
theorem g_v24 {x0 x1 x2 x3 x4 x5 x6 x7 x8 x9 x10 x11 x12 x13 x14 x15 x16 x17 x18 x19 x20 x21 x22 x23 : Option V} {v : V} {r : L2.St} {H : Hp} {Q : VK} (h : Q v H) : tVar 24 (x0 :: x1 :: x2 :: x3 :: x4 :: x5 :: x6 :: x7 :: x8 :: x9 :: x10 :: x11 :: x12 :: x13 :: x14 :: x15 :: x16 :: x17 :: x18 :: x19 :: x20 :: x21 :: x22 :: x23 :: some v :: r) H Q := ⟨v, rfl, h⟩
theorem g_n24 {x0 x1 x2 x3 x4 x5 x6 x7 x8 x9 x10 x11 x12 x13 x14 x15 x16 x17 x18 x19 x20 x21 x22 x23 y : Option V} {v : V} {r : L2.St} {H : Hp} {N : L2.St → Hp → Prop} (h : N (x0 :: x1 :: x2 :: x3 :: x4 :: x5 :: x6 :: x7 :: x8 :: x9 :: x10 :: x11 :: x12 :: x13 :: x14 :: x15 :: x16 :: x17 :: x18 :: x19 :: x20 :: x21 :: x22 :: x23 :: some v :: r) H) : gName 24 v (x0 :: x1 :: x2 :: x3 :: x4 :: x5 :: x6 :: x7 :: x8 :: x9 :: x10 :: x11 :: x12 :: x13 :: x14 :: x15 :: x16 :: x17 :: x18 :: x19 :: x20 :: x21 :: x22 :: x23 :: y :: r) H N := h
theorem g_v25 {x0 x1 x2 x3 x4 x5 x6 x7 x8 x9 x10 x11 x12 x13 x14 x15 x16 x17 x18 x19 x20 x21 x22 x23 x24 : Option V} {v : V} {r : L2.St} {H : Hp} {Q : VK} (h : Q v H) : tVar 25 (x0 :: x1 :: x2 :: x3 :: x4 :: x5 :: x6 :: x7 :: x8 :: x9 :: x10 :: x11 :: x12 :: x13 :: x14 :: x15 :: x16 :: x17 :: x18 :: x19 :: x20 :: x21 :: x22 :: x23 :: x24 :: some v :: r) H Q := ⟨v, rfl, h⟩
theorem g_n25 {x0 x1 x2 x3 x4 x5 x6 x7 x8 x9 x10 x11 x12 x13 x14 x15 x16 x17 x18 x19 x20 x21 x22 x23 x24 y : Option V} {v : V} {r : L2.St} {H : Hp} {N : L2.St → Hp → Prop} (h : N (x0 :: x1 :: x2 :: x3 :: x4 :: x5 :: x6 :: x7 :: x8 :: x9 :: x10 :: x11 :: x12 :: x13 :: x14 :: x15 :: x16 :: x17 :: x18 :: x19 :: x20 :: x21 :: x22 :: x23 :: x24 :: some v :: r) H) : gName 25 v (x0 :: x1 :: x2 :: x3 :: x4 :: x5 :: x6 :: x7 :: x8 :: x9 :: x10 :: x11 :: x12 :: x13 :: x14 :: x15 :: x16 :: x17 :: x18 :: x19 :: x20 :: x21 :: x22 :: x23 :: x24 :: y :: r) H N := h
theorem g_v26 {x0 x1 x2 x3 x4 x5 x6 x7 x8 x9 x10 x11 x12 x13 x14 x15 x16 x17 x18 x19 x20 x21 x22 x23 x24 x25 : Option V} {v : V} {r : L2.St} {H : Hp} {Q : VK} (h : Q v H) : tVar 26 (x0 :: x1 :: x2 :: x3 :: x4 :: x5 :: x6 :: x7 :: x8 :: x9 :: x10 :: x11 :: x12 :: x13 :: x14 :: x15 :: x16 :: x17 :: x18 :: x19 :: x20 :: x21 :: x22 :: x23 :: x24 :: x25 :: some v :: r) H Q := ⟨v, rfl, h⟩
theorem g_n26 {x0 x1 x2 x3 x4 x5 x6 x7 x8 x9 x10 x11 x12 x13 x14 x15 x16 x17 x18 x19 x20 x21 x22 x23 x24 x25 y : Option V} {v : V} {r : L2.St} {H : Hp} {N : L2.St → Hp → Prop} (h : N (x0 :: x1 :: x2 :: x3 :: x4 :: x5 :: x6 :: x7 :: x8 :: x9 :: x10 :: x11 :: x12 :: x13 :: x14 :: x15 :: x16 :: x17 :: x18 :: x19 :: x20 :: x21 :: x22 :: x23 :: x24 :: x25 :: some v :: r) H) : gName 26 v (x0 :: x1 :: x2 :: x3 :: x4 :: x5 :: x6 :: x7 :: x8 :: x9 :: x10 :: x11 :: x12 :: x13 :: x14 :: x15 :: x16 :: x17 :: x18 :: x19 :: x20 :: x21 :: x22 :: x23 :: x24 :: x25 :: y :: r) H N := h
theorem g_v27 {x0 x1 x2 x3 x4 x5 x6 x7 x8 x9 x10 x11 x12 x13 x14 x15 x16 x17 x18 x19 x20 x21 x22 x23 x24 x25 x26 : Option V} {v : V} {r : L2.St} {H : Hp} {Q : VK} (h : Q v H) : tVar 27 (x0 :: x1 :: x2 :: x3 :: x4 :: x5 :: x6 :: x7 :: x8 :: x9 :: x10 :: x11 :: x12 :: x13 :: x14 :: x15 :: x16 :: x17 :: x18 :: x19 :: x20 :: x21 :: x22 :: x23 :: x24 :: x25 :: x26 :: some v :: r) H Q := ⟨v, rfl, h⟩
theorem g_n27 {x0 x1 x2 x3 x4 x5 x6 x7 x8 x9 x10 x11 x12 x13 x14 x15 x16 x17 x18 x19 x20 x21 x22 x23 x24 x25 x26 y : Option V} {v : V} {r : L2.St} {H : Hp} {N : L2.St → Hp → Prop} (h : N (x0 :: x1 :: x2 :: x3 :: x4 :: x5 :: x6 :: x7 :: x8 :: x9 :: x10 :: x11 :: x12 :: x13 :: x14 :: x15 :: x16 :: x17 :: x18 :: x19 :: x20 :: x21 :: x22 :: x23 :: x24 :: x25 :: x26 :: some v :: r) H) : gName 27 v (x0 :: x1 :: x2 :: x3 :: x4 :: x5 :: x6 :: x7 :: x8 :: x9 :: x10 :: x11 :: x12 :: x13 :: x14 :: x15 :: x16 :: x17 :: x18 :: x19 :: x20 :: x21 :: x22 :: x23 :: x24 :: x25 :: x26 :: y :: r) H N := h
theorem g_v28 {x0 x1 x2 x3 x4 x5 x6 x7 x8 x9 x10 x11 x12 x13 x14 x15 x16 x17 x18 x19 x20 x21 x22 x23 x24 x25 x26 x27 : Option V} {v : V} {r : L2.St} {H : Hp} {Q : VK} (h : Q v H) : tVar 28 (x0 :: x1 :: x2 :: x3 :: x4 :: x5 :: x6 :: x7 :: x8 :: x9 :: x10 :: x11 :: x12 :: x13 :: x14 :: x15 :: x16 :: x17 :: x18 :: x19 :: x20 :: x21 :: x22 :: x23 :: x24 :: x25 :: x26 :: x27 :: some v :: r) H Q := ⟨v, rfl, h⟩
theorem g_n28 {x0 x1 x2 x3 x4 x5 x6 x7 x8 x9 x10 x11 x12 x13 x14 x15 x16 x17 x18 x19 x20 x21 x22 x23 x24 x25 x26 x27 y : Option V} {v : V} {r : L2.St} {H : Hp} {N : L2.St → Hp → Prop} (h : N (x0 :: x1 :: x2 :: x3 :: x4 :: x5 :: x6 :: x7 :: x8 :: x9 :: x10 :: x11 :: x12 :: x13 :: x14 :: x15 :: x16 :: x17 :: x18 :: x19 :: x20 :: x21 :: x22 :: x23 :: x24 :: x25 :: x26 :: x27 :: some v :: r) H) : gName 28 v (x0 :: x1 :: x2 :: x3 :: x4 :: x5 :: x6 :: x7 :: x8 :: x9 :: x10 :: x11 :: x12 :: x13 :: x14 :: x15 :: x16 :: x17 :: x18 :: x19 :: x20 :: x21 :: x22 :: x23 :: x24 :: x25 :: x26 :: x27 :: y :: r) H N := h
theorem g_v29 {x0 x1 x2 x3 x4 x5 x6 x7 x8 x9 x10 x11 x12 x13 x14 x15 x16 x17 x18 x19 x20 x21 x22 x23 x24 x25 x26 x27 x28 : Option V} {v : V} {r : L2.St} {H : Hp} {Q : VK} (h : Q v H) : tVar 29 (x0 :: x1 :: x2 :: x3 :: x4 :: x5 :: x6 :: x7 :: x8 :: x9 :: x10 :: x11 :: x12 :: x13 :: x14 :: x15 :: x16 :: x17 :: x18 :: x19 :: x20 :: x21 :: x22 :: x23 :: x24 :: x25 :: x26 :: x27 :: x28 :: some v :: r) H Q := ⟨v, rfl, h⟩
theorem g_n29 {x0 x1 x2 x3 x4 x5 x6 x7 x8 x9 x10 x11 x12 x13 x14 x15 x16 x17 x18 x19 x20 x21 x22 x23 x24 x25 x26 x27 x28 y : Option V} {v : V} {r : L2.St} {H : Hp} {N : L2.St → Hp → Prop} (h : N (x0 :: x1 :: x2 :: x3 :: x4 :: x5 :: x6 :: x7 :: x8 :: x9 :: x10 :: x11 :: x12 :: x13 :: x14 :: x15 :: x16 :: x17 :: x18 :: x19 :: x20 :: x21 :: x22 :: x23 :: x24 :: x25 :: x26 :: x27 :: x28 :: some v :: r) H) : gName 29 v (x0 :: x1 :: x2 :: x3 :: x4 :: x5 :: x6 :: x7 :: x8 :: x9 :: x10 :: x11 :: x12 :: x13 :: x14 :: x15 :: x16 :: x17 :: x18 :: x19 :: x20 :: x21 :: x22 :: x23 :: x24 :: x25 :: x26 :: x27 :: x28 :: y :: r) H N := h
theorem g_v30 {x0 x1 x2 x3 x4 x5 x6 x7 x8 x9 x10 x11 x12 x13 x14 x15 x16 x17 x18 x19 x20 x21 x22 x23 x24 x25 x26 x27 x28 x29 : Option V} {v : V} {r : L2.St} {H : Hp} {Q : VK} (h : Q v H) : tVar 30 (x0 :: x1 :: x2 :: x3 :: x4 :: x5 :: x6 :: x7 :: x8 :: x9 :: x10 :: x11 :: x12 :: x13 :: x14 :: x15 :: x16 :: x17 :: x18 :: x19 :: x20 :: x21 :: x22 :: x23 :: x24 :: x25 :: x26 :: x27 :: x28 :: x29 :: some v :: r) H Q := ⟨v, rfl, h⟩
theorem g_n30 {x0 x1 x2 x3 x4 x5 x6 x7 x8 x9 x10 x11 x12 x13 x14 x15 x16 x17 x18 x19 x20 x21 x22 x23 x24 x25 x26 x27 x28 x29 y : Option V} {v : V} {r : L2.St} {H : Hp} {N : L2.St → Hp → Prop} (h : N (x0 :: x1 :: x2 :: x3 :: x4 :: x5 :: x6 :: x7 :: x8 :: x9 :: x10 :: x11 :: x12 :: x13 :: x14 :: x15 :: x16 :: x17 :: x18 :: x19 :: x20 :: x21 :: x22 :: x23 :: x24 :: x25 :: x26 :: x27 :: x28 :: x29 :: some v :: r) H) : gName 30 v (x0 :: x1 :: x2 :: x3 :: x4 :: x5 :: x6 :: x7 :: x8 :: x9 :: x10 :: x11 :: x12 :: x13 :: x14 :: x15 :: x16 :: x17 :: x18 :: x19 :: x20 :: x21 :: x22 :: x23 :: x24 :: x25 :: x26 :: x27 :: x28 :: x29 :: y :: r) H N := h
theorem g_v31 {x0 x1 x2 x3 x4 x5 x6 x7 x8 x9 x10 x11 x12 x13 x14 x15 x16 x17 x18 x19 x20 x21 x22 x23 x24 x25 x26 x27 x28 x29 x30 : Option V} {v : V} {r : L2.St} {H : Hp} {Q : VK} (h : Q v H) : tVar 31 (x0 :: x1 :: x2 :: x3 :: x4 :: x5 :: x6 :: x7 :: x8 :: x9 :: x10 :: x11 :: x12 :: x13 :: x14 :: x15 :: x16 :: x17 :: x18 :: x19 :: x20 :: x21 :: x22 :: x23 :: x24 :: x25 :: x26 :: x27 :: x28 :: x29 :: x30 :: some v :: r) H Q := ⟨v, rfl, h⟩
theorem g_n31 {x0 x1 x2 x3 x4 x5 x6 x7 x8 x9 x10 x11 x12 x13 x14 x15 x16 x17 x18 x19 x20 x21 x22 x23 x24 x25 x26 x27 x28 x29 x30 y : Option V} {v : V} {r : L2.St} {H : Hp} {N : L2.St → Hp → Prop} (h : N (x0 :: x1 :: x2 :: x3 :: x4 :: x5 :: x6 :: x7 :: x8 :: x9 :: x10 :: x11 :: x12 :: x13 :: x14 :: x15 :: x16 :: x17 :: x18 :: x19 :: x20 :: x21 :: x22 :: x23 :: x24 :: x25 :: x26 :: x27 :: x28 :: x29 :: x30 :: some v :: r) H) : gName 31 v (x0 :: x1 :: x2 :: x3 :: x4 :: x5 :: x6 :: x7 :: x8 :: x9 :: x10 :: x11 :: x12 :: x13 :: x14 :: x15 :: x16 :: x17 :: x18 :: x19 :: x20 :: x21 :: x22 :: x23 :: x24 :: x25 :: x26 :: x27 :: x28 :: x29 :: x30 :: y :: r) H N := h
end
end Q

set_option Elab.async false
set_option linter.all false
/-! fractions and number words: mathematics -/
namespace Q
open PySem
/-! ### lowest terms -/
def cmn (n d : Int) : Int := if d < 0 then -((Nat.gcd n.natAbs d.natAbs : Nat) : Int) else ((Nat.gcd n.natAbs d.natAbs : Nat) : Int)
def nT (n d : Int) : Int := n.fdiv (cmn n d)
def nB (n d : Int) : Int := d.fdiv (cmn n d)
/-- t / b in lowest terms -/
def Nrm (t b : Int) : Prop := 0 < b ∧ Nat.gcd t.natAbs b.natAbs = 1
/-- t / b in lowest terms is n / d -/
def Rep (t b n d : Int) : Prop := d ≠ 0 ∧ Nrm t b ∧ t * d = n * b
theorem gcd_pos {n d : Int} (h : d ≠ 0) : 0 < Nat.gcd n.natAbs d.natAbs := Nat.gcd_pos_of_pos_right _ (Int.natAbs_pos.mpr h)
theorem cmn_ne {n d : Int} (h : d ≠ 0) : cmn n d ≠ 0 := by
  have := gcd_pos (n := n) h
  unfold cmn
  split <;> omega
theorem cmn_abs (n d : Int) : (cmn n d).natAbs = Nat.gcd n.natAbs d.natAbs := by
  unfold cmn
  split <;> omega
theorem cmn_n (n d : Int) : nT n d * cmn n d = n := by
  unfold nT
  exact Int.fdiv_mul_cancel (Int.natAbs_dvd_natAbs.mp (by rw [cmn_abs]; exact Nat.gcd_dvd_left _ _))
theorem cmn_d (n d : Int) : nB n d * cmn n d = d := by
  unfold nB
  exact Int.fdiv_mul_cancel (Int.natAbs_dvd_natAbs.mp (by rw [cmn_abs]; exact Nat.gcd_dvd_right _ _))
theorem nB_pos {n d : Int} (h : d ≠ 0) : 0 < nB n d := by
  have e := cmn_d n d
  have g := gcd_pos (n := n) h
  rcases Int.lt_or_lt_of_ne h with h1 | h1
  · have c : cmn n d < 0 := by unfold cmn; rw [if_pos h1]; omega
    rcases Int.lt_trichotomy (nB n d) 0 with z | z | z
    · have := Int.mul_pos_of_neg_of_neg z c; omega
    · rw [z, Int.zero_mul] at e; omega
    · exact z
  · have c : 0 < cmn n d := by unfold cmn; rw [if_neg (by omega)]; omega
    rcases Int.lt_trichotomy (nB n d) 0 with z | z | z
    · have := Int.mul_neg_of_neg_of_pos z c; omega
    · rw [z, Int.zero_mul] at e; omega
    · exact z
theorem nrm {n d : Int} (h : d ≠ 0) : Nrm (nT n d) (nB n d) := by
  refine ⟨nB_pos h, ?_⟩
  have g := gcd_pos (n := n) h
  have e1 : (nT n d).natAbs * Nat.gcd n.natAbs d.natAbs = n.natAbs := by rw [← cmn_abs, ← Int.natAbs_mul, cmn_n]
  have e2 : (nB n d).natAbs * Nat.gcd n.natAbs d.natAbs = d.natAbs := by rw [← cmn_abs, ← Int.natAbs_mul, cmn_d]
  have e3 : Nat.gcd ((nT n d).natAbs * Nat.gcd n.natAbs d.natAbs) ((nB n d).natAbs * Nat.gcd n.natAbs d.natAbs) = Nat.gcd n.natAbs d.natAbs := by rw [e1, e2]
  rw [Nat.gcd_mul_right] at e3
  exact Nat.eq_of_mul_eq_mul_right g (by rw [e3, Nat.one_mul])
theorem nrm_rep {n d : Int} (h : d ≠ 0) : Rep (nT n d) (nB n d) n d := by
  refine ⟨h, nrm h, ?_⟩
  have e1 := cmn_n n d
  have e2 := cmn_d n d
  calc nT n d * d = nT n d * (nB n d * cmn n d) := by rw [e2]
    _ = (nT n d * cmn n d) * nB n d := by rw [Int.mul_comm (nB n d), ← Int.mul_assoc]
    _ = n * nB n d := by rw [e1]
theorem nrm_uniq {t b t' b' : Int} (h : Nrm t b) (h' : Nrm t' b') (e : t * b' = t' * b) : t = t' ∧ b = b' := by
  have en : t.natAbs * b'.natAbs = t'.natAbs * b.natAbs := by rw [← Int.natAbs_mul, ← Int.natAbs_mul, e]
  have d1 : b.natAbs ∣ b'.natAbs := by
    refine Nat.Coprime.dvd_of_dvd_mul_left (k := b.natAbs) (n := b'.natAbs) (m := t.natAbs) ?_ ⟨t'.natAbs, by rw [en, Nat.mul_comm]⟩
    exact (Nat.gcd_comm _ _).trans h.2
  have d2 : b'.natAbs ∣ b.natAbs := by
    refine Nat.Coprime.dvd_of_dvd_mul_left (k := b'.natAbs) (n := b.natAbs) (m := t'.natAbs) ?_ ⟨t.natAbs, by rw [← en, Nat.mul_comm]⟩
    exact (Nat.gcd_comm _ _).trans h'.2
  have eb : b.natAbs = b'.natAbs := Nat.dvd_antisymm d1 d2
  have h1 := h.1
  have h1' := h'.1
  have eb2 : b = b' := by omega
  subst eb2
  exact ⟨Int.eq_of_mul_eq_mul_right (by omega) e, rfl⟩
theorem rep_cross {t b n d t' b' n' d' : Int} (h : Rep t b n d) (h' : Rep t' b' n' d') : (t * b') * (d * d') = (n * d') * (b * b') := by
  have e1 := h.2.2
  calc (t * b') * (d * d') = (t * d) * (b' * d') := by simp only [Int.mul_assoc, Int.mul_comm, Int.mul_left_comm]
    _ = (n * b) * (b' * d') := by rw [e1]
    _ = (n * d') * (b * b') := by simp only [Int.mul_assoc, Int.mul_comm, Int.mul_left_comm]
theorem rep_eq {t b n d t' b' n' d' : Int} (h : Rep t b n d) (h' : Rep t' b' n' d') (e : n * d' = n' * d) : t = t' ∧ b = b' := by
  refine nrm_uniq h.2.1 h'.2.1 ?_
  have c1 := rep_cross h h'
  have c2 := rep_cross h' h
  have dd : d * d' ≠ 0 := Int.mul_ne_zero h.1 h'.1
  refine Int.eq_of_mul_eq_mul_right dd ?_
  rw [c1, Int.mul_comm d d', c2, e, Int.mul_comm b b']
theorem rep_self {t b n d : Int} (h : Rep t b n d) : t = nT n d ∧ b = nB n d := rep_eq h (nrm_rep h.1) rfl
theorem abs_le {x c n : Int} (e : x * c = n) (hc : c ≠ 0) : x.natAbs ≤ n.natAbs := by
  rw [← e, Int.natAbs_mul]
  exact Nat.le_mul_of_pos_right _ (Int.natAbs_pos.mpr hc)
theorem nT_le {n d : Int} (h : d ≠ 0) : (nT n d).natAbs ≤ n.natAbs := abs_le (cmn_n n d) (cmn_ne h)
theorem nB_le {n d : Int} (h : d ≠ 0) : (nB n d).natAbs ≤ d.natAbs := abs_le (cmn_d n d) (cmn_ne h)
theorem rep_le {t b n d : Int} (h : Rep t b n d) : t.natAbs ≤ n.natAbs ∧ b.natAbs ≤ d.natAbs := by
  obtain ⟨e1, e2⟩ := rep_self h
  rw [e1, e2]
  exact ⟨nT_le h.1, nB_le h.1⟩
theorem rep_zero {t b n d : Int} (h : Rep t b n d) : t = 0 ↔ n = 0 := by
  have e := h.2.2
  have hb := h.2.1.1
  constructor
  · intro z
    rw [z, Int.zero_mul] at e
    rcases Int.mul_eq_zero.mp e.symm with q | q
    · exact q
    · omega
  · intro z
    rw [z, Int.zero_mul] at e
    rcases Int.mul_eq_zero.mp e with q | q
    · exact q
    · exact absurd q h.1
theorem nrm_id {t b : Int} (h : Nrm t b) : Rep t b t b := ⟨by have := h.1; omega, h, rfl⟩
/-- from what the operation makes to what the pairs say -/
theorem rep_of {t b n d N D : Int} (h : Rep t b n d) (hD : D ≠ 0) (e : n * D = N * d) : Rep t b N D := by
  refine ⟨hD, h.2.1, ?_⟩
  have e1 := h.2.2
  refine Int.eq_of_mul_eq_mul_right h.1 ?_
  calc t * D * d = (t * d) * D := by rw [Int.mul_right_comm]
    _ = (n * b) * D := by rw [e1]
    _ = (n * D) * b := by rw [Int.mul_right_comm]
    _ = (N * d) * b := by rw [e]
    _ = N * b * d := by rw [Int.mul_right_comm]
section
variable {t b n d t' b' n' d' : Int}
theorem pos_ne {b : Int} (h : 0 < b) : b ≠ 0 := by omega
theorem rep_add (h : Rep t b n d) (h' : Rep t' b' n' d') : Rep (nT (t * b' + t' * b) (b * b')) (nB (t * b' + t' * b) (b * b')) (n * d' + n' * d) (d * d') := by
  refine rep_of (nrm_rep (Int.mul_ne_zero (pos_ne h.2.1.1) (pos_ne h'.2.1.1))) (Int.mul_ne_zero h.1 h'.1) ?_
  have c1 := rep_cross h h'
  have c2 := rep_cross h' h
  rw [Int.mul_comm d' d, Int.mul_comm b' b] at c2
  rw [Int.add_mul, Int.add_mul, c1, c2]
theorem rep_sub (h : Rep t b n d) (h' : Rep t' b' n' d') : Rep (nT (t * b' - t' * b) (b * b')) (nB (t * b' - t' * b) (b * b')) (n * d' - n' * d) (d * d') := by
  refine rep_of (nrm_rep (Int.mul_ne_zero (pos_ne h.2.1.1) (pos_ne h'.2.1.1))) (Int.mul_ne_zero h.1 h'.1) ?_
  have c1 := rep_cross h h'
  have c2 := rep_cross h' h
  rw [Int.mul_comm d' d, Int.mul_comm b' b] at c2
  rw [Int.sub_mul, Int.sub_mul, c1, c2]
theorem rep_mul (h : Rep t b n d) (h' : Rep t' b' n' d') : Rep (nT (t * t') (b * b')) (nB (t * t') (b * b')) (n * n') (d * d') := by
  refine rep_of (nrm_rep (Int.mul_ne_zero (pos_ne h.2.1.1) (pos_ne h'.2.1.1))) (Int.mul_ne_zero h.1 h'.1) ?_
  have e1 := h.2.2
  have e2 := h'.2.2
  calc t * t' * (d * d') = (t * d) * (t' * d') := by simp only [Int.mul_assoc, Int.mul_comm, Int.mul_left_comm]
    _ = (n * b) * (n' * b') := by rw [e1, e2]
    _ = n * n' * (b * b') := by simp only [Int.mul_assoc, Int.mul_comm, Int.mul_left_comm]
theorem rep_neg (h : Rep t b n d) : Rep (nT (-t) b) (nB (-t) b) (-n) d := by
  refine rep_of (nrm_rep (pos_ne h.2.1.1)) h.1 ?_
  rw [Int.neg_mul, Int.neg_mul, h.2.2]
theorem rep_over (h : Rep t b n d) (h' : Rep t' b' n' d') (z : n' ≠ 0) : Rep (nT (t * b') (b * t')) (nB (t * b') (b * t')) (n * d') (d * n') := by
  have zt : t' ≠ 0 := fun e => z ((rep_zero h').mp e)
  refine rep_of (nrm_rep (Int.mul_ne_zero (pos_ne h.2.1.1) zt)) (Int.mul_ne_zero h.1 z) ?_
  have e1 := h.2.2
  have e2 := h'.2.2
  calc t * b' * (d * n') = (t * d) * (n' * b') := by simp only [Int.mul_assoc, Int.mul_comm, Int.mul_left_comm]
    _ = (n * b) * (t' * d') := by rw [e1, e2]
    _ = n * d' * (b * t') := by simp only [Int.mul_assoc, Int.mul_comm, Int.mul_left_comm]
theorem sgn_iff {x y D B : Int} (hB : 0 < B) (hD : D ≠ 0) (key : x * D = y * B) : ((if D > 0 then (1 : Int) else -1) * y < 0) ↔ x < 0 := by
  by_cases h : D > 0
  · rw [if_pos h, Int.one_mul]
    constructor
    · intro hy
      rcases Int.lt_trichotomy x 0 with z | z | z
      · exact z
      · rw [z, Int.zero_mul] at key
        have := Int.mul_neg_of_neg_of_pos hy hB
        omega
      · have a := Int.mul_pos z h
        have := Int.mul_neg_of_neg_of_pos hy hB
        omega
    · intro hx
      rcases Int.lt_trichotomy y 0 with z | z | z
      · exact z
      · rw [z, Int.zero_mul] at key
        have := Int.mul_neg_of_neg_of_pos hx h
        omega
      · have a := Int.mul_pos z hB
        have := Int.mul_neg_of_neg_of_pos hx h
        omega
  · have hD' : D < 0 := by omega
    rw [if_neg h]
    constructor
    · intro hy
      have hy' : 0 < y := by omega
      rcases Int.lt_trichotomy x 0 with z | z | z
      · exact z
      · rw [z, Int.zero_mul] at key
        have := Int.mul_pos hy' hB
        omega
      · have a := Int.mul_neg_of_pos_of_neg z hD'
        have := Int.mul_pos hy' hB
        omega
    · intro hx
      have a := Int.mul_pos_of_neg_of_neg hx hD'
      rcases Int.lt_trichotomy y 0 with z | z | z
      · have := Int.mul_neg_of_neg_of_pos z hB
        omega
      · rw [z, Int.zero_mul] at key
        omega
      · omega
/-- the law's look which one is less -/
def lessN (n d n' d' : Int) : Bool := decide ((if d * d' > 0 then (1 : Int) else -1) * (n * d' - n' * d) < 0)
theorem rep_less (h : Rep t b n d) (h' : Rep t' b' n' d') : lessN n d n' d' = decide (t * b' < t' * b) := by
  have c1 := rep_cross h h'
  have c2 := rep_cross h' h
  rw [Int.mul_comm d' d, Int.mul_comm b' b] at c2
  have hb : 0 < b * b' := Int.mul_pos h.2.1.1 h'.2.1.1
  have hd : d * d' ≠ 0 := Int.mul_ne_zero h.1 h'.1
  have key : (t * b' - t' * b) * (d * d') = (n * d' - n' * d) * (b * b') := by rw [Int.sub_mul, Int.sub_mul, c1, c2]
  unfold lessN
  refine decide_eq_decide.mpr ?_
  rw [sgn_iff hb hd key]
  omega
theorem rep_eqD (h : Rep t b n d) (h' : Rep t' b' n' d') : (decide (t = t') && decide (b = b')) = (!lessN n d n' d' && !lessN n' d' n d) := by
  rw [rep_less h h', rep_less h' h]
  by_cases e : t * b' = t' * b
  · obtain ⟨e1, e2⟩ := nrm_uniq h.2.1 h'.2.1 e
    subst e1 e2
    simp
  · have c1 : (decide (t = t') && decide (b = b')) = false := by
      by_cases e1 : t = t'
      · by_cases e2 : b = b'
        · exact absurd (by rw [e1, e2]) e
        · rw [decide_eq_false e2, Bool.and_false]
      · rw [decide_eq_false e1, Bool.false_and]
    rw [c1]
    rcases Int.lt_or_gt_of_ne e with q | q
    · rw [decide_eq_true q]
      simp
    · rw [decide_eq_true (show t' * b < t * b' from q)]
      simp
end
/-! ### words of numbers -/
def dg (n : Nat) : List Nat := (Nat.toDigits 10 n).map Char.toNat
theorem dg_lt {n : Nat} (h : n < 10) : dg n = [48 + n] := by
  unfold dg
  rw [Nat.toDigits_of_lt_base h, List.map_cons, List.map_nil, Nat.toNat_digitChar_of_lt_ten h]
theorem dg_ge {n : Nat} (h : 10 ≤ n) : dg n = dg (n / 10) ++ [48 + n % 10] := by
  unfold dg
  rw [Nat.toDigits_of_base_le (by decide) h, List.map_append, List.map_cons, List.map_nil, Nat.toNat_digitChar_of_lt_ten (Nat.mod_lt _ (by decide))]
/-- k figures -/
def pd : Nat → Nat → List Nat
  | 0, _ => []
  | k + 1, r => pd k (r / 10) ++ [48 + r % 10]
theorem pd_zero : ∀ k, pd k 0 = List.replicate k 48
  | 0 => rfl
  | k + 1 => by
    unfold pd
    rw [Nat.zero_div, pd_zero k, List.replicate_succ']
theorem dg_split : ∀ (k q r : Nat), 0 < q → r < 10 ^ k → dg (q * 10 ^ k + r) = dg q ++ pd k r
  | 0, q, r, hq, hr => by
    obtain rfl : r = 0 := by omega
    rw [Nat.pow_zero, Nat.mul_one, Nat.add_zero]
    unfold pd
    rw [List.append_nil]
  | k + 1, q, r, hq, hr => by
    have e : q * 10 ^ (k + 1) + r = 10 * (q * 10 ^ k) + r := by rw [Nat.pow_succ, ← Nat.mul_assoc, Nat.mul_comm]
    have h1 : 1 ≤ q * 10 ^ k := Nat.mul_pos hq (Nat.pow_pos (by decide))
    have e1 : (10 * (q * 10 ^ k) + r) / 10 = q * 10 ^ k + r / 10 := by omega
    have e2 : (10 * (q * 10 ^ k) + r) % 10 = r % 10 := by omega
    rw [e, dg_ge (by omega), e1, e2, dg_split k q (r / 10) hq (by rw [Nat.pow_succ] at hr; omega), List.append_assoc]
    rfl
theorem dg_fill : ∀ (k r : Nat), 1 ≤ k → r < 10 ^ k → (dg r).length ≤ k ∧ List.replicate (k - (dg r).length) 48 ++ dg r = pd k r
  | 0, _, h, _ => by omega
  | k + 1, r, _, hr => by
    by_cases h10 : r < 10
    · rw [dg_lt h10]
      refine ⟨by simp, ?_⟩
      unfold pd
      rw [Nat.div_eq_of_lt h10, pd_zero, Nat.mod_eq_of_lt h10]
      rfl
    · have hk : 1 ≤ k := by
        rcases k with _ | k
        · simp at hr; omega
        · omega
      obtain ⟨i1, i2⟩ := dg_fill k (r / 10) hk (by rw [Nat.pow_succ] at hr; omega)
      rw [dg_ge (by omega)]
      refine ⟨by simp; omega, ?_⟩
      unfold pd
      rw [← i2, List.length_append, List.length_cons, List.length_nil, Nat.add_sub_add_right, List.append_assoc]
theorem dg_ne (n : Nat) : dg n ≠ [] := by
  unfold dg
  exact fun e => Nat.toDigits_ne_nil (List.map_eq_nil_iff.mp e)
/-- a number's word -/
def wrd (n : Int) : List Nat := if n < 0 then 45 :: dg n.natAbs else dg n.natAbs
end Q

set_option Elab.async false
set_option linter.all false
set_option maxRecDepth 100000
set_option maxHeartbeats 4000000
namespace Q
open PySem PySem.Spec L2
local macro_rules | `(tactic| walk_at "n") => `(tactic| first
  | with_reducible assumption
  | exact Ne.symm (by with_reducible assumption)
  | ((refine' ne_of_none ?k1 (by with_reducible assumption)); (case k1 => walk_at "h"))
  | ((refine' Ne.symm (ne_of_none ?k1 (by with_reducible assumption))); (case k1 => walk_at "h")))
local macro_rules | `(tactic| walk_at "h") => `(tactic| first
  | with_reducible assumption
  | with_reducible exact upd_same
  | ((with_reducible refine' h_ne ?k1 ?k2); (case k1 => walk_at "n"); (case k2 => walk_at "h"))
  | ((with_reducible refine' h_sm (by with_reducible assumption) ?k1); (case k1 => walk_at "h"))
  | ((with_reducible refine' h_chg (by with_reducible assumption) ?k1 ?k2); (case k1 => walk_at "n"); (case k2 => walk_at "h")))
local macro_rules | `(tactic| walk_at "l") => `(tactic| first
  | with_reducible assumption
  | ((with_reducible refine' SqL.of ?k1); (case k1 => walk_at "h"))
  | ((with_reducible refine' sqL_new (by with_reducible assumption) ?k1); (case k1 => walk_at "l"))
  | ((with_reducible refine' sqL_sm (by with_reducible assumption) ?k1); (case k1 => walk_at "l")))
local macro_rules | `(tactic| walk_at "t") => `(tactic| first
  | with_reducible assumption
  | ((with_reducible refine' SqT.of ?k1); (case k1 => walk_at "h"))
  | ((with_reducible refine' sqT_new (by with_reducible assumption) ?k1); (case k1 => walk_at "t"))
  | ((with_reducible refine' seqT_same (by with_reducible assumption) ?k1); (case k1 => walk_at "t")))
local macro_rules | `(tactic| walk_at "lt") => `(tactic| first
  | with_reducible assumption
  | ((refine' Or.inl ?k1); (case k1 => walk_at "l"))
  | ((refine' Or.inr ?k1); (case k1 => walk_at "t")))
local macro_rules | `(tactic| walk_at "c") => `(tactic| first
  | exact trivial
  | with_reducible assumption
  | exact wide_div (b := 100) (by decide) (by decide) (by decide) (by decide)
  | decide
  | omega
  | (refine' Or.inr ⟨?_, ?_⟩ <;> first | decide | omega)
  | (refine' Or.inl ⟨?_, ?_⟩ <;> first | decide | omega)
  | (refine' And.intro ?_ (And.intro ?_ ?_) <;> first | decide | omega)
  | (refine' And.intro ?_ ?_ <;> first | decide | omega))
local macro_rules | `(tactic| walk_at "ty") => `(tactic| first
  | exact .base (.int _)
  | exact .base (.str _)
  | exact .base (.bl _)
  | exact .base .non
  | ((with_reducible refine' tyL ?k1); (case k1 => walk_at "l"))
  | ((with_reducible refine' tyT ?k1); (case k1 => walk_at "t")))
local macro_rules | `(tactic| walk_at "kb") => `(tactic| first
  | exact kb_int_int
  | exact kb_int_str
  | exact kb_int_bool
  | exact kb_int_list
  | exact kb_int_tuple
  | exact kb_str_int
  | exact kb_str_str
  | exact kb_str_bool
  | exact kb_str_list
  | exact kb_str_tuple
  | exact kb_bool_int
  | exact kb_bool_str
  | exact kb_bool_bool
  | exact kb_bool_list
  | exact kb_bool_tuple
  | exact kb_NoneType_int
  | exact kb_NoneType_str
  | exact kb_NoneType_bool
  | exact kb_NoneType_list
  | exact kb_NoneType_tuple
  | exact kb_list_int
  | exact kb_list_str
  | exact kb_list_bool
  | exact kb_list_list
  | exact kb_list_tuple
  | exact kb_tuple_int
  | exact kb_tuple_str
  | exact kb_tuple_bool
  | exact kb_tuple_list
  | exact kb_tuple_tuple)
local macro_rules | `(tactic| walk_at "s") => `(tactic| first
  | with_reducible refine' g_seq ?_
  | with_reducible refine' g_asg ?_
  | with_reducible refine' g_ifS ?_
  | with_reducible refine' g_ret ?_
  | with_reducible refine' g_drop ?_
  | with_reducible refine' g_next ?_
  | with_reducible refine' g_op ?_
  | with_reducible refine' g_c ?_
  | with_reducible refine' g_v0 ?_
  | with_reducible refine' g_n0 ?_
  | with_reducible refine' g_v1 ?_
  | with_reducible refine' g_n1 ?_
  | with_reducible refine' g_v2 ?_
  | with_reducible refine' g_n2 ?_
  | with_reducible refine' g_v3 ?_
  | with_reducible refine' g_n3 ?_
  | with_reducible refine' g_v4 ?_
  | with_reducible refine' g_n4 ?_
  | with_reducible refine' g_v5 ?_
  | with_reducible refine' g_n5 ?_
  | with_reducible refine' g_v6 ?_
  | with_reducible refine' g_n6 ?_
  | with_reducible refine' g_v7 ?_
  | with_reducible refine' g_n7 ?_
  | with_reducible refine' g_v8 ?_
  | with_reducible refine' g_n8 ?_
  | with_reducible refine' g_v9 ?_
  | with_reducible refine' g_n9 ?_
  | with_reducible refine' g_v10 ?_
  | with_reducible refine' g_n10 ?_
  | with_reducible refine' g_v11 ?_
  | with_reducible refine' g_n11 ?_
  | with_reducible refine' g_v12 ?_
  | with_reducible refine' g_n12 ?_
  | with_reducible refine' g_v13 ?_
  | with_reducible refine' g_n13 ?_
  | with_reducible refine' g_v14 ?_
  | with_reducible refine' g_n14 ?_
  | with_reducible refine' g_v15 ?_
  | with_reducible refine' g_n15 ?_
  | with_reducible refine' g_sub ?_
  | with_reducible refine' g_rI0 ?_
  | with_reducible refine' g_p6 ?_
  | with_reducible refine' g_p18 ?_
  | ((with_reducible refine' g_rI ?_ ?_); (· walk_at "c"))
  | with_reducible refine' g_cb ?_
  | with_reducible refine' g_cons ?_
  | with_reducible refine' g_nil ?_
  | with_reducible refine' g_int ?_
  | ((with_reducible refine' g_ixL0 ?k1 ?_); (case k1 => walk_at "l"))
  | ((with_reducible refine' g_setL0 ?k1 ?_); (case k1 => walk_at "h"))
  | ((with_reducible refine' g_ixL1 ?k1 ?_); (case k1 => walk_at "l"))
  | ((with_reducible refine' g_setL1 ?k1 ?_); (case k1 => walk_at "h"))
  | ((with_reducible refine' g_ixL2 ?k1 ?_); (case k1 => walk_at "l"))
  | ((with_reducible refine' g_setL2 ?k1 ?_); (case k1 => walk_at "h"))
  | ((with_reducible refine' g_ixL3 ?k1 ?_); (case k1 => walk_at "l"))
  | ((with_reducible refine' g_setL3 ?k1 ?_); (case k1 => walk_at "h"))
  | ((with_reducible refine' g_ixL4 ?k1 ?_); (case k1 => walk_at "l"))
  | ((with_reducible refine' g_setL4 ?k1 ?_); (case k1 => walk_at "h"))
  | ((with_reducible refine' g_ixL5 ?k1 ?_); (case k1 => walk_at "l"))
  | ((with_reducible refine' g_setL5 ?k1 ?_); (case k1 => walk_at "h"))
  | ((with_reducible refine' g_ixL6 ?k1 ?_); (case k1 => walk_at "l"))
  | ((with_reducible refine' g_setL6 ?k1 ?_); (case k1 => walk_at "h"))
  | ((with_reducible refine' g_ixL7 ?k1 ?_); (case k1 => walk_at "l"))
  | ((with_reducible refine' g_setL7 ?k1 ?_); (case k1 => walk_at "h"))
  | ((with_reducible refine' g_ixL8 ?k1 ?_); (case k1 => walk_at "l"))
  | ((with_reducible refine' g_setL8 ?k1 ?_); (case k1 => walk_at "h"))
  | ((with_reducible refine' g_ixL9 ?k1 ?_); (case k1 => walk_at "l"))
  | ((with_reducible refine' g_setL9 ?k1 ?_); (case k1 => walk_at "h"))
  | ((with_reducible refine' g_ixL ?k1 ?k2 ?_); (case k1 => walk_at "l"); (case k2 => walk_at "a"))
  | ((with_reducible refine' g_setL ?k1 ?k2 ?_); (case k1 => walk_at "h"); (case k2 => rfl))
  | with_reducible refine' g_eqI ?_
  | with_reducible refine' g_neI ?_
  | with_reducible refine' g_eqS ?_
  | with_reducible refine' g_eqB ?_
  | with_reducible refine' g_neB ?_
  | with_reducible refine' g_test ?_
  | with_reducible refine' g_b ?_
  | with_reducible refine' g_bl ?_
  | with_reducible refine' g_and ?_
  | with_reducible refine' g_or ?_
  | with_reducible refine' g_not ?_
  | with_reducible refine' g_yes ?_
  | with_reducible refine' g_if ?_
  | with_reducible refine' g_andV ?_
  | with_reducible refine' g_orV ?_
  | with_reducible refine' g_notV ?_
  | with_reducible refine' g_call ?_
  | (with_reducible refine' g_lst ?_)
  | (with_reducible refine' g_tup ?_)
  | ((with_reducible refine' g_len ?k1 ?_); (case k1 => walk_at "lt"))
  | (with_reducible refine' g_un ?_)
  | (with_reducible refine' g_rU ?_)
  | with_reducible refine' g_isNr ?_
  | with_reducible refine' g_isNn ?_
  | with_reducible refine' g_isNi ?_
  | with_reducible refine' g_isNb ?_
  | with_reducible refine' g_isNs ?_
  | ((with_reducible refine' g_newL ?k1 ?_); (case k1 => (simp only [List.length_cons, List.length_nil, Nat.reduceAdd, Nat.reduceLeDiff])); intro p hp)
  | ((with_reducible refine' g_newT ?k1 ?_); (case k1 => (simp only [List.length_cons, List.length_nil, Nat.reduceAdd, Nat.reduceLeDiff])); intro p hp)
  | with_reducible refine' g_sl ?_
  | with_reducible refine' g_part ?_
  | with_reducible refine' g_partI ?_
  | with_reducible refine' g_noPart ?_
  | ((with_reducible refine' g_slL ?k1 ?_); (case k1 => walk_at "l"); intro p hp)
  | ((with_reducible refine' g_inI ?k1 ?_); (case k1 => walk_at "lt"))
  | ((with_reducible refine' g_notinI ?k1 ?_); (case k1 => walk_at "lt"))
  | ((with_reducible refine' g_cat ?k1 ?k2 ?k3 ?_); (case k1 => walk_at "h"); (case k2 => walk_at "h"); (case k3 => walk_at "len"); intro p hp)
  | ((with_reducible refine' g_list ?k1 ?_); (case k1 => walk_at "lt"); intro p hp)
  | ((with_reducible refine' g_tuple ?k1 ?_); (case k1 => walk_at "l"); intro p hp)
  | ((with_reducible refine' g_sum ?k1 ?_); (case k1 => walk_at "l"))
  | ((with_reducible refine' g_any ?k1 ?_); (case k1 => walk_at "l"))
  | ((with_reducible refine' g_all ?k1 ?_); (case k1 => walk_at "l"))
  | with_reducible refine' g_iEn2 ?_
  | with_reducible refine' g_iEnum ?_
  | ((with_reducible refine' g_en1 ?k1 ?_); (case k1 => walk_at "l"))
  | ((with_reducible refine' g_gTup ?k1 ?k2 ?_); (case k1 => walk_at "t"); (case k2 => rfl))
  | with_reducible refine' g_gCons ?_
  | with_reducible refine' g_gNil ?_
  | ((with_reducible refine' g_qix0 ?k1 ?_); (case k1 => walk_at "lt"))
  | ((with_reducible refine' g_qix1 ?k1 ?_); (case k1 => walk_at "lt"))
  | ((with_reducible refine' g_qix2 ?k1 ?_); (case k1 => walk_at "lt"))
  | ((with_reducible refine' g_qix3 ?k1 ?_); (case k1 => walk_at "lt"))
  | ((with_reducible refine' g_qix4 ?k1 ?_); (case k1 => walk_at "lt"))
  | ((with_reducible refine' g_qix5 ?k1 ?_); (case k1 => walk_at "lt"))
  | ((with_reducible refine' g_qix6 ?k1 ?_); (case k1 => walk_at "lt"))
  | ((with_reducible refine' g_qix7 ?k1 ?_); (case k1 => walk_at "lt"))
  | ((with_reducible refine' g_qix8 ?k1 ?_); (case k1 => walk_at "lt"))
  | ((with_reducible refine' g_qix9 ?k1 ?_); (case k1 => walk_at "lt"))
  | ((with_reducible refine' g_qix ?k1 ?k2 ?_); (case k1 => walk_at "lt"); (case k2 => walk_at "a"))
  | with_reducible refine' g_turn1 ?_
  | ((with_reducible refine' g_turnB ?k1 ?_); (case k1 => rfl))
  | with_reducible refine' g_turnCt ?_
  | with_reducible refine' g_aug ?_
  | with_reducible refine' g_ipI ?_
  | with_reducible refine' g_par ?_
  | with_reducible refine' g_parR ?_
  | with_reducible refine' g_par3 ?_
  | with_reducible refine' g_parR3 ?_
  | with_reducible refine' g_callN ?_
  | ((with_reducible refine' g_kArg ?k1 ?k2 ?k3 ?_); (case k1 => rfl); (case k2 => rfl); (case k3 => rfl))
  | with_reducible refine' g_bm ?_
  | ((with_reducible refine' g_bmL ?k1 ?_); (case k1 => walk_at "l"))
  | ((with_reducible refine' g_neDI ?k1 ?k2 ?_); (case k1 => walk_at "l"); (case k2 => walk_at "l"))
  | ((with_reducible refine' g_eqDI ?k1 ?k2 ?_); (case k1 => walk_at "l"); (case k2 => walk_at "l"))
  | with_reducible refine' g_ifT ?_
  | with_reducible refine' g_lstRg ?_
  | with_reducible refine' g_tRg1 ?_
  | with_reducible refine' g_rg1R ?_
  | ((with_reducible refine' g_rgNew ?_ ?_); (· (first | omega | (refine' And.intro ?_ (And.intro ?_ (And.intro ?_ ?_)) <;> omega))); intro p hp)
  | with_reducible refine' g_iZipA ?_
  | with_reducible refine' g_lc ?_
  | with_reducible refine' g_for ?_
  | with_reducible refine' g_iRng1 ?_
  | ((with_reducible refine' g_rng1 ?_ ?_); (· walk_at "c"))
  | with_reducible refine' g_iRng2 ?_
  | ((with_reducible refine' g_rng2 ?_ ?_); (· walk_at "c"))
  | with_reducible refine' g_iList ?_
  | ((with_reducible refine' g_lstR ?k1 ?_); (case k1 => walk_at "l"))
  | with_reducible refine' g_iTup ?_
  | ((with_reducible refine' g_tupR ?k1 ?_); (case k1 => walk_at "t"))
  | ((with_reducible refine' g_isi ?k1 ?k2 ?_); (case k1 => walk_at "ty"); (case k2 => walk_at "kb"))
  | ((with_reducible refine' g_isiT2 ?k1 ?k2 ?k3 ?k4 ?_); (case k1 => walk_at "h"); (case k2 => walk_at "ty"); (case k3 => walk_at "kb"); (case k4 => walk_at "kb"))
  | with_reducible refine' iteT ?_
  | with_reducible refine' iteF ?_
  | ((with_reducible refine' g_iteCT ?k1 ?_); (case k1 => decide))
  | ((with_reducible refine' g_iteCF ?k1 ?_); (case k1 => decide)))
local macro_rules | `(tactic| walk_at "s") => `(tactic| first
  | with_reducible refine' g_fld ?_
  | with_reducible refine' g_chain ?_
  | with_reducible refine' g_chR ?_
  | ((with_reducible refine' g_fldR ?k1 ?k2 ?k3 ?k4 ?_); (case k1 => walk_at "h"); (case k2 => (with_reducible assumption)); (case k3 => (with_reducible assumption)); (case k4 => rfl))
  | with_reducible refine' g_meth ?_
  | ((with_reducible refine' g_methR ?k1 ?k2 ?_); (case k1 => walk_at "h"); (case k2 => rfl))
  | with_reducible refine' g_sfld ?_
  | ((with_reducible refine' g_sfldR ?k1 ?k2 ?k3 ?k4 ?_); (case k1 => walk_at "h"); (case k2 => (with_reducible assumption)); (case k3 => (with_reducible assumption)); (case k4 => first | decide | exact (by decide : 1 < 1000) | exact (by decide : 2 < 1000) | exact (by decide : 3 < 1000) | exact (by decide : 4 < 1000) | exact (by decide : 5 < 1000) | exact (by decide : 6 < 1000) | exact (by decide : 7 < 1000) | exact (by decide : 8 < 1000) | exact (by decide : 9 < 1000) | exact (by decide : 10 < 1000) | exact (by decide : 11 < 1000) | exact (by decide : 12 < 1000) | exact (by decide : 13 < 1000) | exact (by decide : 14 < 1000) | exact (by decide : 15 < 1000) | exact (by decide : 16 < 1000) | exact (by decide : 17 < 1000) | exact (by decide : 18 < 1000) | exact (by decide : 19 < 1000) | exact (by decide : 20 < 1000))))
local macro_rules | `(tactic| walk_at "a") => `(tactic| first
  | rfl
  | (with_reducible assumption))
local macro_rules | `(tactic| walk_at "go") => `(tactic| repeat walk_at "s")
local macro_rules | `(tactic| walk_at "chg") => `(tactic| first
  | with_reducible assumption
  | with_reducible exact Chg.refl
  | ((with_reducible refine' Chg.put ?_); walk_at "chg")
  | ((with_reducible refine' Chg.lay ?_ (by with_reducible assumption)); walk_at "chg")
  | ((with_reducible refine' Chg.putn ?_ (by with_reducible assumption)); walk_at "chg")
  | ((with_reducible refine' Chg.trans ?_ (sm_chg (by with_reducible assumption))); walk_at "chg")
  | ((with_reducible refine' Chg.trans ?_ (by with_reducible assumption)); walk_at "chg"))
local macro_rules | `(tactic| walk_at "len") => `(tactic| (first
  | omega
  | ((try simp only [List.length_map, List.length_cons, List.length_nil, List.length_append, List.length_range]); omega)))

def topS (i : Nat) : Stmt := PySem.Challenge.pw_answersalone_k26_shares_of_weights_and_o.main.body.getD i (.Pass ⟨0, 0, 0, 0⟩)
abbrev s_number_word : Stmt := topS 8
abbrev N_number_word : List Str := ["number", "rest", "groups", "group", "digits"]
abbrev P_number_word : List Str := ["number"]
theorem sc_number_word : FnScope N_number_word P_number_word (defScope s_number_word) :=
  ⟨rfl, rfl, rfl, by decide +kernel, rfl, by decide +kernel, by decide +kernel⟩
abbrev s_shares_of : Stmt := topS 12
abbrev N_shares_of : List Str := ["weights", "total", "token", "weight"]
abbrev P_shares_of : List Str := ["weights"]
theorem sc_shares_of : FnScope N_shares_of P_shares_of (defScope s_shares_of) :=
  ⟨rfl, rfl, rfl, by decide +kernel, rfl, by decide +kernel, by decide +kernel⟩
abbrev s_kept_share : Stmt := topS 13
abbrev N_kept_share : List Str := ["p", "q", "one", "other"]
abbrev P_kept_share : List Str := ["p", "q"]
theorem sc_kept_share : FnScope N_kept_share P_kept_share (defScope s_kept_share) :=
  ⟨rfl, rfl, rfl, by decide +kernel, rfl, by decide +kernel, by decide +kernel⟩
abbrev s_rest_shares : Stmt := topS 14
abbrev N_rest_shares : List Str := ["p", "q", "differences", "one", "other", "total", "difference"]
abbrev P_rest_shares : List Str := ["p", "q"]
theorem sc_rest_shares : FnScope N_rest_shares P_rest_shares (defScope s_rest_shares) :=
  ⟨rfl, rfl, rfl, by decide +kernel, rfl, by decide +kernel, by decide +kernel⟩
abbrev s_guessed_shares : Stmt := topS 15
abbrev N_guessed_shares : List Str := ["p", "q", "kept", "instead"]
abbrev P_guessed_shares : List Str := ["p", "q"]
theorem sc_guessed_shares : FnScope N_guessed_shares P_guessed_shares (defScope s_guessed_shares) :=
  ⟨rfl, rfl, rfl, by decide +kernel, rfl, by decide +kernel, by decide +kernel⟩
abbrev s__sum_of : Stmt := topS 16
abbrev N__sum_of : List Str := ["shares", "total", "share"]
abbrev P__sum_of : List Str := ["shares"]
theorem sc__sum_of : FnScope N__sum_of P__sum_of (defScope s__sum_of) :=
  ⟨rfl, rfl, rfl, by decide +kernel, rfl, by decide +kernel, by decide +kernel⟩
abbrev s__lesser : Stmt := topS 17
abbrev N__lesser : List Str := ["one", "other"]
abbrev P__lesser : List Str := ["one", "other"]
theorem sc__lesser : FnScope N__lesser P__lesser (defScope s__lesser) :=
  ⟨rfl, rfl, rfl, by decide +kernel, rfl, by decide +kernel, by decide +kernel⟩
abbrev s__kept_chance : Stmt := topS 18
abbrev N__kept_chance : List Str := ["p", "q"]
abbrev P__kept_chance : List Str := ["p", "q"]
theorem sc__kept_chance : FnScope N__kept_chance P__kept_chance (defScope s__kept_chance) :=
  ⟨rfl, rfl, rfl, by decide +kernel, rfl, by decide +kernel, by decide +kernel⟩
abbrev s__kept_chances_of : Stmt := topS 19
abbrev N__kept_chances_of : List Str := ["p", "q", "one", "other"]
abbrev P__kept_chances_of : List Str := ["p", "q"]
theorem sc__kept_chances_of : FnScope N__kept_chances_of P__kept_chances_of (defScope s__kept_chances_of) :=
  ⟨rfl, rfl, rfl, by decide +kernel, rfl, by decide +kernel, by decide +kernel⟩
abbrev s__instead_chances_of : Stmt := topS 20
abbrev N__instead_chances_of : List Str := ["p", "q", "rest", "refused", "share"]
abbrev P__instead_chances_of : List Str := ["p", "q"]
theorem sc__instead_chances_of : FnScope N__instead_chances_of P__instead_chances_of (defScope s__instead_chances_of) :=
  ⟨rfl, rfl, rfl, by decide +kernel, rfl, by decide +kernel, by decide +kernel⟩
abbrev s__law_bag : Stmt := topS 22
abbrev N__law_bag : List Str := ["script", "seed", "cell"]
abbrev P__law_bag : List Str := ["script"]
theorem sc__law_bag : FnScope N__law_bag P__law_bag (defScope s__law_bag) :=
  ⟨rfl, rfl, rfl, by decide +kernel, rfl, by decide +kernel, by decide +kernel⟩
abbrev s__law_draw : Stmt := topS 23
abbrev N__law_draw : List Str := ["bag", "many", "cell", "digit", "seed"]
abbrev P__law_draw : List Str := ["bag", "many"]
theorem sc__law_draw : FnScope N__law_draw P__law_draw (defScope s__law_draw) :=
  ⟨rfl, rfl, rfl, by decide +kernel, rfl, by decide +kernel, by decide +kernel⟩
abbrev s__law_of : Stmt := topS 24
abbrev N__law_of : List Str := ["bag", "things"]
abbrev P__law_of : List Str := ["bag", "things"]
theorem sc__law_of : FnScope N__law_of P__law_of (defScope s__law_of) :=
  ⟨rfl, rfl, rfl, by decide +kernel, rfl, by decide +kernel, by decide +kernel⟩
abbrev s__law_common : Stmt := topS 25
abbrev N__law_common : List Str := ["one", "two", "big", "small"]
abbrev P__law_common : List Str := ["one", "two"]
theorem sc__law_common : FnScope N__law_common P__law_common (defScope s__law_common) :=
  ⟨rfl, rfl, rfl, by decide +kernel, rfl, by decide +kernel, by decide +kernel⟩
abbrev s__law_is_share : Stmt := topS 26
abbrev N__law_is_share : List Str := ["found", "num", "den", "high", "low"]
abbrev P__law_is_share : List Str := ["found", "num", "den"]
theorem sc__law_is_share : FnScope N__law_is_share P__law_is_share (defScope s__law_is_share) :=
  ⟨rfl, rfl, rfl, by decide +kernel, rfl, by decide +kernel, by decide +kernel⟩
abbrev s__law_amounts : Stmt := topS 27
abbrev N__law_amounts : List Str := ["bag", "many", "road", "k", "at"]
abbrev P__law_amounts : List Str := ["bag", "many"]
theorem sc__law_amounts : FnScope N__law_amounts P__law_amounts (defScope s__law_amounts) :=
  ⟨rfl, rfl, rfl, by decide +kernel, rfl, by decide +kernel, by decide +kernel⟩
abbrev s__law_parts : Stmt := topS 28
abbrev N__law_parts : List Str := ["amounts", "k"]
abbrev P__law_parts : List Str := ["amounts"]
theorem sc__law_parts : FnScope N__law_parts P__law_parts (defScope s__law_parts) :=
  ⟨rfl, rfl, rfl, by decide +kernel, rfl, by decide +kernel, by decide +kernel⟩
abbrev s__law_are : Stmt := topS 29
abbrev N__law_are : List Str := ["found", "nums", "den", "one", "num"]
abbrev P__law_are : List Str := ["found", "nums", "den"]
theorem sc__law_are : FnScope N__law_are P__law_are (defScope s__law_are) :=
  ⟨rfl, rfl, rfl, by decide +kernel, rfl, by decide +kernel, by decide +kernel⟩
abbrev s__law_together : Stmt := topS 30
abbrev N__law_together : List Str := ["some", "found", "one"]
abbrev P__law_together : List Str := ["some"]
theorem sc__law_together : FnScope N__law_together P__law_together (defScope s__law_together) :=
  ⟨rfl, rfl, rfl, by decide +kernel, rfl, by decide +kernel, by decide +kernel⟩
abbrev s__law_pair_of : Stmt := topS 31
abbrev N__law_pair_of : List Str := ["bag", "many", "first", "road", "times", "one", "second", "at"]
abbrev P__law_pair_of : List Str := ["bag", "many"]
theorem sc__law_pair_of : FnScope N__law_pair_of P__law_pair_of (defScope s__law_pair_of) :=
  ⟨rfl, rfl, rfl, by decide +kernel, rfl, by decide +kernel, by decide +kernel⟩
abbrev s__law_one_place : Stmt := topS 32
abbrev N__law_one_place : List Str := ["bag", "some", "more", "first", "second", "nums", "den", "others", "under", "p_list", "q_list", "least", "one", "two", "rest", "found", "told", "stays"]
abbrev P__law_one_place : List Str := ["bag", "some", "more", "first", "second"]
theorem sc__law_one_place : FnScope N__law_one_place P__law_one_place (defScope s__law_one_place) :=
  ⟨rfl, rfl, rfl, by decide +kernel, rfl, by decide +kernel, by decide +kernel⟩
abbrev s_law : Stmt := topS 33
abbrev N_law : List Str := ["script", "bag", "k", "first", "second", "handed", "some", "more", "one", "two", "right", "rest", "nums", "found"]
abbrev P_law : List Str := ["script"]
theorem sc_law : FnScope N_law P_law (defScope s_law) :=
  ⟨rfl, rfl, rfl, by decide +kernel, rfl, by decide +kernel, by decide +kernel⟩
abbrev s_Share___init__ : Stmt := inClass (topS 10) 0
abbrev N_Share___init__ : List Str := ["self", "top", "bottom", "common"]
abbrev P_Share___init__ : List Str := ["self", "top", "bottom"]
theorem sc_Share___init__ : FnScope N_Share___init__ P_Share___init__ (defScope s_Share___init__) :=
  ⟨rfl, rfl, rfl, by decide +kernel, rfl, by decide +kernel, by decide +kernel⟩
abbrev s_Share_below : Stmt := inClass (topS 10) 1
abbrev N_Share_below : List Str := ["self", "other"]
abbrev P_Share_below : List Str := ["self", "other"]
theorem sc_Share_below : FnScope N_Share_below P_Share_below (defScope s_Share_below) :=
  ⟨rfl, rfl, rfl, by decide +kernel, rfl, by decide +kernel, by decide +kernel⟩
abbrev s_Share_over : Stmt := inClass (topS 10) 2
abbrev N_Share_over : List Str := ["self", "other"]
abbrev P_Share_over : List Str := ["self", "other"]
theorem sc_Share_over : FnScope N_Share_over P_Share_over (defScope s_Share_over) :=
  ⟨rfl, rfl, rfl, by decide +kernel, rfl, by decide +kernel, by decide +kernel⟩
abbrev s_Share___add__ : Stmt := inClass (topS 10) 3
abbrev N_Share___add__ : List Str := ["self", "other"]
abbrev P_Share___add__ : List Str := ["self", "other"]
theorem sc_Share___add__ : FnScope N_Share___add__ P_Share___add__ (defScope s_Share___add__) :=
  ⟨rfl, rfl, rfl, by decide +kernel, rfl, by decide +kernel, by decide +kernel⟩
abbrev s_Share___sub__ : Stmt := inClass (topS 10) 4
abbrev N_Share___sub__ : List Str := ["self", "other"]
abbrev P_Share___sub__ : List Str := ["self", "other"]
theorem sc_Share___sub__ : FnScope N_Share___sub__ P_Share___sub__ (defScope s_Share___sub__) :=
  ⟨rfl, rfl, rfl, by decide +kernel, rfl, by decide +kernel, by decide +kernel⟩
abbrev s_Share___mul__ : Stmt := inClass (topS 10) 5
abbrev N_Share___mul__ : List Str := ["self", "other"]
abbrev P_Share___mul__ : List Str := ["self", "other"]
theorem sc_Share___mul__ : FnScope N_Share___mul__ P_Share___mul__ (defScope s_Share___mul__) :=
  ⟨rfl, rfl, rfl, by decide +kernel, rfl, by decide +kernel, by decide +kernel⟩
abbrev s_Share___neg__ : Stmt := inClass (topS 10) 6
abbrev N_Share___neg__ : List Str := ["self"]
abbrev P_Share___neg__ : List Str := ["self"]
theorem sc_Share___neg__ : FnScope N_Share___neg__ P_Share___neg__ (defScope s_Share___neg__) :=
  ⟨rfl, rfl, rfl, by decide +kernel, rfl, by decide +kernel, by decide +kernel⟩
abbrev s_Share___eq__ : Stmt := inClass (topS 10) 7
abbrev N_Share___eq__ : List Str := ["self", "other"]
abbrev P_Share___eq__ : List Str := ["self", "other"]
theorem sc_Share___eq__ : FnScope N_Share___eq__ P_Share___eq__ (defScope s_Share___eq__) :=
  ⟨rfl, rfl, rfl, by decide +kernel, rfl, by decide +kernel, by decide +kernel⟩
abbrev s_Share___bool__ : Stmt := inClass (topS 10) 8
abbrev N_Share___bool__ : List Str := ["self"]
abbrev P_Share___bool__ : List Str := ["self"]
theorem sc_Share___bool__ : FnScope N_Share___bool__ P_Share___bool__ (defScope s_Share___bool__) :=
  ⟨rfl, rfl, rfl, by decide +kernel, rfl, by decide +kernel, by decide +kernel⟩
abbrev s_Share___str__ : Stmt := inClass (topS 10) 9
abbrev N_Share___str__ : List Str := ["self"]
abbrev P_Share___str__ : List Str := ["self"]
theorem sc_Share___str__ : FnScope N_Share___str__ P_Share___str__ (defScope s_Share___str__) :=
  ⟨rfl, rfl, rfl, by decide +kernel, rfl, by decide +kernel, by decide +kernel⟩
abbrev s_Share___repr__ : Stmt := inClass (topS 10) 10
abbrev N_Share___repr__ : List Str := ["self"]
abbrev P_Share___repr__ : List Str := ["self"]
theorem sc_Share___repr__ : FnScope N_Share___repr__ P_Share___repr__ (defScope s_Share___repr__) :=
  ⟨rfl, rfl, rfl, by decide +kernel, rfl, by decide +kernel, by decide +kernel⟩

/-- the bag of a law -/
def Bag (H : Hp) (a l : Addr) : Prop := ∃ (ns : List Int) (i g m c : Int),
  H a = some (.lst [.ref l, .int i, .int g, .int m, .int c]) ∧ H l = some (.lst (ns.map V.int)) ∧ l ≠ a ∧
  0 ≤ i ∧ 0 ≤ g ∧ 0 ≤ m ∧ m < 2147483563 ∧ 0 ≤ c

abbrev CS (K : PySem.W.Frag) : Addr := He.ga K "Share"
structure Top (K : PySem.W.Frag) (mg : Str → Option Value) : Prop where
  f_number_word : ∃ (f : Addr) (fd : FuncData), FunD K "number_word" "number_word" (defArgs s_number_word) (defBody s_number_word) (defScope s_number_word) [] [] f fd ∧ mg "number_word" = some (.ref f)
  f_shares_of : ∃ (f : Addr) (fd : FuncData), FunD K "shares_of" "shares_of" (defArgs s_shares_of) (defBody s_shares_of) (defScope s_shares_of) [] [] f fd ∧ mg "shares_of" = some (.ref f)
  f_kept_share : ∃ (f : Addr) (fd : FuncData), FunD K "kept_share" "kept_share" (defArgs s_kept_share) (defBody s_kept_share) (defScope s_kept_share) [] [] f fd ∧ mg "kept_share" = some (.ref f)
  f_rest_shares : ∃ (f : Addr) (fd : FuncData), FunD K "rest_shares" "rest_shares" (defArgs s_rest_shares) (defBody s_rest_shares) (defScope s_rest_shares) [] [] f fd ∧ mg "rest_shares" = some (.ref f)
  f_guessed_shares : ∃ (f : Addr) (fd : FuncData), FunD K "guessed_shares" "guessed_shares" (defArgs s_guessed_shares) (defBody s_guessed_shares) (defScope s_guessed_shares) [] [] f fd ∧ mg "guessed_shares" = some (.ref f)
  f__sum_of : ∃ (f : Addr) (fd : FuncData), FunD K "_sum_of" "_sum_of" (defArgs s__sum_of) (defBody s__sum_of) (defScope s__sum_of) [] [] f fd ∧ mg "_sum_of" = some (.ref f)
  f__lesser : ∃ (f : Addr) (fd : FuncData), FunD K "_lesser" "_lesser" (defArgs s__lesser) (defBody s__lesser) (defScope s__lesser) [] [] f fd ∧ mg "_lesser" = some (.ref f)
  f__kept_chance : ∃ (f : Addr) (fd : FuncData), FunD K "_kept_chance" "_kept_chance" (defArgs s__kept_chance) (defBody s__kept_chance) (defScope s__kept_chance) [] [] f fd ∧ mg "_kept_chance" = some (.ref f)
  f__kept_chances_of : ∃ (f : Addr) (fd : FuncData), FunD K "_kept_chances_of" "_kept_chances_of" (defArgs s__kept_chances_of) (defBody s__kept_chances_of) (defScope s__kept_chances_of) [] [] f fd ∧ mg "_kept_chances_of" = some (.ref f)
  f__instead_chances_of : ∃ (f : Addr) (fd : FuncData), FunD K "_instead_chances_of" "_instead_chances_of" (defArgs s__instead_chances_of) (defBody s__instead_chances_of) (defScope s__instead_chances_of) [] [] f fd ∧ mg "_instead_chances_of" = some (.ref f)
  f__law_bag : ∃ (f : Addr) (fd : FuncData), FunD K "_law_bag" "_law_bag" (defArgs s__law_bag) (defBody s__law_bag) (defScope s__law_bag) [] [] f fd ∧ mg "_law_bag" = some (.ref f)
  f__law_draw : ∃ (f : Addr) (fd : FuncData), FunD K "_law_draw" "_law_draw" (defArgs s__law_draw) (defBody s__law_draw) (defScope s__law_draw) [] [] f fd ∧ mg "_law_draw" = some (.ref f)
  f__law_of : ∃ (f : Addr) (fd : FuncData), FunD K "_law_of" "_law_of" (defArgs s__law_of) (defBody s__law_of) (defScope s__law_of) [] [] f fd ∧ mg "_law_of" = some (.ref f)
  f__law_common : ∃ (f : Addr) (fd : FuncData), FunD K "_law_common" "_law_common" (defArgs s__law_common) (defBody s__law_common) (defScope s__law_common) [] [] f fd ∧ mg "_law_common" = some (.ref f)
  f__law_is_share : ∃ (f : Addr) (fd : FuncData), FunD K "_law_is_share" "_law_is_share" (defArgs s__law_is_share) (defBody s__law_is_share) (defScope s__law_is_share) [] [] f fd ∧ mg "_law_is_share" = some (.ref f)
  f__law_amounts : ∃ (f : Addr) (fd : FuncData), FunD K "_law_amounts" "_law_amounts" (defArgs s__law_amounts) (defBody s__law_amounts) (defScope s__law_amounts) [] [] f fd ∧ mg "_law_amounts" = some (.ref f)
  f__law_parts : ∃ (f : Addr) (fd : FuncData), FunD K "_law_parts" "_law_parts" (defArgs s__law_parts) (defBody s__law_parts) (defScope s__law_parts) [] [] f fd ∧ mg "_law_parts" = some (.ref f)
  f__law_are : ∃ (f : Addr) (fd : FuncData), FunD K "_law_are" "_law_are" (defArgs s__law_are) (defBody s__law_are) (defScope s__law_are) [] [] f fd ∧ mg "_law_are" = some (.ref f)
  f__law_together : ∃ (f : Addr) (fd : FuncData), FunD K "_law_together" "_law_together" (defArgs s__law_together) (defBody s__law_together) (defScope s__law_together) [] [] f fd ∧ mg "_law_together" = some (.ref f)
  f__law_pair_of : ∃ (f : Addr) (fd : FuncData), FunD K "_law_pair_of" "_law_pair_of" (defArgs s__law_pair_of) (defBody s__law_pair_of) (defScope s__law_pair_of) [] [] f fd ∧ mg "_law_pair_of" = some (.ref f)
  f__law_one_place : ∃ (f : Addr) (fd : FuncData), FunD K "_law_one_place" "_law_one_place" (defArgs s__law_one_place) (defBody s__law_one_place) (defScope s__law_one_place) [] [] f fd ∧ mg "_law_one_place" = some (.ref f)
  f_law : ∃ (f : Addr) (fd : FuncData), FunD K "law" "law" (defArgs s_law) (defBody s_law) (defScope s_law) [] [] f fd ∧ mg "law" = some (.ref f)
  g_Share : mg "Share" = some (.ref (He.ga K "Share"))
  cl_Share : Cls K (He.ga K "Share")
  na_Share_top : NoAttr K (He.ga K "Share") "top"
  na_Share_bottom : NoAttr K (He.ga K "Share") "bottom"
  mk_Share : Mk K (He.ga K "Share") (He.ma K (He.ga K "Share") "__init__")
  f_Share___init__ : ∃ (fd : FuncData), FunD K "__init__" "Share.__init__" (defArgs s_Share___init__) (defBody s_Share___init__) (defScope s_Share___init__) [.int 1] [] (He.ma K (He.ga K "Share") "__init__") fd
  me_Share_below : Meth K (He.ga K "Share") "below" (He.ma K (He.ga K "Share") "below")
  f_Share_below : ∃ (fd : FuncData), FunD K "below" "Share.below" (defArgs s_Share_below) (defBody s_Share_below) (defScope s_Share_below) [] [] (He.ma K (He.ga K "Share") "below") fd
  me_Share_over : Meth K (He.ga K "Share") "over" (He.ma K (He.ga K "Share") "over")
  f_Share_over : ∃ (fd : FuncData), FunD K "over" "Share.over" (defArgs s_Share_over) (defBody s_Share_over) (defScope s_Share_over) [] [] (He.ma K (He.ga K "Share") "over") fd
  me_Share___add__ : Meth K (He.ga K "Share") "__add__" (He.ma K (He.ga K "Share") "__add__")
  f_Share___add__ : ∃ (fd : FuncData), FunD K "__add__" "Share.__add__" (defArgs s_Share___add__) (defBody s_Share___add__) (defScope s_Share___add__) [] [] (He.ma K (He.ga K "Share") "__add__") fd
  me_Share___sub__ : Meth K (He.ga K "Share") "__sub__" (He.ma K (He.ga K "Share") "__sub__")
  f_Share___sub__ : ∃ (fd : FuncData), FunD K "__sub__" "Share.__sub__" (defArgs s_Share___sub__) (defBody s_Share___sub__) (defScope s_Share___sub__) [] [] (He.ma K (He.ga K "Share") "__sub__") fd
  me_Share___mul__ : Meth K (He.ga K "Share") "__mul__" (He.ma K (He.ga K "Share") "__mul__")
  f_Share___mul__ : ∃ (fd : FuncData), FunD K "__mul__" "Share.__mul__" (defArgs s_Share___mul__) (defBody s_Share___mul__) (defScope s_Share___mul__) [] [] (He.ma K (He.ga K "Share") "__mul__") fd
  me_Share___neg__ : Meth K (He.ga K "Share") "__neg__" (He.ma K (He.ga K "Share") "__neg__")
  f_Share___neg__ : ∃ (fd : FuncData), FunD K "__neg__" "Share.__neg__" (defArgs s_Share___neg__) (defBody s_Share___neg__) (defScope s_Share___neg__) [] [] (He.ma K (He.ga K "Share") "__neg__") fd
  me_Share___eq__ : Meth K (He.ga K "Share") "__eq__" (He.ma K (He.ga K "Share") "__eq__")
  f_Share___eq__ : ∃ (fd : FuncData), FunD K "__eq__" "Share.__eq__" (defArgs s_Share___eq__) (defBody s_Share___eq__) (defScope s_Share___eq__) [] [] (He.ma K (He.ga K "Share") "__eq__") fd
  me_Share___bool__ : Meth K (He.ga K "Share") "__bool__" (He.ma K (He.ga K "Share") "__bool__")
  f_Share___bool__ : ∃ (fd : FuncData), FunD K "__bool__" "Share.__bool__" (defArgs s_Share___bool__) (defBody s_Share___bool__) (defScope s_Share___bool__) [] [] (He.ma K (He.ga K "Share") "__bool__") fd
  me_Share___str__ : Meth K (He.ga K "Share") "__str__" (He.ma K (He.ga K "Share") "__str__")
  f_Share___str__ : ∃ (fd : FuncData), FunD K "__str__" "Share.__str__" (defArgs s_Share___str__) (defBody s_Share___str__) (defScope s_Share___str__) [] [] (He.ma K (He.ga K "Share") "__str__") fd
  me_Share___repr__ : Meth K (He.ga K "Share") "__repr__" (He.ma K (He.ga K "Share") "__repr__")
  f_Share___repr__ : ∃ (fd : FuncData), FunD K "__repr__" "Share.__repr__" (defArgs s_Share___repr__) (defBody s_Share___repr__) (defScope s_Share___repr__) [] [] (He.ma K (He.ga K "Share") "__repr__") fd
  k_END : ∃ u, mg "END" = some u ∧ RelV (.int 0) u
  k_GROUP_DIGITS : ∃ u, mg "GROUP_DIGITS" = some u ∧ RelV (.int 9) u
  k_GROUP : ∃ u, mg "GROUP" = some u ∧ RelV (.int 1000000000) u
  z_ValueError : mg "ValueError" = none
  z_abs : mg "abs" = none
  z_divmod : mg "divmod" = none
  z_str : mg "str" = none
  z_bool : mg "bool" = none
  z_isinstance : mg "isinstance" = none
  z_sum : mg "sum" = none
  z_range : mg "range" = none
  z_len : mg "len" = none
  z_zip : mg "zip" = none
  z_list : mg "list" = none
  z_int : mg "int" = none
  z_all : mg "all" = none
  z_min : mg "min" = none
  z_tuple : mg "tuple" = none
  in_Share : InsK K (He.ga K "Share")
  ki_o_Share_o_Share : PySem.W.kitOne K (.ref (He.ga K "Share")) (.ref (He.ga K "Share")) = some true
  ki_int_o_Share : PySem.W.kitOne K (.type "int") (.ref (He.ga K "Share")) = some false
  ki_bool_o_Share : PySem.W.kitOne K (.type "bool") (.ref (He.ga K "Share")) = some false
  ki_NoneType_o_Share : PySem.W.kitOne K (.type "NoneType") (.ref (He.ga K "Share")) = some false
  ki_str_o_Share : PySem.W.kitOne K (.type "str") (.ref (He.ga K "Share")) = some false
  ki_list_o_Share : PySem.W.kitOne K (.type "list") (.ref (He.ga K "Share")) = some false
  ki_tuple_o_Share : PySem.W.kitOne K (.type "tuple") (.ref (He.ga K "Share")) = some false
  nf_Share_o_Share : PySem.W.notFirst K (He.ga K "Share") (.ref (He.ga K "Share")) = true
  nf_Share_int : PySem.W.notFirst K (He.ga K "Share") (.type "int") = true
  nf_Share_bool : PySem.W.notFirst K (He.ga K "Share") (.type "bool") = true
  nf_Share_NoneType : PySem.W.notFirst K (He.ga K "Share") (.type "NoneType") = true
  nf_Share_str : PySem.W.notFirst K (He.ga K "Share") (.type "str") = true
  nf_Share_list : PySem.W.notFirst K (He.ga K "Share") (.type "list") = true
  nf_Share_tuple : PySem.W.notFirst K (He.ga K "Share") (.type "tuple") = true
  b_gcd : mg "gcd" = some (.builtin "math.gcd")
  g_InvalidWeights : mg "InvalidWeights" = some (.ref (He.ga K "InvalidWeights"))
  g_InvalidError : mg "InvalidError" = some (.ref (He.ga K "InvalidError"))
  ex_InvalidWeights : ExcK K (He.ga K "InvalidWeights")
  ki_o_InvalidWeights_o_InvalidError : PySem.W.kitOne K (.ref (He.ga K "InvalidWeights")) (.ref (He.ga K "InvalidError")) = some true
  ki_o_InvalidWeights_ValueError : PySem.W.kitOne K (.ref (He.ga K "InvalidWeights")) (.type "ValueError") = some true
  ne_Share : NeK K (He.ga K "Share")
section
variable {P : Program} {w : World} {K : PySem.W.Frag} {mg : Str → Option Value} {base : Heap}
def spDraw (B : Int) : Sp := fun vs H Q _ => ∃ (a l : Addr) (size : Int), vs = [.ref a, .int size] ∧ Bag H a l ∧ 1 ≤ size ∧ size ≤ B ∧
  ∀ (r : Int) (H' : Hp), 0 ≤ r → r < size → Bag H' a l → Chg a H H' → Q (.int r) H'
theorem ok_draw1 {f : Addr} {fd : FuncData} (T : Top K mg) (F : FunD K "_law_draw" "_law_draw" (defArgs s__law_draw) (defBody s__law_draw) (defScope s__law_draw) [] [] f fd) :
    FnOk P w K mg base CX0 1 f fd P__law_draw (spDraw 1000000) := by
  refine F.ok sc__law_draw (fun vs H Q E h => ?_) (fun cdv A outer s H vs Q E hr h => ?_)
  · obtain ⟨a, l, size, rfl, _⟩ := h
    rfl
  · obtain ⟨a, l, size, rfl, ⟨ns, i, g, m, c, hB, hl, hla, hi, hg, hm, hm', hc⟩, h1, h2, q⟩ := h
    refine ⟨_, PSs.nox (C8.pss_cut (ps_asg (pe_op op_add (pe_ix (k_ix (K := K) (by rfl)) (pv 0) pe_int (fun _ _ => rfl)) pe_int) (pg_sub (pv 0) pe_int set_list))
    (C8.pss_cut (ps_if (PW.pt (pw_and (pt_cmpR op_eq (pe_ix (k_ix (K := K) (by rfl)) (pv 0) pe_int (fun _ _ => rfl)) pe_int (nomark _)) (pw_and1 (pt_cmpR op_lt (pe_ix (k_ix (K := K) (by rfl)) (pv 0) pe_int (fun _ _ => rfl)) (pe_callB (k_len (K := K) (by rfl)) (by rfl) T.z_len (by decide +kernel) (pa_cons (pe_ix (k_ix (K := K) (by rfl)) (pv 0) pe_int (fun _ _ => rfl)) pa_nil)) (nomark _)))))
    (pss_cons (ps_set (i := 2) sc__law_draw.nd rfl (by first | exact Or.inl rfl | exact Or.inr rfl) (pe_ix (k_ix (K := K) (by rfl)) (pe_ix (k_ix (K := K) (by rfl)) (pv 0) pe_int (fun _ _ => rfl)) (pe_ix (k_ix (K := K) (by rfl)) (pv 0) pe_int (fun _ _ => rfl)) (fun _ _ => rfl)))
    (pss_cons (ps_asg (pe_op op_add (pe_ix (k_ix (K := K) (by rfl)) (pv 0) pe_int (fun _ _ => rfl)) pe_int) (pg_sub (pv 0) pe_int set_list))
    (pss_one (ps_if (pt_cmpR op_ge (pv 2) (pe_op op_pow pe_int pe_int) (nomark _))
    (pss_one (ps_asg (pv 2) (pg_sub (pv 0) pe_int set_list)))
    (pss_one (ps_asg (pe_op op_mod (pe_callTy c_int (by rfl) T.z_int (by decide +kernel) (pa_cons (pe_op op_add (pe_op op_add (pe_op op_mul (pe_ix (k_ix (K := K) (by rfl)) (pv 0) pe_int (fun _ _ => rfl)) pe_int) (pe_op op_mul (pe_op op_mod (pe_callTy c_int (by rfl) T.z_int (by decide +kernel) (pa_cons (pv 2) pa_nil)) pe_int) pe_int)) pe_int) pa_nil)) pe_int) (pg_sub (pv 0) pe_int set_list)))))))
    pss_nil)
    (pss_cons (ps_if (pt_cmpR op_gt (pe_ix (k_ix (K := K) (by rfl)) (pv 0) pe_int (fun _ _ => rfl)) pe_int (nomark _))
    (pss_cons (ps_set (i := 3) sc__law_draw.nd rfl (by first | exact Or.inl rfl | exact Or.inr rfl) (pe_op op_mod (pe_callTy c_int (by rfl) T.z_int (by decide +kernel) (pa_cons (pe_ix (k_ix (K := K) (by rfl)) (pv 0) pe_int (fun _ _ => rfl)) pa_nil)) (pv 1)))
    (pss_cons (ps_asg (pe_op op_fdivW (pe_ix (k_ix (K := K) (by rfl)) (pv 0) pe_int (fun _ _ => rfl)) (pv 1)) (pg_sub (pv 0) pe_int set_list))
    (pss_one (ps_ret (pv 3)))))
    pss_nil)
    (pss_cons (ps_if (pt_cmpR op_gt (pv 1) (pe_op op_pow pe_int pe_int) (nomark _))
    pss_never
    pss_nil)
    (pss_cons (ps_set (i := 4) sc__law_draw.nd rfl (by first | exact Or.inl rfl | exact Or.inr rfl) (pe_ix (k_ix (K := K) (by rfl)) (pv 0) pe_int (fun _ _ => rfl)))
    (pss_cons (ps_asg (pe_op op_mod (pe_callTy c_int (by rfl) T.z_int (by decide +kernel) (pa_cons (pe_op op_add (pe_op op_add (pe_op op_add (pe_op op_mul (pe_op op_mul (pv 4) (pv 4)) pe_int) (pe_op op_mul (pv 4) pe_int)) (pe_op op_mul (pe_ix (k_ix (K := K) (by rfl)) (pv 0) pe_int (fun _ _ => rfl)) pe_int)) pe_int) pa_nil)) pe_int) (pg_sub (pv 0) pe_int set_list))
    (pss_one (ps_ret (pe_op op_mod (pe_callTy c_int (by rfl) T.z_int (by decide +kernel) (pa_cons (pe_op op_add (pe_op op_fdivW (pe_ix (k_ix (K := K) (by rfl)) (pv 0) pe_int (fun _ _ => rfl)) pe_int) (pe_op op_mul (pe_op op_mod (pe_callTy c_int (by rfl) T.z_int (by decide +kernel) (pa_cons (pe_ix (k_ix (K := K) (by rfl)) (pv 0) pe_int (fun _ _ => rfl)) pa_nil)) pe_int) pe_int)) pa_nil)) (pv 1)))))))))), ?_⟩
    try simp only [cxK]
    rw [show L2.start N__law_draw [V.ref a, V.int size] = [some (.ref a), some (.int size), none, none, none] from rfl]
    refine g_cut (fun σ' H' => σ' = [some (.ref a), some (.int size), none, none, none] ∧ ∃ c', H' = upd H a (.lst [V.ref l, V.int i, V.int g, V.int m, V.int c']) ∧ 0 ≤ c') ?_ ?_
    · walk_at "go"
      exact ⟨rfl, _, rfl, by omega⟩
    rintro σ' H' ⟨rfl, c', rfl, hc'⟩
    refine g_cut (fun σ' H' => ∃ x2, σ' = [some (.ref a), some (.int size), x2, none, none] ∧ ∃ i' g' m', H' a = some (.lst [V.ref l, V.int i', V.int g', V.int m', V.int c']) ∧
      0 ≤ i' ∧ 0 ≤ g' ∧ 0 ≤ m' ∧ m' < 2147483563 ∧ Chg a H H') ?_ ?_
    · walk_at "go"
      refine g_iteD (fun h3 => ?_) (fun h3 => ?_)
      · walk_at "go"
        refine g_iteD (fun h4 => ?_) (fun h4 => ?_)
        · have e : atI (ns.map V.int) i = some (.int (ns.getD i.toNat 0)) := by
            have z := atI_nat (xs := ns.map V.int) (j := i.toNat) (v := .int (ns.getD i.toNat 0)) (by
              rw [List.getElem?_map, List.getD_eq_getElem?_getD, List.getElem?_eq_getElem (by rw [List.length_map] at h4; omega)]; rfl)
            rwa [Int.toNat_of_nonneg hi] at z
          walk_at "go"
          refine g_iteD (fun h5 => ?_) (fun h5 => ?_)
          · walk_at "go"
            exact ⟨_, rfl, _, _, _, by walk_at "h", by omega, by omega, hm, hm', by walk_at "chg"⟩
          · walk_at "go"
            exact ⟨_, rfl, _, _, _, by walk_at "h", by omega, by omega, by omega, by omega, by walk_at "chg"⟩
        · walk_at "go"
          exact ⟨_, rfl, i, g, m, by walk_at "h", hi, hg, hm, hm', by walk_at "chg"⟩
      · walk_at "go"
        exact ⟨_, rfl, i, g, m, by walk_at "h", hi, hg, hm, hm', by walk_at "chg"⟩
    rintro σ' H' ⟨x2, rfl, i', g', m', hB', hi', hg', hm1, hm2, ch⟩
    have hl' : H' l = some (HO.lst (List.map V.int ns)) := by walk_at "h"
    walk_at "go"
    refine g_iteD (fun h3 => ?_) (fun h3 => ?_)
    · have hs : 0 < size := by omega
      have hd : CDivW g' size := wide_div (b := 200) hs (Nat.lt_of_le_of_lt (m := 100000000000000000000000000000000000000000) (by omega) (by decide)) (by decide) (by decide)
      walk_at "go"
      exact q _ _ (Int.emod_nonneg _ (by omega)) (Int.emod_lt_of_pos _ (by omega))
        ⟨ns, _, _, _, _, by walk_at "h", by walk_at "h", hla, hi', Int.ediv_nonneg hg' (by omega), hm1, hm2, hc'⟩ (by walk_at "chg")
    · have hs : 0 < size := by omega
      walk_at "go"
      refine g_iteX (by omega) ?_
      walk_at "go"
      exact q _ _ (Int.emod_nonneg _ (by omega)) (Int.emod_lt_of_pos _ (by omega))
        ⟨ns, _, _, _, _, by walk_at "h", by walk_at "h", hla, hi', hg', by omega, by omega, hc'⟩ (by walk_at "chg")

theorem c_draw1 (T : Top K mg) : Cal P w K mg base "_law_draw" 1 P__law_draw (spDraw 1000000) := cal_mk T.f__law_draw (ok_draw1 T) (fun F => F.bindsN fun _ _ _ _ _ _ us hl => match us, hl with | [_, _], _ => rfl)
end

set_option Elab.async false
set_option linter.all false
set_option maxRecDepth 100000
set_option maxHeartbeats 4000000
open PySem PySem.Spec L2

abbrev FnP (K : PySem.W.Frag) (x : Str) (st : Stmt) (f : Addr) (fd : FuncData) : Prop := FunD K x x (defArgs st) (defBody st) (defScope st) [] [] f fd
section
variable {P : Program} {w : World} {K : PySem.W.Frag} {mg : Str → Option Value} {base : Heap}
theorem g_drawB {B : Int} {a l : Addr} {size : Int} {H : Hp} {Q : VK} {E : XK} (hB : Bag H a l) (h1 : 1 ≤ size ∧ size ≤ B) (q : ∀ (r : Int) (H' : Hp), 0 ≤ r → r < size → Bag H' a l → Chg a H H' → Q (.int r) H') :
    spDraw B [.ref a, .int size] H Q E := ⟨a, l, size, rfl, hB, h1.1, h1.2, q⟩
theorem bag_new {H : Hp} {a l p : Addr} {o : HO} (h : Bag H a l) (hp : H p = none) : Bag (L2.upd H p o) a l := by
  obtain ⟨ns, i, g, m, c, hB, hl, r⟩ := h
  exact ⟨ns, i, g, m, c, h_ne (ne_of_none hB hp) hB, h_ne (ne_of_none hl hp) hl, r⟩
theorem bag_sm {H H' : Hp} {a l : Addr} (h : Bag H a l) (s : Same H H') : Bag H' a l := by
  obtain ⟨ns, i, g, m, c, hB, hl, r⟩ := h
  exact ⟨ns, i, g, m, c, s _ _ hB, s _ _ hl, r⟩
theorem bag_chg {H : Hp} {a l D : Addr} {o : HO} (h : Bag H a l) (h1 : D ≠ a) (h2 : D ≠ l) : Bag (L2.upd H D o) a l := by
  obtain ⟨ns, i, g, m, c, hB, hl, r⟩ := h
  exact ⟨ns, i, g, m, c, h_ne (Ne.symm h1) hB, h_ne (Ne.symm h2) hl, r⟩
theorem bag_apart {H : Hp} {a l D : Addr} (h : Bag H a l) (hD : H D = none) : D ≠ a ∧ D ≠ l := by
  obtain ⟨ns, i, g, m, c, hB, hl, r⟩ := h
  exact ⟨Ne.symm (ne_of_none hB hD), Ne.symm (ne_of_none hl hD)⟩
theorem ne_bag {H : Hp} {a l p : Addr} (h : Bag H a l) (hp : H p = none) : p ≠ a := by
  obtain ⟨ns, i, g, m, c, hB, _⟩ := h
  exact Ne.symm (ne_of_none hB hp)
theorem ok_drawN {n : Nat} {B B2 : Int} (hb1 : 1000000 ≤ B) (hb2 : B2 < B * 1000000) (hb3 : B2 ≤ 100000000000000000000000000000000000000000) {f : Addr} {fd : FuncData} (T : Top K mg) (C__law_draw : Cal P w K mg base "_law_draw" (n + 1) P__law_draw (spDraw B)) (F : FnP K "_law_draw" s__law_draw f fd) :
    FnOk P w K mg base CX0 (n + 2) f fd P__law_draw (spDraw B2) := by
  refine F.ok sc__law_draw (fun vs H Q E h => ?_) (fun cdv A outer s H vs Q E hr h => ?_)
  · obtain ⟨a, l, size, rfl, _⟩ := h
    rfl
  · obtain ⟨a, l, size, rfl, ⟨ns, i, g, m, c, hB, hl, hla, hi, hg, hm, hm', hc⟩, h1, h2, q⟩ := h
    refine ⟨_, PSs.nox (C8.pss_cut (ps_asg (pe_op op_add (pe_ix (k_ix (K := K) (by rfl)) (pv 0) pe_int (fun _ _ => rfl)) pe_int) (pg_sub (pv 0) pe_int set_list))
    (C8.pss_cut (ps_if (PW.pt (pw_and (pt_cmpR op_eq (pe_ix (k_ix (K := K) (by rfl)) (pv 0) pe_int (fun _ _ => rfl)) pe_int (nomark _)) (pw_and1 (pt_cmpR op_lt (pe_ix (k_ix (K := K) (by rfl)) (pv 0) pe_int (fun _ _ => rfl)) (pe_callB (k_len (K := K) (by rfl)) (by rfl) T.z_len (by decide +kernel) (pa_cons (pe_ix (k_ix (K := K) (by rfl)) (pv 0) pe_int (fun _ _ => rfl)) pa_nil)) (nomark _)))))
    (pss_cons (ps_set (i := 2) sc__law_draw.nd rfl (by first | exact Or.inl rfl | exact Or.inr rfl) (pe_ix (k_ix (K := K) (by rfl)) (pe_ix (k_ix (K := K) (by rfl)) (pv 0) pe_int (fun _ _ => rfl)) (pe_ix (k_ix (K := K) (by rfl)) (pv 0) pe_int (fun _ _ => rfl)) (fun _ _ => rfl)))
    (pss_cons (ps_asg (pe_op op_add (pe_ix (k_ix (K := K) (by rfl)) (pv 0) pe_int (fun _ _ => rfl)) pe_int) (pg_sub (pv 0) pe_int set_list))
    (pss_one (ps_if (pt_cmpR op_ge (pv 2) (pe_op op_pow pe_int pe_int) (nomark _))
    (pss_one (ps_asg (pv 2) (pg_sub (pv 0) pe_int set_list)))
    (pss_one (ps_asg (pe_op op_mod (pe_callTy c_int (by rfl) T.z_int (by decide +kernel) (pa_cons (pe_op op_add (pe_op op_add (pe_op op_mul (pe_ix (k_ix (K := K) (by rfl)) (pv 0) pe_int (fun _ _ => rfl)) pe_int) (pe_op op_mul (pe_op op_mod (pe_callTy c_int (by rfl) T.z_int (by decide +kernel) (pa_cons (pv 2) pa_nil)) pe_int) pe_int)) pe_int) pa_nil)) pe_int) (pg_sub (pv 0) pe_int set_list)))))))
    pss_nil)
    (pss_cons (ps_if (pt_cmpR op_gt (pe_ix (k_ix (K := K) (by rfl)) (pv 0) pe_int (fun _ _ => rfl)) pe_int (nomark _))
    (pss_cons (ps_set (i := 3) sc__law_draw.nd rfl (by first | exact Or.inl rfl | exact Or.inr rfl) (pe_op op_mod (pe_callTy c_int (by rfl) T.z_int (by decide +kernel) (pa_cons (pe_ix (k_ix (K := K) (by rfl)) (pv 0) pe_int (fun _ _ => rfl)) pa_nil)) (pv 1)))
    (pss_cons (ps_asg (pe_op op_fdivW (pe_ix (k_ix (K := K) (by rfl)) (pv 0) pe_int (fun _ _ => rfl)) (pv 1)) (pg_sub (pv 0) pe_int set_list))
    (pss_one (ps_ret (pv 3)))))
    pss_nil)
    (pss_cons (ps_if (pt_cmpR op_gt (pv 1) (pe_op op_pow pe_int pe_int) (nomark _))
    (pss_one (ps_ret (pe_op op_mod (pe_callTy c_int (by rfl) T.z_int (by decide +kernel) (pa_cons (pe_op op_add (pe_op op_mul (pe_cal C__law_draw (hr.mono (by first | decide | omega)) (by rfl) (pa_cons (pv 0) (pa_cons (pe_op op_add (pe_op op_fdivW (pv 1) (pe_op op_pow pe_int pe_int)) pe_int) pa_nil))) (pe_op op_pow pe_int pe_int)) (pe_cal C__law_draw (hr.mono (by first | decide | omega)) (by rfl) (pa_cons (pv 0) (pa_cons (pe_op op_pow pe_int pe_int) pa_nil)))) pa_nil)) (pv 1))))
    pss_nil)
    (pss_cons (ps_set (i := 4) sc__law_draw.nd rfl (by first | exact Or.inl rfl | exact Or.inr rfl) (pe_ix (k_ix (K := K) (by rfl)) (pv 0) pe_int (fun _ _ => rfl)))
    (pss_cons (ps_asg (pe_op op_mod (pe_callTy c_int (by rfl) T.z_int (by decide +kernel) (pa_cons (pe_op op_add (pe_op op_add (pe_op op_add (pe_op op_mul (pe_op op_mul (pv 4) (pv 4)) pe_int) (pe_op op_mul (pv 4) pe_int)) (pe_op op_mul (pe_ix (k_ix (K := K) (by rfl)) (pv 0) pe_int (fun _ _ => rfl)) pe_int)) pe_int) pa_nil)) pe_int) (pg_sub (pv 0) pe_int set_list))
    (pss_one (ps_ret (pe_op op_mod (pe_callTy c_int (by rfl) T.z_int (by decide +kernel) (pa_cons (pe_op op_add (pe_op op_fdivW (pe_ix (k_ix (K := K) (by rfl)) (pv 0) pe_int (fun _ _ => rfl)) pe_int) (pe_op op_mul (pe_op op_mod (pe_callTy c_int (by rfl) T.z_int (by decide +kernel) (pa_cons (pe_ix (k_ix (K := K) (by rfl)) (pv 0) pe_int (fun _ _ => rfl)) pa_nil)) pe_int) pe_int)) pa_nil)) (pv 1)))))))))), ?_⟩
    try simp only [cxK]
    rw [show L2.start N__law_draw [V.ref a, V.int size] = [some (.ref a), some (.int size), none, none, none] from rfl]
    refine g_cut (fun σ' H' => σ' = [some (.ref a), some (.int size), none, none, none] ∧ ∃ c', H' = upd H a (.lst [V.ref l, V.int i, V.int g, V.int m, V.int c']) ∧ 0 ≤ c') ?_ ?_
    · walk_at "go"
      exact ⟨rfl, _, rfl, by omega⟩
    rintro σ' H' ⟨rfl, c', rfl, hc'⟩
    refine g_cut (fun σ' H' => ∃ x2, σ' = [some (.ref a), some (.int size), x2, none, none] ∧ ∃ i' g' m', H' a = some (.lst [V.ref l, V.int i', V.int g', V.int m', V.int c']) ∧
      0 ≤ i' ∧ 0 ≤ g' ∧ 0 ≤ m' ∧ m' < 2147483563 ∧ Chg a H H') ?_ ?_
    · walk_at "go"
      refine g_iteD (fun h3 => ?_) (fun h3 => ?_)
      · walk_at "go"
        refine g_iteD (fun h4 => ?_) (fun h4 => ?_)
        · have e : atI (ns.map V.int) i = some (.int (ns.getD i.toNat 0)) := by
            have z := atI_nat (xs := ns.map V.int) (j := i.toNat) (v := .int (ns.getD i.toNat 0)) (by
              rw [List.getElem?_map, List.getD_eq_getElem?_getD, List.getElem?_eq_getElem (by rw [List.length_map] at h4; omega)]; rfl)
            rwa [Int.toNat_of_nonneg hi] at z
          walk_at "go"
          refine g_iteD (fun h5 => ?_) (fun h5 => ?_)
          · walk_at "go"
            exact ⟨_, rfl, _, _, _, by walk_at "h", by omega, by omega, hm, hm', by walk_at "chg"⟩
          · walk_at "go"
            exact ⟨_, rfl, _, _, _, by walk_at "h", by omega, by omega, by omega, by omega, by walk_at "chg"⟩
        · walk_at "go"
          exact ⟨_, rfl, i, g, m, by walk_at "h", hi, hg, hm, hm', by walk_at "chg"⟩
      · walk_at "go"
        exact ⟨_, rfl, i, g, m, by walk_at "h", hi, hg, hm, hm', by walk_at "chg"⟩
    rintro σ' H' ⟨x2, rfl, i', g', m', hB', hi', hg', hm1, hm2, ch⟩
    have hl' : H' l = some (HO.lst (List.map V.int ns)) := by walk_at "h"
    walk_at "go"
    refine g_iteD (fun h3 => ?_) (fun h3 => ?_)
    · have hs : 0 < size := by omega
      have hd : CDivW g' size := wide_div (b := 200) hs (Nat.lt_of_le_of_lt (m := 100000000000000000000000000000000000000000) (by omega) (by decide)) (by decide) (by decide)
      walk_at "go"
      exact q _ _ (Int.emod_nonneg _ (by omega)) (Int.emod_lt_of_pos _ (by omega))
        ⟨ns, _, _, _, _, by walk_at "h", by walk_at "h", hla, hi', Int.ediv_nonneg hg' (by omega), hm1, hm2, hc'⟩ (by walk_at "chg")
    · have hs : 0 < size := by omega
      walk_at "go"
      refine g_iteD (fun h6 => ?_) (fun h6 => ?_)
      · have hBag : Bag H' a l := ⟨ns, _, _, _, _, by walk_at "h", by walk_at "h", hla, hi', hg', hm1, hm2, hc'⟩
        walk_at "go"
        have hq : size / 1000000 + 1 ≤ B := by omega
        refine g_drawB hBag ⟨by omega, by first | exact hq | omega⟩ fun r1 H1 r1a r1b B1 ch1 => ?_
        walk_at "go"
        refine g_drawB B1 ⟨by omega, by omega⟩ fun r2 H2 r2a r2b B2 ch2 => ?_
        walk_at "go"
        exact q _ _ (Int.emod_nonneg _ (by omega)) (Int.emod_lt_of_pos _ (by omega)) B2 (by walk_at "chg")
      walk_at "go"
      exact q _ _ (Int.emod_nonneg _ (by omega)) (Int.emod_lt_of_pos _ (by omega))
        ⟨ns, _, _, _, _, by walk_at "h", by walk_at "h", hla, hi', hg', by omega, by omega, hc'⟩ (by walk_at "chg")
theorem c_drawN {n : Nat} {B B2 : Int} (hb1 : 1000000 ≤ B) (hb2 : B2 < B * 1000000) (hb3 : B2 ≤ 100000000000000000000000000000000000000000) (T : Top K mg) (C : Cal P w K mg base "_law_draw" (n + 1) P__law_draw (spDraw B)) : Cal P w K mg base "_law_draw" (n + 2) P__law_draw (spDraw B2) := cal_mk T.f__law_draw (ok_drawN hb1 hb2 hb3 T C) (fun F => F.bindsN fun _ _ _ _ _ _ us hl => match us, hl with | [_, _], _ => rfl)
theorem c_draw2 (T : Top K mg) : Cal P w K mg base "_law_draw" 2 P__law_draw (spDraw 100000000000) := c_drawN (by decide) (by decide) (by decide) T (c_draw1 T)
theorem c_draw8 (T : Top K mg) : Cal P w K mg base "_law_draw" 8 P__law_draw (spDraw 100000000000000000000000000000000000000000) :=
  c_drawN (B := 1000000000000000000000000000000000000) (by decide) (by decide) (by decide) T (c_drawN (B := 10000000000000000000000000000000) (by decide) (by decide) (by decide) T (c_drawN (B := 100000000000000000000000000) (by decide) (by decide) (by decide) T
    (c_drawN (B := 1000000000000000000000) (by decide) (by decide) (by decide) T (c_drawN (B := 10000000000000000) (by decide) (by decide) (by decide) T (c_drawN (B := 100000000000) (by decide) (by decide) (by decide) T (c_draw2 T))))))
/-! _law_of -/
def spOf : Sp := fun vs H Q _ => ∃ (a l t : Addr) (xs : List V), vs = [.ref a, .ref t] ∧ Bag H a l ∧ H t = some (.lst xs) ∧ t ≠ a ∧ (1 ≤ xs.length ∧ xs.length ≤ 1000000) ∧
  ∀ (x : V) (H' : Hp), x ∈ xs → Bag H' a l → Chg a H H' → Q x H'
theorem g_of {a l t : Addr} {xs : List V} {H : Hp} {Q : VK} {E : XK} (hB : Bag H a l) (ht : H t = some (.lst xs)) (n : t ≠ a) (hl : 1 ≤ xs.length ∧ xs.length ≤ 1000000)
    (q : ∀ (x : V) (H' : Hp), x ∈ xs → Bag H' a l → Chg a H H' → Q x H') : spOf [.ref a, .ref t] H Q E := ⟨a, l, t, xs, rfl, hB, ht, n, hl, q⟩
theorem ok_of {f : Addr} {fd : FuncData} (T : Top K mg) (F : FnP K "_law_of" s__law_of f fd) : FnOk P w K mg base CX0 2 f fd P__law_of spOf := by
  have C__law_draw : Cal P w K mg base "_law_draw" 1 P__law_draw (spDraw 1000000) := c_draw1 T
  refine F.ok sc__law_of (fun vs H Q E h => ?_) (fun cdv A outer s H vs Q E hr h => ?_)
  · obtain ⟨a, l, t, xs, rfl, _⟩ := h
    rfl
  · obtain ⟨a, l, t, xs, rfl, hB, ht, hn, hl, q⟩ := h
    refine ⟨_, PSs.nox (pss_one (ps_ret (pe_ix (k_ix (K := K) (by rfl)) (pv 1) (pe_cal C__law_draw (hr.mono (by first | decide | omega)) (by rfl) (pa_cons (pv 0) (pa_cons (pe_callB (k_len (K := K) (by rfl)) (by rfl) T.z_len (by decide +kernel) (pa_cons (pv 1) pa_nil)) pa_nil))) (fun _ _ => rfl)))), ?_⟩
    try simp only [cxK]
    rw [show L2.start N__law_of [V.ref a, V.ref t] = [some (.ref a), some (.ref t)] from rfl]
    walk_at "go"
    refine g_drawB hB ⟨by omega, by omega⟩ fun r H1 ra rb B1 ch1 => ?_
    have e : atI xs r = some (xs.getD r.toNat .non) := by
      have z := atI_nat (xs := xs) (j := r.toNat) (v := xs.getD r.toNat .non) (by
        rw [List.getD_eq_getElem?_getD, List.getElem?_eq_getElem (by omega)]; rfl)
      rwa [Int.toNat_of_nonneg ra] at z
    walk_at "go"
    refine q _ _ ?_ B1 ch1
    rw [List.getD_eq_getElem?_getD, List.getElem?_eq_getElem (by omega)]
    exact List.getElem_mem _
theorem c_of (T : Top K mg) : Cal P w K mg base "_law_of" 2 P__law_of spOf := cal_mk T.f__law_of (ok_of T) (fun F => F.bindsN fun _ _ _ _ _ _ us hl => match us, hl with | [_, _], _ => rfl)
/-! _law_bag -/
def spBag (K : PySem.W.Frag) : Sp := fun vs H Q _ => ∃ (a : Addr) (ns : List Int), vs = [.ref a] ∧ SqL K H a (ns.map V.int) ∧ ∀ (p l : Addr) (H' : Hp), Bag H' p l → H p = none → Same H H' → Q (.ref p) H'
theorem ok_bag {f : Addr} {fd : FuncData} (T : Top K mg) (F : FnP K "_law_bag" s__law_bag f fd) : FnOk P w K mg base CX0 1 f fd P__law_bag (spBag K) := by
  refine F.ok sc__law_bag (fun vs H Q E h => ?_) (fun cdv A outer s H vs Q E hr h => ?_)
  · obtain ⟨a, ns, rfl, _⟩ := h
    rfl
  · obtain ⟨a, ns, rfl, hS, q⟩ := h
    refine ⟨_, PSs.nox (pss_cons (ps_set (i := 1) sc__law_bag.nd rfl (by first | exact Or.inl rfl | exact Or.inr rfl) pe_int)
    (pss_cons (ps_for PassesOwn.never rfl (k_pil (K := K) (by rfl) (pe_slice (k_sl (K := K) (by rfl)) (pv 0) po_none (po_some pe_int))) (pg_name (i := 2) sc__law_bag.nd rfl (by first | exact Or.inl rfl | exact Or.inr rfl))
    (pss_one (ps_set (i := 1) sc__law_bag.nd rfl (by first | exact Or.inl rfl | exact Or.inr rfl) (pe_op op_mod (pe_callTy c_int (by rfl) T.z_int (by decide +kernel) (pa_cons (pe_op op_add (pe_op op_add (pe_op op_mul (pv 1) pe_int) (pe_op op_mod (pe_callTy c_int (by rfl) T.z_int (by decide +kernel) (pa_cons (pv 2) pa_nil)) pe_int)) pe_int) pa_nil)) pe_int))))
    (pss_one (ps_ret (pe_lst (pa_cons (pe_callTy (k_list (K := K) (by rfl)) (by rfl) T.z_list (by decide +kernel) (pa_cons (pe_slice (k_sl (K := K) (by rfl)) (pv 0) po_none (po_some pe_int)) pa_nil)) (pa_cons pe_int (pa_cons pe_int (pa_cons (pv 1) (pa_cons pe_int pa_nil)))))))))), ?_⟩
    try simp only [cxK]
    rw [show L2.start N__law_bag [V.ref a] = [some (.ref a), none, none] from rfl]
    walk_at "go"
    rename_i p hp
    have ec : cutV (ns.map V.int) none (some 63) = (ns.take 63).map V.int := by
      unfold cutV
      rw [HT.sIx_none, show HT.sIx (ns.map V.int).length (ns.map V.int).length (some 63) = min 63 (ns.map V.int).length from HT.sIx_nat _ _ 63]
      rw [List.drop_zero, Nat.sub_zero, ← List.map_take]
      congr 1
      rw [List.length_map]
      rcases Nat.le_total 63 ns.length with z | z
      · rw [Nat.min_eq_left z]
      · rw [Nat.min_eq_right z, List.take_length, List.take_of_length_le z]
    rw [ec]
    have s1 : Same H (upd H p (.lst ((ns.take 63).map V.int))) := same_new hp
    refine forL (xs := (ns.take 63).map V.int) ⟨fun i σ' H' => ∃ m y, σ' = [some (.ref a), some (.int m), y] ∧ 0 ≤ m ∧ m < 2147483563 ∧ H' = upd H p (.lst ((ns.take 63).map V.int)), ⟨_, _, rfl, by decide, by decide, rfl⟩, ?_, ?_, ?_⟩
    · rintro i σ' H' _ ⟨m, y, rfl, _, _, rfl⟩
      exact SqL.of upd_same
    · rintro i x σ' H' hx ⟨m, y, rfl, hm, hm', rfl⟩
      rw [List.getElem?_map, Option.map_eq_some_iff] at hx
      obtain ⟨n, _, rfl⟩ := hx
      walk_at "go"
      exact ⟨_, _, rfl, by omega, by omega, rfl⟩
    · rintro σ' H' ⟨m, y, rfl, hm, hm', rfl⟩
      have hS1 : SqL K (upd H p (.lst ((ns.take 63).map V.int))) a (ns.map V.int) := s1.seq hS
      walk_at "go"
      rename_i p2 hp2 p3 hp3 p1 hp1
      rw [ec] at *
      have s2 := same_new hp2 (o := .lst ((ns.take 63).map V.int))
      have s3 := same_new hp3 (o := .lst ((ns.take 63).map V.int))
      have s4 := same_new hp1 (o := .lst [V.ref p3, V.int 0, V.int 0, V.int m, V.int 0])
      refine q p1 p3 _ ⟨ns.take 63, 0, 0, m, 0, upd_same, s4 _ _ upd_same, ?_, by decide, by decide, hm, hm', by decide⟩ (((s1.trans s2).trans s3).free hp1) (((s1.trans s2).trans s3).trans s4)
      exact ne_of_none upd_same hp1
theorem c_bag (T : Top K mg) : Cal P w K mg base "_law_bag" 1 P__law_bag (spBag K) := cal_mk T.f__law_bag (ok_bag T) (fun F => F.bindsN fun _ _ _ _ _ _ us hl => match us, hl with | [_], _ => rfl)
end

set_option Elab.async false
set_option linter.all false
set_option maxRecDepth 100000
set_option maxHeartbeats 4000000
open PySem PySem.Spec L2

local macro_rules | `(tactic| walk_at "s") => `(tactic| first
  | with_reducible refine' g_prop ?_
  | with_reducible refine' g_m1 ?_
  | with_reducible refine' g_m1R ?_
  | with_reducible refine' g_fmt ?_
  | with_reducible refine' g_jsC ?_
  | with_reducible refine' g_jsN ?_
  | with_reducible refine' g_mk ?_
  | with_reducible refine' g_methN ?_
  | with_reducible refine' g_iZm ?_
  | ((with_reducible refine' g_gLst ?k1 ?k2 ?_); (case k1 => walk_at "l"); (case k2 => rfl))
  | ((with_reducible refine' g_methN2 ?k1 ?k2 ?_); (case k1 => walk_at "h"); (case k2 => rfl))
  | ((with_reducible refine' g_methN3 ?k1 ?k2 ?k3 ?_); (case k1 => rfl); (case k2 => rfl); (case k3 => rfl))
  | with_reducible refine' g_brk ?_
  | with_reducible refine' g_cont ?_
  | with_reducible refine' g_iStr ?_
  | with_reducible refine' g_strR ?_
  | with_reducible refine' g_min2 ?_
  | with_reducible refine' g_max2 ?_
  | with_reducible refine' g_intB ?_)

local macro_rules | `(tactic| walk_at "s") => `(tactic| first
  | ((with_reducible refine' g_ownBin ?k1 ?k2 ?_); (case k1 => walk_at "h"); (case k2 => walk_at "h"))
  | ((with_reducible refine' g_ownUn ?k1 ?_); (case k1 => walk_at "h"))
  | ((with_reducible refine' g_isiO ?k1 ?k2 ?k3 ?k4 ?_); (case k1 => walk_at "h"); (case k2 => (with_reducible assumption)); (case k3 => (with_reducible assumption)); (case k4 => (with_reducible assumption)))
  | ((with_reducible refine' g_isiB ?k1 ?k2 ?_); (case k1 => walk_at "ty"); (case k2 => (with_reducible assumption)))
  | with_reducible refine' g_absN ?_
  | with_reducible refine' g_rev ?_
  | ((with_reducible refine' g_revR ?k1 ?_); (case k1 => walk_at "l"); intro p hp)
  | with_reducible refine' g_gcd ?_)

/-! words of numbers -/
theorem ofS (s : String) : Str.ofString s = sOf (s.toList.map Char.toNat) := Str.ofString_eq_toList s
theorem nat_word (n : Nat) : Str.ofString (toString n) = sOf (dg n) := by
  rw [ofS, Nat.toString_eq_repr, Nat.toList_repr]
  rfl
theorem int_word (n : Int) : Str.ofString (toString n) = sOf (wrd n) := by
  cases n with
  | ofNat m =>
    rw [show toString (Int.ofNat m) = toString m from rfl, nat_word]
    unfold wrd
    rw [if_neg (by simp)]
    rfl
  | negSucc m =>
    rw [show toString (Int.negSucc m) = "-" ++ toString (m + 1) from rfl, ofS, String.toList_append, List.map_append]
    rw [Nat.toString_eq_repr, Nat.toList_repr]
    unfold wrd
    rw [if_pos (Int.negSucc_lt_zero m)]
    rfl
theorem zf9 {r : Nat} (h : r < 10 ^ 9) : Txt.zfill (sOf (dg r)) 9 = sOf (pd 9 r) := by
  obtain ⟨h1, h2⟩ := dg_fill 9 r (by decide) h
  unfold Txt.zfill
  rw [sOf_len]
  by_cases e : (9 : Int) ≤ ((dg r).length : Int)
  · rw [if_pos e]
    have e2 : (dg r).length = 9 := by omega
    rw [e2] at h2
    rw [← h2]
    rfl
  · rw [if_neg e]
    have hd : ∃ c cs, dg r = c :: cs ∧ 48 ≤ c := by
      by_cases h10 : r < 10
      · exact ⟨_, _, dg_lt h10, by omega⟩
      · have : ∀ n, ∃ c cs, dg n = c :: cs ∧ 48 ≤ c := by
          intro n
          induction n using Nat.strongRecOn with
          | ind n ih =>
            by_cases h : n < 10
            · exact ⟨_, _, dg_lt h, by omega⟩
            · obtain ⟨c, cs, e, l⟩ := ih (n / 10) (by omega)
              exact ⟨c, cs ++ [48 + n % 10], by rw [dg_ge (by omega), e]; rfl, l⟩
        exact this r
    obtain ⟨c, cs, ec, hc⟩ := hd
    have hne1 : c ≠ 43 := by omega
    have hne2 : c ≠ 45 := by omega
    have e3 : PySem.zfilled (sOf (dg r)) ((9 : Int).toNat - (dg r).length) = Builtin.Str.padded (sOf (dg r)) ((9 : Int).toNat - (dg r).length) 0 48 := by
      unfold PySem.zfilled
      rw [ec]
      show (match (c :: cs).toArray[0]? with
        | some 43 => _
        | some 45 => _
        | _ => _) = _
      simp only [List.getElem?_toArray, List.getElem?_cons_zero]
      split
      · rename_i q; exact absurd (Option.some.inj q) hne1
      · rename_i q; exact absurd (Option.some.inj q) hne2
      · rfl
    rw [e3]
    unfold Builtin.Str.padded
    rw [← h2]
    show (⟨Array.replicate ((9 : Int).toNat - (dg r).length) 48 ++ (dg r).toArray ++ Array.replicate 0 48⟩ : Str) = ⟨(List.replicate (9 - (dg r).length) 48 ++ dg r).toArray⟩
    congr 1
    apply Array.ext'
    simp
/-- the groups so far (the later ones stand ahead), what is left -/
theorem grp_step {m : Nat} (gs : List (List Nat)) (n : Nat) (h : dg n = dg m ++ gs.reverse.flatten) (hm : 10 ^ 9 ≤ m) :
    dg n = dg (m / 10 ^ 9) ++ (gs ++ [pd 9 (m % 10 ^ 9)]).reverse.flatten := by
  have e : m = m / 10 ^ 9 * 10 ^ 9 + m % 10 ^ 9 := by omega
  have s := dg_split 9 (m / 10 ^ 9) (m % 10 ^ 9) (Nat.div_pos hm (by decide)) (Nat.mod_lt _ (by decide))
  rw [← e] at s
  rw [h, s, List.reverse_append, List.append_assoc]
  rfl
section
variable {P : Program} {w : World} {K : PySem.W.Frag} {mg : Str → Option Value} {base : Heap}
def spWord : Sp := fun vs H Q _ => ∃ n : Int, vs = [.int n] ∧ n.natAbs < 2 ^ 1800 ∧ ∀ H', Same H H' → Q (.str (sOf (wrd n))) H'
theorem ok_word (T : Top K mg) {f : Addr} {fd : FuncData} (F : FnP K "number_word" s_number_word f fd) : FnOk P w K mg base CX0 1 f fd P_number_word spWord := by
  refine F.ok sc_number_word (fun vs H Q E h => ?_) (fun cdv A outer s H vs Q E hr h => ?_)
  · obtain ⟨n, rfl, _⟩ := h
    rfl
  · obtain ⟨n, rfl, hn, q⟩ := h
    refine ⟨_, PSs.nox (pss_cons (ps_set (i := 1) sc_number_word.nd rfl (by first | exact Or.inl rfl | exact Or.inr rfl) (pe_callB c_absN (by rfl) T.z_abs (by decide +kernel) (pa_cons (pv 0) pa_nil)))
    (pss_cons (ps_set (i := 2) sc_number_word.nd rfl (by first | exact Or.inl rfl | exact Or.inr rfl) (pe_lst pa_nil))
    (pss_cons (ps_while PassesOwn.never (pt_cmpR op_ge (pv 1) (C8.pe_gc (v := .int 1000000000) (by rfl) T.k_GROUP) (nomark _))
    (pss_cons (ps_asg (pe_callB call_divmodW (by rfl) T.z_divmod (by decide +kernel) (pa_cons (pv 1) (pa_cons (C8.pe_gc (v := .int 1000000000) (by rfl) T.k_GROUP) pa_nil))) (k_pgt (K := K) (n := 2) (by rfl) (by rfl) (pgs_cons (pg_name (i := 1) sc_number_word.nd rfl (by first | exact Or.inl rfl | exact Or.inr rfl)) (pgs_cons (pg_name (i := 3) sc_number_word.nd rfl (by first | exact Or.inl rfl | exact Or.inr rfl)) pgs_nil)) (by rfl) (by rfl)))
    (pss_one (ps_expr (pe_bm PySem.F.plainAttrs_list PySem.F.slot_list_append PySem.F.type_list_append mt_append (pv 2) (pa_cons (pe_m1 PySem.F.slot_str_zfill PySem.F.type_str_zfill mt_zfill (pe_callTy call_str_int (by rfl) T.z_str (by decide +kernel) (pa_cons (pv 3) pa_nil)) (C8.pe_gc (v := .int 9) (by rfl) T.k_GROUP_DIGITS)) pa_nil))))))
    (pss_cons (ps_expr (pe_bm PySem.F.plainAttrs_list PySem.F.slot_list_append PySem.F.type_list_append mt_append (pv 2) (pa_cons (pe_callTy call_str_int (by rfl) T.z_str (by decide +kernel) (pa_cons (pv 1) pa_nil)) pa_nil)))
    (pss_cons (ps_set (i := 4) sc_number_word.nd rfl (by first | exact Or.inl rfl | exact Or.inr rfl) (k_join (K := K) (by rfl) pe_str (k_revL (K := K) (by rfl) (pv 2))))
    (pss_one (ps_ret (pe_ifExp (pt_cmpR op_lt (pv 0) pe_int (nomark _)) (pe_joined (.cons pe_str (.cons (pe_fmt (pv 4)) .nil))) (pv 4))))))))), ?_⟩
    try simp only [cxK]
    rw [show L2.start N_number_word [V.int n] = [some (.int n), none, none, none, none] from rfl]
    walk_at "go"
    rename_i p hp
    refine g_while (fun m σ' H' => ∃ (rest : Nat) (gs : List (List Nat)) (y : Option V), σ' = [some (.int n), some (.int rest), some (.ref p), y, none] ∧ H' p = some (.lst (gs.map fun z => V.str (sOf z))) ∧ Same H H' ∧
      dg n.natAbs = dg rest ++ gs.reverse.flatten ∧ rest ≤ n.natAbs ∧ rest < 10 ^ (9 * m) ∧ gs.length + m = 200)
      ⟨200, n.natAbs, [], none, rfl, upd_same, same_new hp, by simp, Nat.le_refl _, Nat.lt_of_lt_of_le hn (by decide +kernel), rfl⟩ ?_
    rintro m σ' H' ⟨rest, gs, y, rfl, hL, sm, hd, hrn, hr1, hm⟩
    have hlen : (dg n.natAbs).length ≤ 1800 := by
      unfold dg
      rw [List.length_map]
      exact (Nat.length_toDigits_le_iff (by decide) (by decide)).mpr (Nat.lt_of_lt_of_le hn (by decide +kernel))
    walk_at "go"
    refine g_whB (fun h1 => ?_) (fun h1 => ?_)
    · have h2 : 10 ^ 9 ≤ rest := by omega
      have hm2 : 2 ≤ m := by
        rcases m with _ | _ | m
        · simp at hr1; omega
        · simp at hr1; omega
        · omega
      have e1 : (rest : Int) / 1000000000 = ((rest / 10 ^ 9 : Nat) : Int) := by omega
      have e2 : (rest : Int) % 1000000000 = ((rest % 10 ^ 9 : Nat) : Int) := by omega
      have hr9 : rest % 10 ^ 9 < 10 ^ 9 := Nat.mod_lt _ (by decide)
      have hb : Builtin.Int.intBits (rest : Int) ≤ Builtin.Int.intBits 1000000000 + 4000 := by
        have l : (rest : Int).natAbs.log2 < 1801 := PySem.Flt.log2_lt_of (k := 1801) (by decide) (Nat.lt_trans (Nat.lt_of_le_of_lt hrn hn) (Nat.pow_lt_pow_right (by decide) (by decide)))
        unfold Builtin.Int.intBits
        split <;> split <;> omega
      walk_at "go"
      refine ⟨_, _, rfl, divp_ok (by decide) hb, fun p2 hp2 => ?_⟩
      rw [e1, e2]
      walk_at "go"
      refine ⟨_, rfl, log_small hr9, ?_⟩
      rw [int_word]
      unfold wrd
      rw [if_neg (by omega), Int.natAbs_natCast]
      walk_at "go"
      refine ⟨_, _, rfl, rfl, rfl, ?_⟩
      rw [zf9 hr9]
      walk_at "go"
      have hL2 : upd H' p2 (.tup [V.int ((rest / 10 ^ 9 : Nat) : Int), V.int ((rest % 10 ^ 9 : Nat) : Int)]) p = some (.lst (gs.map fun z => V.str (sOf z))) := h_ne (ne_of_none hL hp2) hL
      refine g_app hL2 (by rw [List.length_map]; omega) ?_
      refine ⟨m - 1, by omega, rest / 10 ^ 9, gs ++ [pd 9 (rest % 10 ^ 9)], _, rfl, ?_, ?_, grp_step gs _ hd h2, by omega, ?_, ?_⟩
      · rw [List.map_append]
        exact upd_same
      · exact sm_putn (Same.lay sm hp2) hp
      · rw [show 9 * m = 9 * (m - 1) + 9 by omega, Nat.pow_add] at hr1
        exact Nat.div_lt_of_lt_mul (by rw [Nat.mul_comm]; exact hr1)
      · rw [List.length_append, List.length_cons, List.length_nil]
        omega
    · have h2 : rest < 10 ^ 9 := by omega
      walk_at "go"
      refine ⟨_, rfl, log_small h2, ?_⟩
      rw [int_word]
      unfold wrd
      rw [if_neg (by omega), Int.natAbs_natCast]
      walk_at "go"
      refine g_app hL (by rw [List.length_map]; omega) ?_
      walk_at "go"
      rename_i p2 hp2
      have eL : (gs.map (fun z => V.str (sOf z)) ++ [V.str (sOf (dg rest))]).reverse = (((gs ++ [dg rest]).reverse).map sOf).map V.str := by
        rw [List.map_map, List.map_reverse, List.map_append]
        rfl
      have eF : (gs ++ [dg rest]).reverse.flatten = dg n.natAbs := by
        rw [List.reverse_append, hd]
        rfl
      refine ⟨_, p2, ((gs ++ [dg rest]).reverse).map sOf, rfl, rfl, .inl (.of (by rw [← eL]; exact upd_same)), ?_, ?_⟩
      · rw [List.map_map, show (fun x : Str => x.length) ∘ sOf = List.length from funext sOf_len, ← List.length_flatten, eF, show (Str.ofString "").length = 0 from rfl, Nat.mul_zero]
        omega
      rw [show Str.ofString "" = sOf [] from rfl, join_e, eF]
      have sm2 := Same.lay (sm_putn sm hp (o := .lst (gs.map (fun z => V.str (sOf z)) ++ [V.str (sOf (dg rest))]))) hp2 (o := .lst (gs.map (fun z => V.str (sOf z)) ++ [V.str (sOf (dg rest))]).reverse)
      walk_at "go"
      refine g_iteD (fun h3 => ?_) (fun h3 => ?_)
      · walk_at "go"
        refine g_jR (sz_ok (by decide)) ?_
        walk_at "go"
        refine g_fmtS (sz_ok (by rw [sOf_len]; omega)) (g_jR (sz_ok (by rw [show Str.empty ++ Str.ofString "-" = sOf [45] from rfl, sOf_app, sOf_len, List.length_append]; simp; omega)) ?_)
        walk_at "go"
        rw [show Str.empty ++ Str.ofString "-" = sOf [45] from rfl, sOf_app]
        have z := q _ sm2
        unfold wrd at z
        rw [if_pos h3] at z
        exact z
      · walk_at "go"
        have z := q _ sm2
        unfold wrd at z
        rw [if_neg h3] at z
        exact z
theorem c_word (T : Top K mg) : Cal P w K mg base "number_word" 1 P_number_word spWord := cal_mk T.f_number_word (ok_word T) (fun F => F.bindsN fun _ _ _ _ _ _ us hl => match us, hl with | [_], _ => rfl)
end

set_option Elab.async false
set_option linter.all false
set_option maxRecDepth 100000
set_option maxHeartbeats 4000000
set_option exponentiation.threshold 5000
open PySem PySem.Spec L2



section
variable {P : Program} {w : World} {K : PySem.W.Frag} {mg : Str → Option Value} {base : Heap}
abbrev shF (t b : Int) : List (Str × V) := [("top", .int t), ("bottom", .int b)]
/-- a share: t / b -/
def Sh (K : PySem.W.Frag) (H : Hp) (p : Addr) (t b : Int) : Prop := ∃ dx, H p = some (.ins (CS K) dx (shF t b))
theorem Sh.sm {H H' : Hp} {p : Addr} {t b : Int} (h : Sh K H p t b) (s : Same H H') : Sh K H' p t b := by
  obtain ⟨dx, e⟩ := h
  exact ⟨dx, s _ _ e⟩
theorem Sh.chg {H H' : Hp} {a p : Addr} {t b : Int} (h : Sh K H p t b) (ne : p ≠ a) (c : Chg a H H') : Sh K H' p t b := by
  obtain ⟨dx, e⟩ := h
  exact ⟨dx, c _ _ ne e⟩
theorem gcd_le {n d : Int} (h : d ≠ 0) : Nat.gcd n.natAbs d.natAbs ≤ d.natAbs := Nat.le_of_dvd (Int.natAbs_pos.mpr h) (Nat.gcd_dvd_right _ _)
theorem cmn_c {n d m : Int} {k : Nat} (h : d ≠ 0) (hd : d.natAbs < 2 ^ k) (h0 : 0 < k) (h9 : k ≤ 9000) : CDivZ m (cmn n d) := div_z (cmn_ne h) (Nat.lt_of_le_of_lt (by rw [cmn_abs]; exact gcd_le h) hd) h0 h9
def spShare (K : PySem.W.Frag) : Sp := fun vs H Q _ => ∃ (x dx : Addr) (n d : Int), vs = [.ref x, .int n, .int d] ∧ H x = some (.ins (CS K) dx []) ∧ d ≠ 0 ∧ d.natAbs < 2 ^ 4000 ∧ Q .non (upd H x (.ins (CS K) dx (shF (nT n d) (nB n d))))
theorem ok_Share___init__ (T : Top K mg) {f : Addr} {fd : FuncData} (F : FunD K "__init__" "Share.__init__" (defArgs s_Share___init__) (defBody s_Share___init__) (defScope s_Share___init__) [.int 1] [] f fd) : FnOk P w K mg base CX0 1 f fd P_Share___init__ (spShare K) := by
  have cl_Share := T.cl_Share; have na_Share_top := T.na_Share_top; have na_Share_bottom := T.na_Share_bottom; have in_Share := T.in_Share; have ki_o_Share_o_Share := T.ki_o_Share_o_Share; have ki_int_o_Share := T.ki_int_o_Share; have ki_bool_o_Share := T.ki_bool_o_Share; have ki_NoneType_o_Share := T.ki_NoneType_o_Share; have ki_str_o_Share := T.ki_str_o_Share; have ki_list_o_Share := T.ki_list_o_Share; have ki_tuple_o_Share := T.ki_tuple_o_Share; have nf_Share_o_Share := T.nf_Share_o_Share; have nf_Share_int := T.nf_Share_int; have nf_Share_bool := T.nf_Share_bool; have nf_Share_NoneType := T.nf_Share_NoneType; have nf_Share_str := T.nf_Share_str; have nf_Share_list := T.nf_Share_list; have nf_Share_tuple := T.nf_Share_tuple; have ne_Share := T.ne_Share
  refine F.ok sc_Share___init__ (fun vs H Q E h => ?_) (fun cdv A outer s H vs Q E hr h => ?_)
  · obtain ⟨x, dx, n, d, rfl, _⟩ := h
    rfl
  · obtain ⟨x, dx, n, d, rfl, hx, hd, hs, q⟩ := h
    refine ⟨_, PSs.nox (pss_cons (ps_set (i := 3) sc_Share___init__.nd rfl (by first | exact Or.inl rfl | exact Or.inr rfl) (pe_callBfun cr_gcd (by rfl) T.b_gcd (pa_cons (pv 1) (pa_cons (pv 2) pa_nil))))
    (pss_cons (ps_if (pt_cmpR op_lt (pv 2) pe_int (nomark _))
    (pss_one (ps_set (i := 3) sc_Share___init__.nd rfl (by first | exact Or.inl rfl | exact Or.inr rfl) (pe_un un_neg (pv 3))))
    pss_nil)
    (pss_cons (k_sfld (K := K) (by rfl) (pv 0) (pe_op op_fdivZ (pv 1) (pv 3)) rfl)
    (pss_one (k_sfld (K := K) (by rfl) (pv 0) (pe_op op_fdivZ (pv 2) (pv 3)) rfl))))), ?_⟩
    try simp only [cxK]
    rw [show L2.start N_Share___init__ [.ref x, .int n, .int d] = [some (.ref x), some (.int n), some (.int d), none] from rfl]
    walk_at "go"
    refine g_iteD (fun h1 => ?_) (fun h1 => ?_)
    · have e : -((Nat.gcd n.natAbs d.natAbs : Nat) : Int) = cmn n d := by unfold cmn; rw [if_pos h1]
      have c1 : CDivZ n (cmn n d) := cmn_c hd hs (by decide) (by decide)
      have c2 : CDivZ d (cmn n d) := cmn_c hd hs (by decide) (by decide)
      walk_at "go"
      rw [e]
      walk_at "go"
      rw [upd_upd]
      exact q
    · have e : ((Nat.gcd n.natAbs d.natAbs : Nat) : Int) = cmn n d := by unfold cmn; rw [if_neg h1]
      have c1 : CDivZ n (cmn n d) := cmn_c hd hs (by decide) (by decide)
      have c2 : CDivZ d (cmn n d) := cmn_c hd hs (by decide) (by decide)
      rw [e]
      walk_at "go"
      rw [upd_upd]
      exact q
theorem kk_Share_2_ (T : Top K mg) : MkK P w K mg base (He.ga K "Share") 1 2 [] (fun vs zs => pick [(0, 0), (0, 1), (0, 2)] vs ([.int 1] : List V) zs) (spShare K) := mkk_mk (ps := P_Share___init__) T.mk_Share T.f_Share___init__ (ok_Share___init__ T) (fun F => mkbD F 3 [] [(0, 0), (0, 1), (0, 2)] (by simp) fun _ _ _ _ _ _ _ us its ws l1 l2 l3 => match us, its, ws, l1, l2, l3 with | [_, _, _], [_], [], _, _, _ => ⟨_, rfl, rfl⟩)
theorem kk_Share_1_ (T : Top K mg) : MkK P w K mg base (He.ga K "Share") 1 1 [] (fun vs zs => pick [(0, 0), (0, 1), (1, 0)] vs ([.int 1] : List V) zs) (spShare K) := mkk_mk (ps := P_Share___init__) T.mk_Share T.f_Share___init__ (ok_Share___init__ T) (fun F => mkbD F 2 [] [(0, 0), (0, 1), (1, 0)] (by simp) fun _ _ _ _ _ _ _ us its ws l1 l2 l3 => match us, its, ws, l1, l2, l3 with | [_, _], [_], [], _, _, _ => ⟨_, rfl, rfl⟩)
theorem g_share {n m : Nat} {gV : List V → List V → List V} {vs zs : List V} {t b : Int} {H : Hp} {Q : VK} (h1 : vs.length = n) (h2 : zs.length = m) (e : ∀ x, gV (.ref x :: vs) zs = [.ref x, .int t, .int b]) (hd : b ≠ 0) (hs : b.natAbs < 2 ^ 4000)
    (q : ∀ r H', H r = none → Same H H' → Sh K H' r (nT t b) (nB t b) → Q (.ref r) H') : MkR (CS K) n m (spShare K) gV Q vs zs H :=
  g_mkR (ws := [.int t, .int b]) h1 h2 e fun x dx2 f1 f2 n12 => ⟨x, dx2, t, b, rfl, upd_same, hd, hs, rfl, by
    rw [upd_upd]
    refine q x _ f1 (fun c o eo => ?_) ⟨dx2, upd_same⟩
    rw [upd_ne (ne_of_none eo f1), upd_ne (ne_of_none eo f2)]
    exact eo⟩

def spAdd (K : PySem.W.Frag) : Sp := fun vs H Q _ => ∃ (p q : Addr) (t b u c : Int), vs = [.ref p, .ref q] ∧ Sh K H p t b ∧ Sh K H q u c ∧ (t.natAbs < 2 ^ 900 ∧ b.natAbs < 2 ^ 900 ∧ u.natAbs < 2 ^ 900 ∧ c.natAbs < 2 ^ 900) ∧ b * c ≠ 0 ∧
  ∀ r H', H r = none → Same H H' → Sh K H' r (nT (t * c + u * b) (b * c)) (nB (t * c + u * b) (b * c)) → Q (.ref r) H'
theorem ok_Share___add__ (T : Top K mg) {f : Addr} {fd : FuncData} (F : FunD K "__add__" "Share.__add__" (defArgs s_Share___add__) (defBody s_Share___add__) (defScope s_Share___add__) [] [] f fd) : FnOk P w K mg base CX0 3 f fd P_Share___add__ (spAdd K) := by
  have cl_Share := T.cl_Share; have na_Share_top := T.na_Share_top; have na_Share_bottom := T.na_Share_bottom; have in_Share := T.in_Share; have ki_o_Share_o_Share := T.ki_o_Share_o_Share; have ki_int_o_Share := T.ki_int_o_Share; have ki_bool_o_Share := T.ki_bool_o_Share; have ki_NoneType_o_Share := T.ki_NoneType_o_Share; have ki_str_o_Share := T.ki_str_o_Share; have ki_list_o_Share := T.ki_list_o_Share; have ki_tuple_o_Share := T.ki_tuple_o_Share; have nf_Share_o_Share := T.nf_Share_o_Share; have nf_Share_int := T.nf_Share_int; have nf_Share_bool := T.nf_Share_bool; have nf_Share_NoneType := T.nf_Share_NoneType; have nf_Share_str := T.nf_Share_str; have nf_Share_list := T.nf_Share_list; have nf_Share_tuple := T.nf_Share_tuple; have ne_Share := T.ne_Share
  have KK_Share_2_ := kk_Share_2_ (P := P) (w := w) (base := base) T
  refine F.ok sc_Share___add__ (fun vs H Q E h => ?_) (fun cdv A outer s H vs Q E hr h => ?_)
  · obtain ⟨p, q, t, b, u, c, rfl, _⟩ := h
    rfl
  · obtain ⟨p, q, t, b, u, c, rfl, ⟨dx, hp⟩, ⟨dy, hq⟩, ⟨l1, l2, l3, l4⟩, hd, k⟩ := h
    refine ⟨_, PSs.nox (pss_cons (ps_if (pt_not (pt_val (pe_callB (k_isi (K := K) (by rfl)) (by rfl) T.z_isinstance (by decide +kernel) (pa_cons (pv 1) (pa_cons (pe_glob (v := .ref (He.ga K "Share")) (by rfl) T.g_Share rfl) pa_nil)))))
    (pss_one ps_never)
    pss_nil)
    (pss_one (ps_ret (pe_mkk T.g_Share KK_Share_2_ (hr.mono (by first | decide | omega)) (by rfl) (pa_cons (pe_op op_add (pe_op op_mulW (k_fld (K := K) (by rfl) (pv 0) rfl) (k_fld (K := K) (by rfl) (pv 1) rfl)) (pe_op op_mulW (k_fld (K := K) (by rfl) (pv 1) rfl) (k_fld (K := K) (by rfl) (pv 0) rfl))) (pa_cons (pe_op op_mulW (k_fld (K := K) (by rfl) (pv 0) rfl) (k_fld (K := K) (by rfl) (pv 1) rfl)) pa_nil)) pk_nil)))), ?_⟩
    try simp only [cxK]
    rw [show L2.start N_Share___add__ [.ref p, .ref q] = [some (.ref p), some (.ref q)] from rfl]
    have m1 : CMulW t c := mul_c l1 l4 (by decide) (by decide)
    have m2 : CMulW u b := mul_c l3 l2 (by decide) (by decide)
    have m3 : CMulW b c := mul_c l2 l4 (by decide) (by decide)
    have m4 : CMulW t u := mul_c l1 l3 (by decide) (by decide)
    have m5 : CMulW b u := mul_c l2 l3 (by decide) (by decide)
    walk_at "go"
    refine g_share rfl rfl (fun _ => rfl) hd ?_ k
    exact lt_pow (mul_lt l2 l4) (by decide)
theorem mc_Share___add__ (T : Top K mg) : MCal P w K mg base (CS K) "__add__" 3 P_Share___add__ (spAdd K) := mcal_mk T.me_Share___add__ T.f_Share___add__ (ok_Share___add__ T) (fun F => F.bindsN fun _ _ _ _ _ _ us hl => match us, hl with | [_, _], _ => rfl)

def spSub (K : PySem.W.Frag) : Sp := fun vs H Q _ => ∃ (p q : Addr) (t b u c : Int), vs = [.ref p, .ref q] ∧ Sh K H p t b ∧ Sh K H q u c ∧ (t.natAbs < 2 ^ 900 ∧ b.natAbs < 2 ^ 900 ∧ u.natAbs < 2 ^ 900 ∧ c.natAbs < 2 ^ 900) ∧ b * c ≠ 0 ∧
  ∀ r H', H r = none → Same H H' → Sh K H' r (nT (t * c - u * b) (b * c)) (nB (t * c - u * b) (b * c)) → Q (.ref r) H'
theorem ok_Share___sub__ (T : Top K mg) {f : Addr} {fd : FuncData} (F : FunD K "__sub__" "Share.__sub__" (defArgs s_Share___sub__) (defBody s_Share___sub__) (defScope s_Share___sub__) [] [] f fd) : FnOk P w K mg base CX0 3 f fd P_Share___sub__ (spSub K) := by
  have cl_Share := T.cl_Share; have na_Share_top := T.na_Share_top; have na_Share_bottom := T.na_Share_bottom; have in_Share := T.in_Share; have ki_o_Share_o_Share := T.ki_o_Share_o_Share; have ki_int_o_Share := T.ki_int_o_Share; have ki_bool_o_Share := T.ki_bool_o_Share; have ki_NoneType_o_Share := T.ki_NoneType_o_Share; have ki_str_o_Share := T.ki_str_o_Share; have ki_list_o_Share := T.ki_list_o_Share; have ki_tuple_o_Share := T.ki_tuple_o_Share; have nf_Share_o_Share := T.nf_Share_o_Share; have nf_Share_int := T.nf_Share_int; have nf_Share_bool := T.nf_Share_bool; have nf_Share_NoneType := T.nf_Share_NoneType; have nf_Share_str := T.nf_Share_str; have nf_Share_list := T.nf_Share_list; have nf_Share_tuple := T.nf_Share_tuple; have ne_Share := T.ne_Share
  have KK_Share_2_ := kk_Share_2_ (P := P) (w := w) (base := base) T
  refine F.ok sc_Share___sub__ (fun vs H Q E h => ?_) (fun cdv A outer s H vs Q E hr h => ?_)
  · obtain ⟨p, q, t, b, u, c, rfl, _⟩ := h
    rfl
  · obtain ⟨p, q, t, b, u, c, rfl, ⟨dx, hp⟩, ⟨dy, hq⟩, ⟨l1, l2, l3, l4⟩, hd, k⟩ := h
    refine ⟨_, PSs.nox (pss_cons (ps_if (pt_not (pt_val (pe_callB (k_isi (K := K) (by rfl)) (by rfl) T.z_isinstance (by decide +kernel) (pa_cons (pv 1) (pa_cons (pe_glob (v := .ref (He.ga K "Share")) (by rfl) T.g_Share rfl) pa_nil)))))
    (pss_one ps_never)
    pss_nil)
    (pss_one (ps_ret (pe_mkk T.g_Share KK_Share_2_ (hr.mono (by first | decide | omega)) (by rfl) (pa_cons (pe_op op_sub (pe_op op_mulW (k_fld (K := K) (by rfl) (pv 0) rfl) (k_fld (K := K) (by rfl) (pv 1) rfl)) (pe_op op_mulW (k_fld (K := K) (by rfl) (pv 1) rfl) (k_fld (K := K) (by rfl) (pv 0) rfl))) (pa_cons (pe_op op_mulW (k_fld (K := K) (by rfl) (pv 0) rfl) (k_fld (K := K) (by rfl) (pv 1) rfl)) pa_nil)) pk_nil)))), ?_⟩
    try simp only [cxK]
    rw [show L2.start N_Share___sub__ [.ref p, .ref q] = [some (.ref p), some (.ref q)] from rfl]
    have m1 : CMulW t c := mul_c l1 l4 (by decide) (by decide)
    have m2 : CMulW u b := mul_c l3 l2 (by decide) (by decide)
    have m3 : CMulW b c := mul_c l2 l4 (by decide) (by decide)
    have m4 : CMulW t u := mul_c l1 l3 (by decide) (by decide)
    have m5 : CMulW b u := mul_c l2 l3 (by decide) (by decide)
    walk_at "go"
    refine g_share rfl rfl (fun _ => rfl) hd ?_ k
    exact lt_pow (mul_lt l2 l4) (by decide)
theorem mc_Share___sub__ (T : Top K mg) : MCal P w K mg base (CS K) "__sub__" 3 P_Share___sub__ (spSub K) := mcal_mk T.me_Share___sub__ T.f_Share___sub__ (ok_Share___sub__ T) (fun F => F.bindsN fun _ _ _ _ _ _ us hl => match us, hl with | [_, _], _ => rfl)

def spMul (K : PySem.W.Frag) : Sp := fun vs H Q _ => ∃ (p q : Addr) (t b u c : Int), vs = [.ref p, .ref q] ∧ Sh K H p t b ∧ Sh K H q u c ∧ (t.natAbs < 2 ^ 900 ∧ b.natAbs < 2 ^ 900 ∧ u.natAbs < 2 ^ 900 ∧ c.natAbs < 2 ^ 900) ∧ b * c ≠ 0 ∧
  ∀ r H', H r = none → Same H H' → Sh K H' r (nT (t * u) (b * c)) (nB (t * u) (b * c)) → Q (.ref r) H'
theorem ok_Share___mul__ (T : Top K mg) {f : Addr} {fd : FuncData} (F : FunD K "__mul__" "Share.__mul__" (defArgs s_Share___mul__) (defBody s_Share___mul__) (defScope s_Share___mul__) [] [] f fd) : FnOk P w K mg base CX0 3 f fd P_Share___mul__ (spMul K) := by
  have cl_Share := T.cl_Share; have na_Share_top := T.na_Share_top; have na_Share_bottom := T.na_Share_bottom; have in_Share := T.in_Share; have ki_o_Share_o_Share := T.ki_o_Share_o_Share; have ki_int_o_Share := T.ki_int_o_Share; have ki_bool_o_Share := T.ki_bool_o_Share; have ki_NoneType_o_Share := T.ki_NoneType_o_Share; have ki_str_o_Share := T.ki_str_o_Share; have ki_list_o_Share := T.ki_list_o_Share; have ki_tuple_o_Share := T.ki_tuple_o_Share; have nf_Share_o_Share := T.nf_Share_o_Share; have nf_Share_int := T.nf_Share_int; have nf_Share_bool := T.nf_Share_bool; have nf_Share_NoneType := T.nf_Share_NoneType; have nf_Share_str := T.nf_Share_str; have nf_Share_list := T.nf_Share_list; have nf_Share_tuple := T.nf_Share_tuple; have ne_Share := T.ne_Share
  have KK_Share_2_ := kk_Share_2_ (P := P) (w := w) (base := base) T
  refine F.ok sc_Share___mul__ (fun vs H Q E h => ?_) (fun cdv A outer s H vs Q E hr h => ?_)
  · obtain ⟨p, q, t, b, u, c, rfl, _⟩ := h
    rfl
  · obtain ⟨p, q, t, b, u, c, rfl, ⟨dx, hp⟩, ⟨dy, hq⟩, ⟨l1, l2, l3, l4⟩, hd, k⟩ := h
    refine ⟨_, PSs.nox (pss_cons (ps_if (pt_not (pt_val (pe_callB (k_isi (K := K) (by rfl)) (by rfl) T.z_isinstance (by decide +kernel) (pa_cons (pv 1) (pa_cons (pe_glob (v := .ref (He.ga K "Share")) (by rfl) T.g_Share rfl) pa_nil)))))
    (pss_one ps_never)
    pss_nil)
    (pss_one (ps_ret (pe_mkk T.g_Share KK_Share_2_ (hr.mono (by first | decide | omega)) (by rfl) (pa_cons (pe_op op_mulW (k_fld (K := K) (by rfl) (pv 0) rfl) (k_fld (K := K) (by rfl) (pv 1) rfl)) (pa_cons (pe_op op_mulW (k_fld (K := K) (by rfl) (pv 0) rfl) (k_fld (K := K) (by rfl) (pv 1) rfl)) pa_nil)) pk_nil)))), ?_⟩
    try simp only [cxK]
    rw [show L2.start N_Share___mul__ [.ref p, .ref q] = [some (.ref p), some (.ref q)] from rfl]
    have m1 : CMulW t c := mul_c l1 l4 (by decide) (by decide)
    have m2 : CMulW u b := mul_c l3 l2 (by decide) (by decide)
    have m3 : CMulW b c := mul_c l2 l4 (by decide) (by decide)
    have m4 : CMulW t u := mul_c l1 l3 (by decide) (by decide)
    have m5 : CMulW b u := mul_c l2 l3 (by decide) (by decide)
    walk_at "go"
    refine g_share rfl rfl (fun _ => rfl) hd ?_ k
    exact lt_pow (mul_lt l2 l4) (by decide)
theorem mc_Share___mul__ (T : Top K mg) : MCal P w K mg base (CS K) "__mul__" 3 P_Share___mul__ (spMul K) := mcal_mk T.me_Share___mul__ T.f_Share___mul__ (ok_Share___mul__ T) (fun F => F.bindsN fun _ _ _ _ _ _ us hl => match us, hl with | [_, _], _ => rfl)

def spNeg (K : PySem.W.Frag) : Sp := fun vs H Q _ => ∃ (p : Addr) (t b : Int), vs = [.ref p] ∧ Sh K H p t b ∧ (t.natAbs < 2 ^ 900 ∧ b.natAbs < 2 ^ 900) ∧ b ≠ 0 ∧
  ∀ r H', H r = none → Same H H' → Sh K H' r (nT (-t) (b)) (nB (-t) (b)) → Q (.ref r) H'
theorem ok_Share___neg__ (T : Top K mg) {f : Addr} {fd : FuncData} (F : FunD K "__neg__" "Share.__neg__" (defArgs s_Share___neg__) (defBody s_Share___neg__) (defScope s_Share___neg__) [] [] f fd) : FnOk P w K mg base CX0 3 f fd P_Share___neg__ (spNeg K) := by
  have cl_Share := T.cl_Share; have na_Share_top := T.na_Share_top; have na_Share_bottom := T.na_Share_bottom; have in_Share := T.in_Share; have ki_o_Share_o_Share := T.ki_o_Share_o_Share; have ki_int_o_Share := T.ki_int_o_Share; have ki_bool_o_Share := T.ki_bool_o_Share; have ki_NoneType_o_Share := T.ki_NoneType_o_Share; have ki_str_o_Share := T.ki_str_o_Share; have ki_list_o_Share := T.ki_list_o_Share; have ki_tuple_o_Share := T.ki_tuple_o_Share; have nf_Share_o_Share := T.nf_Share_o_Share; have nf_Share_int := T.nf_Share_int; have nf_Share_bool := T.nf_Share_bool; have nf_Share_NoneType := T.nf_Share_NoneType; have nf_Share_str := T.nf_Share_str; have nf_Share_list := T.nf_Share_list; have nf_Share_tuple := T.nf_Share_tuple; have ne_Share := T.ne_Share
  have KK_Share_2_ := kk_Share_2_ (P := P) (w := w) (base := base) T
  refine F.ok sc_Share___neg__ (fun vs H Q E h => ?_) (fun cdv A outer s H vs Q E hr h => ?_)
  · obtain ⟨p, t, b, rfl, _⟩ := h
    rfl
  · obtain ⟨p, t, b, rfl, ⟨dx, hp⟩, ⟨l1, l2⟩, hd, k⟩ := h
    refine ⟨_, PSs.nox (pss_one (ps_ret (pe_mkk T.g_Share KK_Share_2_ (hr.mono (by first | decide | omega)) (by rfl) (pa_cons (pe_un un_neg (k_fld (K := K) (by rfl) (pv 0) rfl)) (pa_cons (k_fld (K := K) (by rfl) (pv 0) rfl) pa_nil)) pk_nil))), ?_⟩
    try simp only [cxK]
    rw [show L2.start N_Share___neg__ [.ref p] = [some (.ref p)] from rfl]
    walk_at "go"
    refine g_share rfl rfl (fun _ => rfl) hd ?_ k
    exact lt_pow l2 (by decide)
theorem mc_Share___neg__ (T : Top K mg) : MCal P w K mg base (CS K) "__neg__" 3 P_Share___neg__ (spNeg K) := mcal_mk T.me_Share___neg__ T.f_Share___neg__ (ok_Share___neg__ T) (fun F => F.bindsN fun _ _ _ _ _ _ us hl => match us, hl with | [_], _ => rfl)

def spOver (K : PySem.W.Frag) : Sp := fun vs H Q _ => ∃ (p q : Addr) (t b u c : Int), vs = [.ref p, .ref q] ∧ Sh K H p t b ∧ Sh K H q u c ∧ (t.natAbs < 2 ^ 900 ∧ b.natAbs < 2 ^ 900 ∧ u.natAbs < 2 ^ 900 ∧ c.natAbs < 2 ^ 900) ∧ b * u ≠ 0 ∧
  ∀ r H', H r = none → Same H H' → Sh K H' r (nT (t * c) (b * u)) (nB (t * c) (b * u)) → Q (.ref r) H'
theorem ok_Share_over (T : Top K mg) {f : Addr} {fd : FuncData} (F : FunD K "over" "Share.over" (defArgs s_Share_over) (defBody s_Share_over) (defScope s_Share_over) [] [] f fd) : FnOk P w K mg base CX0 3 f fd P_Share_over (spOver K) := by
  have cl_Share := T.cl_Share; have na_Share_top := T.na_Share_top; have na_Share_bottom := T.na_Share_bottom; have in_Share := T.in_Share; have ki_o_Share_o_Share := T.ki_o_Share_o_Share; have ki_int_o_Share := T.ki_int_o_Share; have ki_bool_o_Share := T.ki_bool_o_Share; have ki_NoneType_o_Share := T.ki_NoneType_o_Share; have ki_str_o_Share := T.ki_str_o_Share; have ki_list_o_Share := T.ki_list_o_Share; have ki_tuple_o_Share := T.ki_tuple_o_Share; have nf_Share_o_Share := T.nf_Share_o_Share; have nf_Share_int := T.nf_Share_int; have nf_Share_bool := T.nf_Share_bool; have nf_Share_NoneType := T.nf_Share_NoneType; have nf_Share_str := T.nf_Share_str; have nf_Share_list := T.nf_Share_list; have nf_Share_tuple := T.nf_Share_tuple; have ne_Share := T.ne_Share
  have KK_Share_2_ := kk_Share_2_ (P := P) (w := w) (base := base) T
  refine F.ok sc_Share_over (fun vs H Q E h => ?_) (fun cdv A outer s H vs Q E hr h => ?_)
  · obtain ⟨p, q, t, b, u, c, rfl, _⟩ := h
    rfl
  · obtain ⟨p, q, t, b, u, c, rfl, ⟨dx, hp⟩, ⟨dy, hq⟩, ⟨l1, l2, l3, l4⟩, hd, k⟩ := h
    refine ⟨_, PSs.nox (pss_cons (ps_if (pt_cmpR op_eq (k_fld (K := K) (by rfl) (pv 1) rfl) pe_int (nomark _))
    (pss_one ps_never)
    pss_nil)
    (pss_one (ps_ret (pe_mkk T.g_Share KK_Share_2_ (hr.mono (by first | decide | omega)) (by rfl) (pa_cons (pe_op op_mulW (k_fld (K := K) (by rfl) (pv 0) rfl) (k_fld (K := K) (by rfl) (pv 1) rfl)) (pa_cons (pe_op op_mulW (k_fld (K := K) (by rfl) (pv 0) rfl) (k_fld (K := K) (by rfl) (pv 1) rfl)) pa_nil)) pk_nil)))), ?_⟩
    try simp only [cxK]
    rw [show L2.start N_Share_over [.ref p, .ref q] = [some (.ref p), some (.ref q)] from rfl]
    have m1 : CMulW t c := mul_c l1 l4 (by decide) (by decide)
    have m2 : CMulW u b := mul_c l3 l2 (by decide) (by decide)
    have m3 : CMulW b c := mul_c l2 l4 (by decide) (by decide)
    have m4 : CMulW t u := mul_c l1 l3 (by decide) (by decide)
    have m5 : CMulW b u := mul_c l2 l3 (by decide) (by decide)
    have hu : u ≠ 0 := fun e => hd (by rw [e, Int.mul_zero])
    walk_at "go"
    refine g_iteX hu ?_
    walk_at "go"
    refine g_share rfl rfl (fun _ => rfl) hd ?_ k
    exact lt_pow (mul_lt l2 l3) (by decide)
theorem mc_Share_over (T : Top K mg) : MCal P w K mg base (CS K) "over" 3 P_Share_over (spOver K) := mcal_mk T.me_Share_over T.f_Share_over (ok_Share_over T) (fun F => F.bindsN fun _ _ _ _ _ _ us hl => match us, hl with | [_, _], _ => rfl)
end

set_option Elab.async false
set_option linter.all false
set_option maxRecDepth 100000
set_option maxHeartbeats 4000000
set_option exponentiation.threshold 5000
open PySem PySem.Spec L2



section
variable {P : Program} {w : World} {K : PySem.W.Frag} {mg : Str → Option Value} {base : Heap}
def spBelow (K : PySem.W.Frag) : Sp := fun vs H Q _ => ∃ (p q : Addr) (t b u c : Int), vs = [.ref p, .ref q] ∧ Sh K H p t b ∧ Sh K H q u c ∧ (t.natAbs < 2 ^ 900 ∧ b.natAbs < 2 ^ 900 ∧ u.natAbs < 2 ^ 900 ∧ c.natAbs < 2 ^ 900) ∧ Q (.bl (decide (t * c < u * b))) H
theorem ok_Share_below (T : Top K mg) {f : Addr} {fd : FuncData} (F : FunD K "below" "Share.below" (defArgs s_Share_below) (defBody s_Share_below) (defScope s_Share_below) [] [] f fd) : FnOk P w K mg base CX0 1 f fd P_Share_below (spBelow K) := by
  have cl_Share := T.cl_Share; have na_Share_top := T.na_Share_top; have na_Share_bottom := T.na_Share_bottom; have in_Share := T.in_Share; have ki_o_Share_o_Share := T.ki_o_Share_o_Share; have ki_int_o_Share := T.ki_int_o_Share; have ki_bool_o_Share := T.ki_bool_o_Share; have ki_NoneType_o_Share := T.ki_NoneType_o_Share; have ki_str_o_Share := T.ki_str_o_Share; have ki_list_o_Share := T.ki_list_o_Share; have ki_tuple_o_Share := T.ki_tuple_o_Share; have nf_Share_o_Share := T.nf_Share_o_Share; have nf_Share_int := T.nf_Share_int; have nf_Share_bool := T.nf_Share_bool; have nf_Share_NoneType := T.nf_Share_NoneType; have nf_Share_str := T.nf_Share_str; have nf_Share_list := T.nf_Share_list; have nf_Share_tuple := T.nf_Share_tuple; have ne_Share := T.ne_Share
  refine F.ok sc_Share_below (fun vs H Q E h => ?_) (fun cdv A outer s H vs Q E hr h => ?_)
  · obtain ⟨p, q, t, b, u, c, rfl, _⟩ := h
    rfl
  · obtain ⟨p, q, t, b, u, c, rfl, ⟨dx, hp⟩, ⟨dy, hq⟩, ⟨l1, l2, l3, l4⟩, k⟩ := h
    refine ⟨_, PSs.nox (pss_one (ps_ret (pe_cmpR op_lt (pe_op op_mulW (k_fld (K := K) (by rfl) (pv 0) rfl) (k_fld (K := K) (by rfl) (pv 1) rfl)) (pe_op op_mulW (k_fld (K := K) (by rfl) (pv 1) rfl) (k_fld (K := K) (by rfl) (pv 0) rfl)) (nomark _)))), ?_⟩
    try simp only [cxK]
    rw [show L2.start N_Share_below [.ref p, .ref q] = [some (.ref p), some (.ref q)] from rfl]
    have m1 : CMulW t c := mul_c l1 l4 (by decide) (by decide)
    have m2 : CMulW u b := mul_c l3 l2 (by decide) (by decide)
    walk_at "go"
    exact k
theorem mc_Share_below (T : Top K mg) : MCal P w K mg base (CS K) "below" 1 P_Share_below (spBelow K) := mcal_mk T.me_Share_below T.f_Share_below (ok_Share_below T) (fun F => F.bindsN fun _ _ _ _ _ _ us hl => match us, hl with | [_, _], _ => rfl)
def spEqS (K : PySem.W.Frag) : Sp := fun vs H Q _ => ∃ (p : Addr) (y : V) (t b : Int), vs = [.ref p, y] ∧ Sh K H p t b ∧ ((∃ q u c, y = .ref q ∧ Sh K H q u c ∧ Q (.bl (decide (t = u) && decide (b = c))) H) ∨
  ∃ ty, TyX K H y (.type ty) ∧ PySem.W.kitOne K (.type ty) (.ref (CS K)) = some false ∧ Q (.bl false) H)
theorem ok_Share___eq__ (T : Top K mg) {f : Addr} {fd : FuncData} (F : FunD K "__eq__" "Share.__eq__" (defArgs s_Share___eq__) (defBody s_Share___eq__) (defScope s_Share___eq__) [] [] f fd) : FnOk P w K mg base CX0 1 f fd P_Share___eq__ (spEqS K) := by
  have cl_Share := T.cl_Share; have na_Share_top := T.na_Share_top; have na_Share_bottom := T.na_Share_bottom; have in_Share := T.in_Share; have ki_o_Share_o_Share := T.ki_o_Share_o_Share; have ki_int_o_Share := T.ki_int_o_Share; have ki_bool_o_Share := T.ki_bool_o_Share; have ki_NoneType_o_Share := T.ki_NoneType_o_Share; have ki_str_o_Share := T.ki_str_o_Share; have ki_list_o_Share := T.ki_list_o_Share; have ki_tuple_o_Share := T.ki_tuple_o_Share; have nf_Share_o_Share := T.nf_Share_o_Share; have nf_Share_int := T.nf_Share_int; have nf_Share_bool := T.nf_Share_bool; have nf_Share_NoneType := T.nf_Share_NoneType; have nf_Share_str := T.nf_Share_str; have nf_Share_list := T.nf_Share_list; have nf_Share_tuple := T.nf_Share_tuple; have ne_Share := T.ne_Share
  refine F.ok sc_Share___eq__ (fun vs H Q E h => ?_) (fun cdv A outer s H vs Q E hr h => ?_)
  · obtain ⟨p, y, t, b, rfl, _⟩ := h
    rfl
  · obtain ⟨p, y, t, b, rfl, ⟨dx, hp⟩, h⟩ := h
    refine ⟨_, PSs.nox (pss_one (ps_ret (pe_and (pe_callB (k_isi (K := K) (by rfl)) (by rfl) T.z_isinstance (by decide +kernel) (pa_cons (pv 1) (pa_cons (pe_glob (v := .ref (He.ga K "Share")) (by rfl) T.g_Share rfl) pa_nil))) (pe_and (pe_cmpR op_eq (k_fld (K := K) (by rfl) (pv 0) rfl) (k_fld (K := K) (by rfl) (pv 1) rfl) (nomark _)) (pe_one (pe_cmpR op_eq (k_fld (K := K) (by rfl) (pv 0) rfl) (k_fld (K := K) (by rfl) (pv 1) rfl) (nomark _))))))), ?_⟩
    try simp only [cxK]
    rw [show L2.start N_Share___eq__ [.ref p, y] = [some (.ref p), some y] from rfl]
    rcases h with ⟨q, u, c, rfl, ⟨dy, hq⟩, k⟩ | ⟨ty, ht, e, k⟩
    · walk_at "go"
      refine g_iteD (fun h1 => ?_) (fun h1 => ?_)
      · walk_at "go"
        rw [decide_eq_true h1, Bool.true_and] at k
        exact k
      · rw [decide_eq_false h1, Bool.false_and] at k
        exact k
    · walk_at "go"
      refine g_isiB ht e ?_
      walk_at "go"
      exact k
theorem mc_Share___eq__ (T : Top K mg) : MCal P w K mg base (CS K) "__eq__" 1 P_Share___eq__ (spEqS K) := mcal_mk T.me_Share___eq__ T.f_Share___eq__ (ok_Share___eq__ T) (fun F => F.bindsN fun _ _ _ _ _ _ us hl => match us, hl with | [_, _], _ => rfl)
def spBoolS (K : PySem.W.Frag) : Sp := fun vs H Q _ => ∃ (p : Addr) (t b : Int), vs = [.ref p] ∧ Sh K H p t b ∧ Q (.bl (!decide (t = 0))) H
theorem ok_Share___bool__ (T : Top K mg) {f : Addr} {fd : FuncData} (F : FunD K "__bool__" "Share.__bool__" (defArgs s_Share___bool__) (defBody s_Share___bool__) (defScope s_Share___bool__) [] [] f fd) : FnOk P w K mg base CX0 1 f fd P_Share___bool__ (spBoolS K) := by
  have cl_Share := T.cl_Share; have na_Share_top := T.na_Share_top; have na_Share_bottom := T.na_Share_bottom; have in_Share := T.in_Share; have ki_o_Share_o_Share := T.ki_o_Share_o_Share; have ki_int_o_Share := T.ki_int_o_Share; have ki_bool_o_Share := T.ki_bool_o_Share; have ki_NoneType_o_Share := T.ki_NoneType_o_Share; have ki_str_o_Share := T.ki_str_o_Share; have ki_list_o_Share := T.ki_list_o_Share; have ki_tuple_o_Share := T.ki_tuple_o_Share; have nf_Share_o_Share := T.nf_Share_o_Share; have nf_Share_int := T.nf_Share_int; have nf_Share_bool := T.nf_Share_bool; have nf_Share_NoneType := T.nf_Share_NoneType; have nf_Share_str := T.nf_Share_str; have nf_Share_list := T.nf_Share_list; have nf_Share_tuple := T.nf_Share_tuple; have ne_Share := T.ne_Share
  refine F.ok sc_Share___bool__ (fun vs H Q E h => ?_) (fun cdv A outer s H vs Q E hr h => ?_)
  · obtain ⟨p, t, b, rfl, _⟩ := h
    rfl
  · obtain ⟨p, t, b, rfl, ⟨dx, hp⟩, k⟩ := h
    refine ⟨_, PSs.nox (pss_one (ps_ret (pe_callTy call_bool1 (by rfl) T.z_bool (by decide +kernel) (pa_cons (pe_cmpR op_ne (k_fld (K := K) (by rfl) (pv 0) rfl) pe_int (nomark _)) pa_nil)))), ?_⟩
    try simp only [cxK]
    rw [show L2.start N_Share___bool__ [.ref p] = [some (.ref p)] from rfl]
    walk_at "go"
    exact .inr ⟨_, rfl, k⟩
theorem mc_Share___bool__ (T : Top K mg) : MCal P w K mg base (CS K) "__bool__" 1 P_Share___bool__ (spBoolS K) := mcal_mk T.me_Share___bool__ T.f_Share___bool__ (ok_Share___bool__ T) (fun F => F.bindsN fun _ _ _ _ _ _ us hl => match us, hl with | [_], _ => rfl)
end

set_option Elab.async false
set_option linter.all false
set_option maxRecDepth 100000
set_option maxHeartbeats 4000000
set_option exponentiation.threshold 5000
open PySem PySem.Spec L2



section
variable {P : Program} {w : World} {K : PySem.W.Frag} {mg : Str → Option Value} {base : Heap}
def spCommon : Sp := fun vs H Q _ => ∃ a b : Int, vs = [.int a, .int b] ∧ Q (.int ((Nat.gcd a.natAbs b.natAbs : Nat) : Int)) H
theorem ok_common (T : Top K mg) {f : Addr} {fd : FuncData} (F : FnP K "_law_common" s__law_common f fd) : FnOk P w K mg base CX0 1 f fd P__law_common spCommon := by
  refine F.ok sc__law_common (fun vs H Q E h => ?_) (fun cdv A outer s H vs Q E hr h => ?_)
  · obtain ⟨a, b, rfl, _⟩ := h
    rfl
  · obtain ⟨a, b, rfl, q⟩ := h
    refine ⟨_, PSs.nox (pss_cons (ps_par (i := 2) (j := 3) (by rfl) sc__law_common.nd rfl rfl (by decide) rfl rfl (pa_cons (pe_callB c_absN (by rfl) T.z_abs (by decide +kernel) (pa_cons (pe_callTy c_int (by rfl) T.z_int (by decide +kernel) (pa_cons (pv 0) pa_nil)) pa_nil)) (pa_cons (pe_callB c_absN (by rfl) T.z_abs (by decide +kernel) (pa_cons (pe_callTy c_int (by rfl) T.z_int (by decide +kernel) (pa_cons (pv 1) pa_nil)) pa_nil)) pa_nil)) (by rfl))
    (pss_cons (ps_while PassesOwn.never (pt_cmpR op_gt (pv 3) pe_int (nomark _))
    (pss_one (ps_par (i := 2) (j := 3) (by rfl) sc__law_common.nd rfl rfl (by decide) rfl rfl (pa_cons (pv 3) (pa_cons (pe_op op_mod (pe_callTy c_int (by rfl) T.z_int (by decide +kernel) (pa_cons (pv 2) pa_nil)) (pv 3)) pa_nil)) (by rfl))))
    (pss_one (ps_ret (pv 2))))), ?_⟩
    try simp only [cxK]
    rw [show L2.start N__law_common [.int a, .int b] = [some (.int a), some (.int b), none, none] from rfl]
    walk_at "go"
    refine g_while (fun m σ' H' => ∃ x : Nat, σ' = [some (.int a), some (.int b), some (.int x), some (.int m)] ∧ H' = H ∧ Nat.gcd x m = Nat.gcd a.natAbs b.natAbs) ⟨b.natAbs, a.natAbs, rfl, rfl, rfl⟩ ?_
    rintro m σ' H' ⟨x, rfl, rfl, hg⟩
    walk_at "go"
    refine g_whB (fun h1 => ?_) (fun h1 => ?_)
    · have hm : 0 < m := by omega
      walk_at "go"
      refine ⟨x % m, Nat.mod_lt _ hm, m, by rw [Int.natCast_emod], rfl, ?_⟩
      rw [← hg, Nat.gcd_comm x m, Nat.gcd_rec m x, Nat.gcd_comm]
    · have hm : m = 0 := by omega
      subst hm
      walk_at "go"
      rw [Nat.gcd_zero_right] at hg
      rw [hg]
      exact q
theorem c_common (T : Top K mg) : Cal P w K mg base "_law_common" 1 P__law_common spCommon := cal_mk T.f__law_common (ok_common T) (fun F => F.bindsN fun _ _ _ _ _ _ us hl => match us, hl with | [_, _], _ => rfl)
def spIsShare (K : PySem.W.Frag) : Sp := fun vs H Q _ => ∃ (p : Addr) (t b N D : Int), vs = [.ref p, .int N, .int D] ∧ Sh K H p t b ∧ Rep t b N D ∧ (t.natAbs < 2 ^ 1900 ∧ b.natAbs < 2 ^ 1900 ∧ N.natAbs < 2 ^ 1900 ∧ D.natAbs < 2 ^ 1900) ∧ Q (.bl true) H
theorem ok_is_share (T : Top K mg) {f : Addr} {fd : FuncData} (F : FnP K "_law_is_share" s__law_is_share f fd) : FnOk P w K mg base CX0 2 f fd P__law_is_share (spIsShare K) := by
  have cl_Share := T.cl_Share; have na_Share_top := T.na_Share_top; have na_Share_bottom := T.na_Share_bottom; have in_Share := T.in_Share; have ki_o_Share_o_Share := T.ki_o_Share_o_Share; have ki_int_o_Share := T.ki_int_o_Share; have ki_bool_o_Share := T.ki_bool_o_Share; have ki_NoneType_o_Share := T.ki_NoneType_o_Share; have ki_str_o_Share := T.ki_str_o_Share; have ki_list_o_Share := T.ki_list_o_Share; have ki_tuple_o_Share := T.ki_tuple_o_Share; have nf_Share_o_Share := T.nf_Share_o_Share; have nf_Share_int := T.nf_Share_int; have nf_Share_bool := T.nf_Share_bool; have nf_Share_NoneType := T.nf_Share_NoneType; have nf_Share_str := T.nf_Share_str; have nf_Share_list := T.nf_Share_list; have nf_Share_tuple := T.nf_Share_tuple; have ne_Share := T.ne_Share
  have C__law_common := c_common (P := P) (w := w) (base := base) T
  refine F.ok sc__law_is_share (fun vs H Q E h => ?_) (fun cdv A outer s H vs Q E hr h => ?_)
  · obtain ⟨p, t, b, N, D, rfl, _⟩ := h
    rfl
  · obtain ⟨p, t, b, N, D, rfl, ⟨dx, hp⟩, rp, ⟨l1, l2, l3, l4⟩, k⟩ := h
    refine ⟨_, PSs.nox (pss_cons (ps_if (pt_not (pt_val (pe_callB (k_isi (K := K) (by rfl)) (by rfl) T.z_isinstance (by decide +kernel) (pa_cons (pv 0) (pa_cons (pe_glob (v := .ref (He.ga K "Share")) (by rfl) T.g_Share rfl) pa_nil)))))
    (pss_one (ps_ret pe_bl))
    pss_nil)
    (pss_cons (ps_par (i := 3) (j := 4) (by rfl) sc__law_is_share.nd rfl rfl (by decide) rfl rfl (pa_cons (k_fld (K := K) (by rfl) (pv 0) rfl) (pa_cons (k_fld (K := K) (by rfl) (pv 0) rfl) pa_nil)) (by rfl))
    (pss_cons (ps_if (PW.pt (pw_or (pt_not (pt_val (pe_callB (k_isi (K := K) (by rfl)) (by rfl) T.z_isinstance (by decide +kernel) (pa_cons (pv 3) (pa_cons (pe_bltn (v := .ty "int") (u := .type "int") (by rfl) T.z_int (by decide +kernel) rfl) pa_nil))))) (pw_or (pt_val (pe_callB (k_isi (K := K) (by rfl)) (by rfl) T.z_isinstance (by decide +kernel) (pa_cons (pv 3) (pa_cons (pe_bltn (v := .ty "bool") (u := .type "bool") (by rfl) T.z_bool (by decide +kernel) rfl) pa_nil)))) (pw_or (pt_not (pt_val (pe_callB (k_isi (K := K) (by rfl)) (by rfl) T.z_isinstance (by decide +kernel) (pa_cons (pv 4) (pa_cons (pe_bltn (v := .ty "int") (u := .type "int") (by rfl) T.z_int (by decide +kernel) rfl) pa_nil))))) (pw_or1 (pt_val (pe_callB (k_isi (K := K) (by rfl)) (by rfl) T.z_isinstance (by decide +kernel) (pa_cons (pv 4) (pa_cons (pe_bltn (v := .ty "bool") (u := .type "bool") (by rfl) T.z_bool (by decide +kernel) rfl) pa_nil)))))))))
    (pss_one (ps_ret pe_bl))
    pss_nil)
    (pss_one (ps_ret (pe_and (pe_cmpR op_gt (pv 4) pe_int (nomark _)) (pe_and (pe_cmpR op_eq (pe_cal C__law_common (hr.mono (by first | decide | omega)) (by rfl) (pa_cons (pv 3) (pa_cons (pv 4) pa_nil))) pe_int (nomark _)) (pe_one (pe_cmpR op_eq (pe_op op_mulW (pv 3) (pv 2)) (pe_op op_mulW (pv 1) (pv 4)) (nomark _)))))))))), ?_⟩
    try simp only [cxK]
    rw [show L2.start N__law_is_share [.ref p, .int N, .int D] = [some (.ref p), some (.int N), some (.int D), none, none] from rfl]
    have m1 : CMulW t D := mul_c l1 l4 (by decide) (by decide)
    have m2 : CMulW N b := mul_c l3 l2 (by decide) (by decide)
    walk_at "go"
    have hb := rp.2.1.1
    refine g_iteD (fun h1 => ?_) (fun h1 => absurd hb h1)
    walk_at "go"
    refine ⟨t, b, rfl, ?_⟩
    rw [rp.2.1.2]
    walk_at "go"
    rw [decide_eq_true rp.2.2]
    exact k
theorem c_is_share (T : Top K mg) : Cal P w K mg base "_law_is_share" 2 P__law_is_share (spIsShare K) := cal_mk T.f__law_is_share (ok_is_share T) (fun F => F.bindsN fun _ _ _ _ _ _ us hl => match us, hl with | [_, _, _], _ => rfl)
theorem ltT {n d : Int} {k : Nat} (h : d ≠ 0) (l : n.natAbs < 2 ^ k) : (nT n d).natAbs < 2 ^ k := Nat.lt_of_le_of_lt (nT_le h) l
theorem ltB {n d : Int} {k : Nat} (h : d ≠ 0) (l : d.natAbs < 2 ^ k) : (nB n d).natAbs < 2 ^ k := Nat.lt_of_le_of_lt (nB_le h) l
end

set_option Elab.async false
set_option linter.all false
set_option maxRecDepth 100000
set_option maxHeartbeats 4000000
set_option exponentiation.threshold 5000
open PySem PySem.Spec L2



section
variable {P : Program} {w : World} {K : PySem.W.Frag} {mg : Str → Option Value} {base : Heap}
/-! the operations, by what the shares stand for -/
structure Fq (K : PySem.W.Frag) (H : Hp) (p : Addr) (n d : Int) : Prop where
  sh : Sh K H p (nT n d) (nB n d)
  nz : d ≠ 0
theorem Fq.sm {H H' : Hp} {p : Addr} {n d : Int} (h : Fq K H p n d) (s : Same H H') : Fq K H' p n d := ⟨h.sh.sm s, h.nz⟩
theorem Fq.rep {H : Hp} {p : Addr} {n d : Int} (h : Fq K H p n d) : Rep (nT n d) (nB n d) n d := nrm_rep h.nz
theorem Fq.of {H : Hp} {p : Addr} {t b n d : Int} (h : Sh K H p t b) (r : Rep t b n d) : Fq K H p n d := by
  obtain ⟨e1, e2⟩ := rep_self r
  exact ⟨by rw [← e1, ← e2]; exact h, r.1⟩
section
variable {H : Hp} {Q : VK} {p q : Addr} {n d n' d' : Int}
theorem g_addF (f : Fq K H p n d) (f' : Fq K H q n' d') (l : n.natAbs < 2 ^ 900 ∧ d.natAbs < 2 ^ 900 ∧ n'.natAbs < 2 ^ 900 ∧ d'.natAbs < 2 ^ 900)
    (k : ∀ r H', Same H H' → Fq K H' r (n * d' + n' * d) (d * d') → Q (.ref r) H') : spAdd K [.ref p, .ref q] H Q E0 :=
  ⟨p, q, _, _, _, _, rfl, f.sh, f'.sh, ⟨ltT f.nz l.1, ltB f.nz l.2.1, ltT f'.nz l.2.2.1, ltB f'.nz l.2.2.2⟩, Int.mul_ne_zero (pos_ne f.rep.2.1.1) (pos_ne f'.rep.2.1.1),
    fun r H' _ s h => k r H' s (Fq.of h (rep_add f.rep f'.rep))⟩
theorem g_subF (f : Fq K H p n d) (f' : Fq K H q n' d') (l : n.natAbs < 2 ^ 900 ∧ d.natAbs < 2 ^ 900 ∧ n'.natAbs < 2 ^ 900 ∧ d'.natAbs < 2 ^ 900)
    (k : ∀ r H', Same H H' → Fq K H' r (n * d' - n' * d) (d * d') → Q (.ref r) H') : spSub K [.ref p, .ref q] H Q E0 :=
  ⟨p, q, _, _, _, _, rfl, f.sh, f'.sh, ⟨ltT f.nz l.1, ltB f.nz l.2.1, ltT f'.nz l.2.2.1, ltB f'.nz l.2.2.2⟩, Int.mul_ne_zero (pos_ne f.rep.2.1.1) (pos_ne f'.rep.2.1.1),
    fun r H' _ s h => k r H' s (Fq.of h (rep_sub f.rep f'.rep))⟩
theorem g_mulF (f : Fq K H p n d) (f' : Fq K H q n' d') (l : n.natAbs < 2 ^ 900 ∧ d.natAbs < 2 ^ 900 ∧ n'.natAbs < 2 ^ 900 ∧ d'.natAbs < 2 ^ 900)
    (k : ∀ r H', Same H H' → Fq K H' r (n * n') (d * d') → Q (.ref r) H') : spMul K [.ref p, .ref q] H Q E0 :=
  ⟨p, q, _, _, _, _, rfl, f.sh, f'.sh, ⟨ltT f.nz l.1, ltB f.nz l.2.1, ltT f'.nz l.2.2.1, ltB f'.nz l.2.2.2⟩, Int.mul_ne_zero (pos_ne f.rep.2.1.1) (pos_ne f'.rep.2.1.1),
    fun r H' _ s h => k r H' s (Fq.of h (rep_mul f.rep f'.rep))⟩
theorem g_negF (f : Fq K H p n d) (l : n.natAbs < 2 ^ 900 ∧ d.natAbs < 2 ^ 900) (k : ∀ r H', Same H H' → Fq K H' r (-n) d → Q (.ref r) H') : spNeg K [.ref p] H Q E0 :=
  ⟨p, _, _, rfl, f.sh, ⟨ltT f.nz l.1, ltB f.nz l.2⟩, pos_ne f.rep.2.1.1, fun r H' _ s h => k r H' s (Fq.of h (rep_neg f.rep))⟩
theorem g_overF (f : Fq K H p n d) (f' : Fq K H q n' d') (z : n' ≠ 0) (l : n.natAbs < 2 ^ 900 ∧ d.natAbs < 2 ^ 900 ∧ n'.natAbs < 2 ^ 900 ∧ d'.natAbs < 2 ^ 900)
    (k : ∀ r H', Same H H' → Fq K H' r (n * d') (d * n') → Q (.ref r) H') : spOver K [.ref p, .ref q] H Q E0 :=
  ⟨p, q, _, _, _, _, rfl, f.sh, f'.sh, ⟨ltT f.nz l.1, ltB f.nz l.2.1, ltT f'.nz l.2.2.1, ltB f'.nz l.2.2.2⟩, Int.mul_ne_zero (pos_ne f.rep.2.1.1) (fun e => z ((rep_zero f'.rep).mp e)),
    fun r H' _ s h => k r H' s (Fq.of h (rep_over f.rep f'.rep z))⟩
theorem eqF (f : Fq K H p n d) (f' : Fq K H q n' d') : (decide (nT n d = nT n' d') && decide (nB n d = nB n' d')) = decide (n * d' = n' * d) := by
  by_cases e : n * d' = n' * d
  · obtain ⟨e1, e2⟩ := rep_eq f.rep f'.rep e
    rw [decide_eq_true e1, decide_eq_true e2, decide_eq_true e]
    rfl
  · rw [decide_eq_false e]
    by_cases e1 : nT n d = nT n' d'
    · by_cases e2 : nB n d = nB n' d'
      · exfalso
        refine e ?_
        have r1 := f.rep.2.2
        have r2 := f'.rep.2.2
        have hb := f.rep.2.1.1
        rw [← e1, ← e2] at r2
        refine Int.eq_of_mul_eq_mul_right (pos_ne hb) ?_
        calc n * d' * nB n d = (n * nB n d) * d' := by rw [Int.mul_right_comm]
          _ = (nT n d * d) * d' := by rw [r1]
          _ = (nT n d * d') * d := by rw [Int.mul_right_comm]
          _ = (n' * nB n d) * d := by rw [r2]
          _ = n' * d * nB n d := by rw [Int.mul_right_comm]
      · rw [decide_eq_false e2, Bool.and_false]
    · rw [decide_eq_false e1, Bool.false_and]
theorem g_eqF (i : InsK K (CS K)) (c : Cls K (CS K)) (nf : PySem.W.notFirst K (CS K) (.ref (CS K)) = true) (f : Fq K H p n d) (f' : Fq K H q n' d') (k : Q (.bl (decide (n * d' = n' * d))) H) : rOwnEq K (CS K) (spEqS K) (.ref p) (.ref q) H Q := by
  obtain ⟨dx, hp⟩ := f.sh
  obtain ⟨dy, hq⟩ := f'.sh
  exact g_ownEq hp (i.ty c hq) nf ⟨p, .ref q, _, _, rfl, f.sh, .inl ⟨q, _, _, rfl, f'.sh, by rw [eqF f f']; exact k⟩⟩
theorem g_isF {D : Int} {N : Int} (f : Fq K H p n d) (e : n = N) (e' : d = D) (l : N.natAbs < 2 ^ 1900 ∧ D.natAbs < 2 ^ 1900) (k : Q (.bl true) H) : spIsShare K [.ref p, .int N, .int D] H Q E0 := by
  subst e e'
  exact ⟨p, _, _, _, _, rfl, f.sh, f.rep, ⟨ltT f.nz l.1, ltB f.nz l.2, l.1, l.2⟩, k⟩
end
end

set_option Elab.async false
set_option linter.all false
set_option maxRecDepth 100000
set_option maxHeartbeats 4000000
set_option exponentiation.threshold 5000
open PySem PySem.Spec L2



section
variable {P : Program} {w : World} {K : PySem.W.Frag} {mg : Str → Option Value} {base : Heap}
theorem Fq.re {H : Hp} {p : Addr} {n d n' d' : Int} (f : Fq K H p n d) (e : n * d' = n' * d) (nz : d' ≠ 0) : Fq K H p n' d' := by
  refine Fq.of f.sh ⟨nz, f.rep.2.1, ?_⟩
  have r := f.rep.2.2
  refine Int.eq_of_mul_eq_mul_right f.nz ?_
  grind
theorem Fq.chg {H H' : Hp} {a p : Addr} {n d : Int} (f : Fq K H p n d) (ne : p ≠ a) (c : Chg a H H') : Fq K H' p n d := ⟨f.sh.chg ne c, f.nz⟩
theorem Fq.ne {H : Hp} {p a : Addr} {n d : Int} {xs : List V} (f : Fq K H p n d) (h : H a = some (.lst xs)) : p ≠ a := by
  obtain ⟨dx, hp⟩ := f.sh
  intro e
  rw [e, h] at hp
  cases hp
/-! a list or a tuple of shares -/
def ShL (b : Bool) (K : PySem.W.Frag) (H : Hp) (a : Addr) (ns : List Int) (D : Int) : Prop := ∃ ps : List Addr, ps.length = ns.length ∧ SqB b K H a (ps.map V.ref) ∧ ∀ (i : Nat) (p : Addr) (n : Int), ps[i]? = some p → ns[i]? = some n → Fq K H p n D
theorem ShL.sm {b : Bool} {H H' : Hp} {a : Addr} {ns : List Int} {D : Int} (h : ShL b K H a ns D) (s : Same H H') : ShL b K H' a ns D := by
  obtain ⟨ps, e, q, f⟩ := h
  exact ⟨ps, e, sqB_same q s, fun i p n e1 e2 => (f i p n e1 e2).sm s⟩
/-- the same, the list or tuple standing in H by itself -/
def hob (b : Bool) (xs : List V) : HO := if b = true then .lst xs else .tup xs
def ShH (b : Bool) (K : PySem.W.Frag) (H : Hp) (a : Addr) (ns : List Int) (D : Int) : Prop := ∃ ps : List Addr, ps.length = ns.length ∧ H a = some (hob b (ps.map V.ref)) ∧ ∀ (i : Nat) (p : Addr) (n : Int), ps[i]? = some p → ns[i]? = some n → Fq K H p n D
theorem ShH.l {b : Bool} {H : Hp} {a : Addr} {ns : List Int} {D : Int} (h : ShH b K H a ns D) : ShL b K H a ns D := by
  obtain ⟨ps, e, q, f⟩ := h
  refine ⟨ps, e, ?_, f⟩
  cases b
  · exact SqT.of q
  · exact SqL.of q
theorem ShH.sm {b : Bool} {H H' : Hp} {a : Addr} {ns : List Int} {D : Int} (h : ShH b K H a ns D) (s : Same H H') : ShH b K H' a ns D := by
  obtain ⟨ps, e, q, f⟩ := h
  exact ⟨ps, e, s _ _ q, fun i p n e1 e2 => (f i p n e1 e2).sm s⟩
theorem ShH.chg {b : Bool} {H H' : Hp} {a x : Addr} {ns : List Int} {D : Int} {zs : List V} (h : ShH b K H a ns D) (ne : a ≠ x) (hx : H x = some (.lst zs)) (c : Chg x H H') : ShH b K H' a ns D := by
  obtain ⟨ps, e, q, f⟩ := h
  exact ⟨ps, e, c _ _ ne q, fun i p n e1 e2 => (f i p n e1 e2).chg ((f i p n e1 e2).ne hx) c⟩
/-- a list of shares that is being made at D -/
def Bld (K : PySem.W.Frag) (H0 : Hp) (D : Addr) (ns : List Int) (E : Int) (i : Nat) (H : Hp) : Prop :=
  Same H0 H ∧ ∃ ps : List Addr, ps.length = i ∧ H D = some (.lst (ps.map V.ref)) ∧ ∀ (j : Nat) (p : Addr) (n : Int), ps[j]? = some p → ns[j]? = some n → Fq K H p n E
theorem bld0 {H0 : Hp} {D : Addr} {ns : List Int} {E : Int} (h : H0 D = none) : Bld K H0 D ns E 0 (upd H0 D (.lst [])) :=
  ⟨same_new h, [], rfl, upd_same, fun j p n e => by simp at e⟩
theorem bldS {H0 H H' : Hp} {D r : Addr} {ns : List Int} {E n : Int} {i : Nat} (hD : H0 D = none) (b : Bld K H0 D ns E i H) (s : Same H H') (hn : ns[i]? = some n) (f : Fq K H' r n E) (l : i ≤ 1000) :
    TurnD D (Bld K H0 D ns E (i + 1)) (.ref r) H' := by
  obtain ⟨s0, ps, e, hd, g⟩ := b
  have hd' := s _ _ hd
  refine g_turnD hd' (by rw [List.length_map]; omega) ⟨?_, ps ++ [r], by simp [e], ?_, ?_⟩
  · intro c o h
    rw [upd_ne (ne_of_none h hD)]
    exact s _ _ (s0 _ _ h)
  · rw [List.map_append]; exact upd_same
  · have keep : ∀ {p : Addr} {m : Int}, Fq K H' p m E → Fq K (upd H' D (.lst (ps.map V.ref ++ [.ref r]))) p m E := fun {p m} f => by
      obtain ⟨dx, hp⟩ := f.sh
      exact ⟨⟨dx, by rw [upd_ne (f.ne hd')]; exact hp⟩, f.nz⟩
    intro j p m e1 e2
    rcases Nat.lt_trichotomy j ps.length with lt | eq | gt
    · rw [List.getElem?_append_left lt] at e1
      exact keep ((g j p m e1 e2).sm s)
    · rw [List.getElem?_append_right (by omega), eq, Nat.sub_self] at e1
      have e3 : r = p := by simpa using e1
      rw [← e3]
      rw [eq, e, hn] at e2
      have e4 : n = m := by simpa using e2
      rw [← e4]
      exact keep f
    · rw [List.getElem?_eq_none (by simp; omega)] at e1
      cases e1
theorem Bld.fin {H0 H : Hp} {D : Addr} {ns : List Int} {E : Int} {i : Nat} (h : Bld K H0 D ns E i H) (e : i = ns.length) : ShH true K H D ns E := by
  obtain ⟨s, ps, e1, hd, f⟩ := h
  exact ⟨ps, e1.trans e, hd, f⟩
/-! _sum_of and _law_together -/
theorem sum_app : ∀ (xs ys : List Int), (xs ++ ys).sum = xs.sum + ys.sum
  | [], ys => by simp
  | x :: xs, ys => by rw [List.cons_append, List.sum_cons, List.sum_cons, sum_app xs ys]; omega
theorem sum_tk {ns : List Int} {i : Nat} {n : Int} (h : ns[i]? = some n) : (ns.take (i + 1)).sum = (ns.take i).sum + n := by
  rw [List.take_succ, sum_app, h]; simp
theorem sum_nn : ∀ {ns : List Int}, (∀ n ∈ ns, 0 ≤ n) → 0 ≤ ns.sum
  | [], _ => by simp
  | n :: ns, h => by
    rw [List.sum_cons]
    have h1 := h n List.mem_cons_self
    have h2 := sum_nn (ns := ns) fun m hm => h m (List.mem_cons_of_mem _ hm)
    omega
theorem tk_le {ns : List Int} (h : ∀ n ∈ ns, 0 ≤ n) (i : Nat) : 0 ≤ (ns.take i).sum ∧ (ns.take i).sum ≤ ns.sum := by
  have h1 := sum_nn (ns := ns.take i) fun n hn => h n (List.mem_of_mem_take hn)
  have h2 := sum_nn (ns := ns.drop i) fun n hn => h n (List.mem_of_mem_drop hn)
  have e : ns.sum = (ns.take i).sum + (ns.drop i).sum := by rw [← sum_app, List.take_append_drop]
  omega
theorem el_le {ns : List Int} (h : ∀ n ∈ ns, 0 ≤ n) {i : Nat} {n : Int} (e : ns[i]? = some n) : 0 ≤ n ∧ n ≤ ns.sum := by
  have h1 := tk_le h i
  have h2 := tk_le h (i + 1)
  rw [sum_tk e] at h2
  have := h n (List.mem_of_getElem? e)
  omega
def spSum (K : PySem.W.Frag) : Sp := fun vs H Q _ => ∃ (a : Addr) (ns : List Int) (D : Int), vs = [.ref a] ∧ ShL true K H a ns D ∧ (∀ n ∈ ns, 0 ≤ n) ∧ ns.sum.natAbs < 2 ^ 400 ∧ D.natAbs < 2 ^ 400 ∧ D ≠ 0 ∧ ∀ r H', Same H H' → Fq K H' r ns.sum D → Q (.ref r) H'
theorem ok_sum (T : Top K mg) {f : Addr} {fd : FuncData} (F : FnP K "_sum_of" s__sum_of f fd) : FnOk P w K mg base CX0 4 f fd P__sum_of (spSum K) := by
  have cl_Share := T.cl_Share; have na_Share_top := T.na_Share_top; have na_Share_bottom := T.na_Share_bottom; have in_Share := T.in_Share; have ki_o_Share_o_Share := T.ki_o_Share_o_Share; have ki_int_o_Share := T.ki_int_o_Share; have ki_bool_o_Share := T.ki_bool_o_Share; have ki_NoneType_o_Share := T.ki_NoneType_o_Share; have ki_str_o_Share := T.ki_str_o_Share; have ki_list_o_Share := T.ki_list_o_Share; have ki_tuple_o_Share := T.ki_tuple_o_Share; have nf_Share_o_Share := T.nf_Share_o_Share; have nf_Share_int := T.nf_Share_int; have nf_Share_bool := T.nf_Share_bool; have nf_Share_NoneType := T.nf_Share_NoneType; have nf_Share_str := T.nf_Share_str; have nf_Share_list := T.nf_Share_list; have nf_Share_tuple := T.nf_Share_tuple; have ne_Share := T.ne_Share
  have MC_Share___add__ := mc_Share___add__ (P := P) (w := w) (base := base) T
  have KK_Share_1_ := kk_Share_1_ (P := P) (w := w) (base := base) T
  refine F.ok sc__sum_of (fun vs H Q E h => ?_) (fun cdv A outer s H vs Q E hr h => ?_)
  · obtain ⟨a, ns, D, rfl, _⟩ := h
    rfl
  · obtain ⟨a, ns, D, rfl, hs, nn, l1, l2, dz, q⟩ := h
    refine ⟨_, PSs.nox (pss_cons (ps_set (i := 1) sc__sum_of.nd rfl (by first | exact Or.inl rfl | exact Or.inr rfl) (pe_mkk T.g_Share KK_Share_1_ (hr.mono (by first | decide | omega)) (by rfl) (pa_cons pe_int pa_nil) pk_nil))
    (pss_cons (ps_for PassesOwn.never rfl (k_pil (K := K) (by rfl) (pv 0)) (pg_name (i := 2) sc__sum_of.nd rfl (by first | exact Or.inl rfl | exact Or.inr rfl))
    (pss_one (ps_set (i := 1) sc__sum_of.nd rfl (by first | exact Or.inl rfl | exact Or.inr rfl) (pe_op (op_ownBin (by rfl) T.in_Share.sf MC_Share___add__ (hr.mono (by first | decide | omega))) (pv 1) (pv 2)))))
    (pss_one (ps_ret (pv 1))))), ?_⟩
    try simp only [cxK]
    rw [show L2.start N__sum_of [.ref a] = [some (.ref a), none, none] from rfl]
    walk_at "go"
    refine g_share (t := 0) (b := 1) rfl rfl (fun _ => rfl) (by decide) (by decide) fun p1 H1 _ s1 g1 => ?_
    have f1 : Fq K H1 p1 0 D := Fq.re (n := 0) (d := 1) ⟨g1, by decide⟩ (by omega) dz
    walk_at "go"
    obtain ⟨ps, hl, sq, fs⟩ := hs
    have sq : SqL K H a (ps.map V.ref) := sq
    have sq1 : SqL K H1 a (ps.map V.ref) := s1.seq sq
    walk_at "go"
    refine forL (xs := ps.map V.ref) ⟨fun i σ' H' => ∃ p y, σ' = [some (.ref a), some (.ref p), y] ∧ Same H H' ∧ Fq K H' p (ns.take i).sum D, ⟨p1, _, rfl, s1, f1⟩, ?_, ?_, ?_⟩
    · rintro i σ' H' _ ⟨p, y, rfl, s2, _⟩
      exact s2.seq sq
    · rintro i x σ' H' hx ⟨p, y, rfl, s2, f2⟩
      rw [List.getElem?_map, Option.map_eq_some_iff] at hx
      obtain ⟨r, hr', rfl⟩ := hx
      have hi : i < ns.length := by rw [← hl]; exact (List.getElem?_eq_some_iff.mp hr').1
      have hn : ns[i]? = some ns[i] := List.getElem?_eq_getElem hi
      have f3 := (fs i r _ hr' hn).sm s2
      obtain ⟨dx, hp⟩ := f2.sh
      obtain ⟨dy, hq⟩ := f3.sh
      have b1 := tk_le nn i
      have b2 := el_le nn hn
      have b3 : (ns.take i).sum.natAbs < 2 ^ 400 := Nat.lt_of_le_of_lt (by omega) l1
      have b4 : ns[i].natAbs < 2 ^ 400 := Nat.lt_of_le_of_lt (by omega) l1
      walk_at "go"
      refine g_addF f2 f3 ⟨lt_pow b3 (by decide), lt_pow l2 (by decide), lt_pow b4 (by decide), lt_pow l2 (by decide)⟩ fun r2 H2 s3 g3 => ?_
      walk_at "go"
      exact ⟨r2, _, rfl, s2.trans s3, by rw [sum_tk hn]; exact g3.re (by grind) dz⟩
    · rintro σ' H' ⟨p, y, rfl, s2, f2⟩
      walk_at "go"
      rw [List.take_of_length_le (by simp [hl])] at f2
      exact q _ _ s2 f2
theorem c_sum (T : Top K mg) : Cal P w K mg base "_sum_of" 4 P__sum_of (spSum K) := cal_mk T.f__sum_of (ok_sum T) (fun F => F.bindsN fun _ _ _ _ _ _ us hl => match us, hl with | [_], _ => rfl)
theorem ok_tog (T : Top K mg) {f : Addr} {fd : FuncData} (F : FnP K "_law_together" s__law_together f fd) : FnOk P w K mg base CX0 4 f fd P__law_together (spSum K) := by
  have cl_Share := T.cl_Share; have na_Share_top := T.na_Share_top; have na_Share_bottom := T.na_Share_bottom; have in_Share := T.in_Share; have ki_o_Share_o_Share := T.ki_o_Share_o_Share; have ki_int_o_Share := T.ki_int_o_Share; have ki_bool_o_Share := T.ki_bool_o_Share; have ki_NoneType_o_Share := T.ki_NoneType_o_Share; have ki_str_o_Share := T.ki_str_o_Share; have ki_list_o_Share := T.ki_list_o_Share; have ki_tuple_o_Share := T.ki_tuple_o_Share; have nf_Share_o_Share := T.nf_Share_o_Share; have nf_Share_int := T.nf_Share_int; have nf_Share_bool := T.nf_Share_bool; have nf_Share_NoneType := T.nf_Share_NoneType; have nf_Share_str := T.nf_Share_str; have nf_Share_list := T.nf_Share_list; have nf_Share_tuple := T.nf_Share_tuple; have ne_Share := T.ne_Share
  have MC_Share___add__ := mc_Share___add__ (P := P) (w := w) (base := base) T
  have KK_Share_1_ := kk_Share_1_ (P := P) (w := w) (base := base) T
  refine F.ok sc__law_together (fun vs H Q E h => ?_) (fun cdv A outer s H vs Q E hr h => ?_)
  · obtain ⟨a, ns, D, rfl, _⟩ := h
    rfl
  · obtain ⟨a, ns, D, rfl, hs, nn, l1, l2, dz, q⟩ := h
    refine ⟨_, PSs.nox (pss_cons (ps_set (i := 1) sc__law_together.nd rfl (by first | exact Or.inl rfl | exact Or.inr rfl) (pe_mkk T.g_Share KK_Share_1_ (hr.mono (by first | decide | omega)) (by rfl) (pa_cons pe_int pa_nil) pk_nil))
    (pss_cons (ps_for PassesOwn.never rfl (k_pil (K := K) (by rfl) (pv 0)) (pg_name (i := 2) sc__law_together.nd rfl (by first | exact Or.inl rfl | exact Or.inr rfl))
    (pss_one (ps_set (i := 1) sc__law_together.nd rfl (by first | exact Or.inl rfl | exact Or.inr rfl) (pe_op (op_ownBin (by rfl) T.in_Share.sf MC_Share___add__ (hr.mono (by first | decide | omega))) (pv 1) (pv 2)))))
    (pss_one (ps_ret (pv 1))))), ?_⟩
    try simp only [cxK]
    rw [show L2.start N__law_together [.ref a] = [some (.ref a), none, none] from rfl]
    walk_at "go"
    refine g_share (t := 0) (b := 1) rfl rfl (fun _ => rfl) (by decide) (by decide) fun p1 H1 _ s1 g1 => ?_
    have f1 : Fq K H1 p1 0 D := Fq.re (n := 0) (d := 1) ⟨g1, by decide⟩ (by omega) dz
    walk_at "go"
    obtain ⟨ps, hl, sq, fs⟩ := hs
    have sq : SqL K H a (ps.map V.ref) := sq
    have sq1 : SqL K H1 a (ps.map V.ref) := s1.seq sq
    walk_at "go"
    refine forL (xs := ps.map V.ref) ⟨fun i σ' H' => ∃ p y, σ' = [some (.ref a), some (.ref p), y] ∧ Same H H' ∧ Fq K H' p (ns.take i).sum D, ⟨p1, _, rfl, s1, f1⟩, ?_, ?_, ?_⟩
    · rintro i σ' H' _ ⟨p, y, rfl, s2, _⟩
      exact s2.seq sq
    · rintro i x σ' H' hx ⟨p, y, rfl, s2, f2⟩
      rw [List.getElem?_map, Option.map_eq_some_iff] at hx
      obtain ⟨r, hr', rfl⟩ := hx
      have hi : i < ns.length := by rw [← hl]; exact (List.getElem?_eq_some_iff.mp hr').1
      have hn : ns[i]? = some ns[i] := List.getElem?_eq_getElem hi
      have f3 := (fs i r _ hr' hn).sm s2
      obtain ⟨dx, hp⟩ := f2.sh
      obtain ⟨dy, hq⟩ := f3.sh
      have b1 := tk_le nn i
      have b2 := el_le nn hn
      have b3 : (ns.take i).sum.natAbs < 2 ^ 400 := Nat.lt_of_le_of_lt (by omega) l1
      have b4 : ns[i].natAbs < 2 ^ 400 := Nat.lt_of_le_of_lt (by omega) l1
      walk_at "go"
      refine g_addF f2 f3 ⟨lt_pow b3 (by decide), lt_pow l2 (by decide), lt_pow b4 (by decide), lt_pow l2 (by decide)⟩ fun r2 H2 s3 g3 => ?_
      walk_at "go"
      exact ⟨r2, _, rfl, s2.trans s3, by rw [sum_tk hn]; exact g3.re (by grind) dz⟩
    · rintro σ' H' ⟨p, y, rfl, s2, f2⟩
      walk_at "go"
      rw [List.take_of_length_le (by simp [hl])] at f2
      exact q _ _ s2 f2
theorem c_tog (T : Top K mg) : Cal P w K mg base "_law_together" 4 P__law_together (spSum K) := cal_mk T.f__law_together (ok_tog T) (fun F => F.bindsN fun _ _ _ _ _ _ us hl => match us, hl with | [_], _ => rfl)
/-! _lesser -/
theorem cross {a b c : Int} (h : 0 < c) : a * c < b * c ↔ a < b := ⟨fun h1 => Int.lt_of_mul_lt_mul_right h1 (Int.le_of_lt h), fun h1 => Int.mul_lt_mul_of_pos_right h1 h⟩
theorem lt_rep {t b n d u c n' d' : Int} (r : Rep t b n d) (r' : Rep u c n' d') (hd : 0 < d) (hd' : 0 < d') : t * c < u * b ↔ n * d' < n' * d := by
  have hb := r.2.1.1
  have hc := r'.2.1.1
  have e1 := r.2.2
  have e2 := r'.2.2
  rw [← cross (Int.mul_pos hd hd'), ← cross (a := n * d') (Int.mul_pos hb hc)]
  rw [show t * c * (d * d') = n * d' * (b * c) by grind, show u * b * (d * d') = n' * d * (b * c) by grind]
def spLess (K : PySem.W.Frag) : Sp := fun vs H Q _ => ∃ (p q : Addr) (n d n' d' : Int), vs = [.ref p, .ref q] ∧ Fq K H p n d ∧ Fq K H q n' d' ∧ (0 < d ∧ 0 < d') ∧ (n.natAbs < 2 ^ 900 ∧ d.natAbs < 2 ^ 900 ∧ n'.natAbs < 2 ^ 900 ∧ d'.natAbs < 2 ^ 900) ∧
  ∀ r, Fq K H r (min (n * d') (n' * d)) (d * d') → Q (.ref r) H
theorem g_less {H : Hp} {Q : VK} {E : XK} {p q : Addr} {n d n' d' : Int} (f : Fq K H p n d) (f' : Fq K H q n' d') (z : 0 < d ∧ 0 < d') (l : n.natAbs < 2 ^ 900 ∧ d.natAbs < 2 ^ 900 ∧ n'.natAbs < 2 ^ 900 ∧ d'.natAbs < 2 ^ 900)
    (k : ∀ r, Fq K H r (min (n * d') (n' * d)) (d * d') → Q (.ref r) H) : spLess K [.ref p, .ref q] H Q E := ⟨p, q, n, d, n', d', rfl, f, f', z, l, k⟩
theorem ok_less (T : Top K mg) {f : Addr} {fd : FuncData} (F : FnP K "_lesser" s__lesser f fd) : FnOk P w K mg base CX0 2 f fd P__lesser (spLess K) := by
  have cl_Share := T.cl_Share; have na_Share_top := T.na_Share_top; have na_Share_bottom := T.na_Share_bottom; have in_Share := T.in_Share; have ki_o_Share_o_Share := T.ki_o_Share_o_Share; have ki_int_o_Share := T.ki_int_o_Share; have ki_bool_o_Share := T.ki_bool_o_Share; have ki_NoneType_o_Share := T.ki_NoneType_o_Share; have ki_str_o_Share := T.ki_str_o_Share; have ki_list_o_Share := T.ki_list_o_Share; have ki_tuple_o_Share := T.ki_tuple_o_Share; have nf_Share_o_Share := T.nf_Share_o_Share; have nf_Share_int := T.nf_Share_int; have nf_Share_bool := T.nf_Share_bool; have nf_Share_NoneType := T.nf_Share_NoneType; have nf_Share_str := T.nf_Share_str; have nf_Share_list := T.nf_Share_list; have nf_Share_tuple := T.nf_Share_tuple; have ne_Share := T.ne_Share
  have MC_Share_below := mc_Share_below (P := P) (w := w) (base := base) T
  refine F.ok sc__lesser (fun vs H Q E h => ?_) (fun cdv A outer s H vs Q E hr h => ?_)
  · obtain ⟨p, q, n, d, n', d', rfl, _⟩ := h
    rfl
  · obtain ⟨p, q, n, d, n', d', rfl, f1, f2, ⟨z1, z2⟩, ⟨l1, l2, l3, l4⟩, k⟩ := h
    refine ⟨_, PSs.nox (pss_one (ps_ret (pe_ifExp (pt_val (pe_mcal (pv 0) T.cl_Share MC_Share_below (hr.mono (by first | decide | omega)) (pa_cons (pv 1) pa_nil))) (pv 0) (pv 1)))), ?_⟩
    try simp only [cxK]
    rw [show L2.start N__lesser [.ref p, .ref q] = [some (.ref p), some (.ref q)] from rfl]
    obtain ⟨dx, hp⟩ := f1.sh
    obtain ⟨dy, hq⟩ := f2.sh
    walk_at "go"
    refine ⟨p, q, _, _, _, _, rfl, f1.sh, f2.sh, ⟨ltT f1.nz l1, ltB f1.nz l2, ltT f2.nz l3, ltB f2.nz l4⟩, ?_⟩
    rw [decide_eq_decide.mpr (lt_rep f1.rep f2.rep z1 z2)]
    walk_at "go"
    refine g_iteD (fun h1 => ?_) (fun h1 => ?_)
    · walk_at "go"
      refine k p (f1.re ?_ (Int.mul_ne_zero f1.nz f2.nz))
      rw [Int.min_eq_left (by omega)]
      grind
    · walk_at "go"
      refine k q (f2.re ?_ (Int.mul_ne_zero f1.nz f2.nz))
      rw [Int.min_eq_right (by omega)]
      grind
theorem c_less (T : Top K mg) : Cal P w K mg base "_lesser" 2 P__lesser (spLess K) := cal_mk T.f__lesser (ok_less T) (fun F => F.bindsN fun _ _ _ _ _ _ us hl => match us, hl with | [_, _], _ => rfl)
/-! shares_of -/
def partN (ns : List Int) : List Int := if ns.sum = 0 then (List.range ns.length).map fun i => if i = 0 then 1 else 0 else ns
def partD (ns : List Int) : Int := if ns.sum = 0 then 1 else ns.sum
def spShares (K : PySem.W.Frag) : Sp := fun vs H Q _ => ∃ (b : Bool) (a : Addr) (ns : List Int), vs = [.ref a] ∧ SqB b K H a (ns.map V.int) ∧ ns.length ≤ 1000 ∧ ns.sum.natAbs < 2 ^ 400 ∧ ∀ r H', H r = none → Same H H' → ShH true K H' r (partN ns) (partD ns) → Q (.ref r) H'
theorem ok_shares (T : Top K mg) {f : Addr} {fd : FuncData} (F : FnP K "shares_of" s_shares_of f fd) : FnOk P w K mg base CX0 3 f fd P_shares_of (spShares K) := by
  have cl_Share := T.cl_Share; have na_Share_top := T.na_Share_top; have na_Share_bottom := T.na_Share_bottom; have in_Share := T.in_Share; have ki_o_Share_o_Share := T.ki_o_Share_o_Share; have ki_int_o_Share := T.ki_int_o_Share; have ki_bool_o_Share := T.ki_bool_o_Share; have ki_NoneType_o_Share := T.ki_NoneType_o_Share; have ki_str_o_Share := T.ki_str_o_Share; have ki_list_o_Share := T.ki_list_o_Share; have ki_tuple_o_Share := T.ki_tuple_o_Share; have nf_Share_o_Share := T.nf_Share_o_Share; have nf_Share_int := T.nf_Share_int; have nf_Share_bool := T.nf_Share_bool; have nf_Share_NoneType := T.nf_Share_NoneType; have nf_Share_str := T.nf_Share_str; have nf_Share_list := T.nf_Share_list; have nf_Share_tuple := T.nf_Share_tuple; have ne_Share := T.ne_Share
  have KK_Share_1_ := kk_Share_1_ (P := P) (w := w) (base := base) T
  have KK_Share_2_ := kk_Share_2_ (P := P) (w := w) (base := base) T
  refine F.ok sc_shares_of (fun vs H Q E h => ?_) (fun cdv A outer s H vs Q E hr h => ?_)
  · obtain ⟨b, a, ns, rfl, _⟩ := h
    rfl
  · obtain ⟨b, a, ns, rfl, hs, l1, l2, k⟩ := h
    have fin : ∀ r H', H r = none → Bld K H r (partN ns) (partD ns) ns.length H' → Q (.ref r) H' := fun r H' hr b => k r H' hr b.1 (b.fin (by unfold partN; split <;> simp))
    cases b
    rotate_left
    · have hs : SqL K H a (ns.map V.int) := hs
      refine ⟨_, PSs.nox (pss_cons (ps_set (i := 1) sc_shares_of.nd rfl (by first | exact Or.inl rfl | exact Or.inr rfl) (pe_callB (k_sum (K := K) (by rfl) (by rfl)) (by rfl) T.z_sum (by decide +kernel) (pa_cons (pv 0) pa_nil)))
    (pss_cons (ps_if (pt_cmpR op_eq (pv 1) pe_int (nomark _))
    (pss_one (ps_ret (pe_lc (own := [("token", 2)]) (g := gName 2) (by rfl) sc_shares_of.nd (pi_range1 (by rfl) T.z_range (pa_cons (pe_callB (k_len (K := K) (by rfl)) (by rfl) T.z_len (by decide +kernel) (pa_cons (pv 0) pa_nil)) pa_nil)) (blkOk_by (own := [("token", 2)]) (N := N_shares_of) (sc := defScope s_shares_of) (by decide +kernel)) (fun _ _ _ _ _ => pg_name (i := 2) sc_shares_of.nd rfl (by first | exact Or.inl rfl | exact Or.inr rfl)) (fun _ _ _ _ _ => pts_nil) (fun _ _ _ _ _ => (pe_mkk T.g_Share KK_Share_1_ (hr.mono (by first | decide | omega)) (by rfl) (pa_cons (pe_ifExp (pt_cmpR op_eq (pv 2) (C8.pe_gc (v := .int 0) (by rfl) T.k_END) (nomark _)) pe_int pe_int) pa_nil) pk_nil)))))
    pss_nil)
    (pss_one (ps_ret (pe_lc (own := [("weight", 3)]) (g := gName 3) (by rfl) sc_shares_of.nd (k_pil (K := K) (by rfl) (pv 0)) (blkOk_by (own := [("weight", 3)]) (N := N_shares_of) (sc := defScope s_shares_of) (by decide +kernel)) (fun _ _ _ _ _ => pg_name (i := 3) sc_shares_of.nd rfl (by first | exact Or.inl rfl | exact Or.inr rfl)) (fun _ _ _ _ _ => pts_nil) (fun _ _ _ _ _ => (pe_mkk T.g_Share KK_Share_2_ (hr.mono (by first | decide | omega)) (by rfl) (pa_cons (pv 3) (pa_cons (pv 1) pa_nil)) pk_nil))))))), ?_⟩
      try simp only [cxK]
      rw [show L2.start N_shares_of [.ref a] = [some (.ref a), none, none, none] from rfl]
      walk_at "go"
      refine g_iteD (fun h1 => ?_) (fun h1 => ?_)
      · walk_at "go"
        rw [List.length_map]
        walk_at "go"
        refine lcR (σ0 := [some (V.ref a), some (.int ns.sum), none, none]) rfl fun D hD => ⟨fun i H' => Bld K H D (partN ns) (partD ns) i H', bld0 hD, ?_, fun H' b => fin D H' hD b⟩
        rintro i H' hi b
        have hn : (partN ns)[i]? = some (if i = 0 then 1 else 0) := by
          unfold partN
          rw [if_pos h1]
          rw [List.getElem?_map, List.getElem?_range (by omega)]
          rfl
        have hd : partD ns = 1 := if_pos h1
        have step : ∀ H2 r z, Same H' H2 → Sh K H2 r (nT z 1) (nB z 1) → z = (if i = 0 then 1 else 0) → TurnD D (Bld K H D (partN ns) (partD ns) (i + 1)) (.ref r) H2 := fun H2 r z s2 g2 e => bldS hD b s2 hn ⟨by rw [hd, ← e]; exact g2, by rw [hd]; decide⟩ (by omega)
        walk_at "go"
        refine g_iteD (fun h2 => ?_) (fun h2 => ?_)
        · walk_at "go"
          refine g_share (t := 1) (b := 1) rfl rfl (fun _ => rfl) (by decide) (by decide) fun p1 H2 _ s2 g2 => ?_
          walk_at "go"
          exact step _ _ _ s2 g2 (by rw [if_pos (by omega)])
        · walk_at "go"
          refine g_share (t := 0) (b := 1) rfl rfl (fun _ => rfl) (by decide) (by decide) fun p1 H2 _ s2 g2 => ?_
          walk_at "go"
          exact step _ _ _ s2 g2 (by rw [if_neg (by omega)])
      · walk_at "go"
        refine lcL (xs := ns.map V.int) (σ0 := [some (V.ref a), some (.int ns.sum), none, none]) rfl fun D hD => ⟨fun i H' => Bld K H D (partN ns) (partD ns) i H', bld0 hD, ?_, ?_, ?_⟩
        · rintro i H' hi b
          exact b.1.seq hs
        · rintro i x H' hx b
          rw [List.getElem?_map, Option.map_eq_some_iff] at hx
          obtain ⟨n, hn, rfl⟩ := hx
          have hlt := (List.getElem?_eq_some_iff.mp hn).1
          have e1 : partN ns = ns := if_neg h1
          have e2 : partD ns = ns.sum := if_neg h1
          walk_at "go"
          refine g_share (t := n) (b := ns.sum) rfl rfl (fun _ => rfl) h1 (lt_pow l2 (by decide)) fun p1 H2 _ s2 g2 => ?_
          walk_at "go"
          exact bldS hD b s2 (by rw [e1]; exact hn) ⟨by rw [e2]; exact g2, by rw [e2]; exact h1⟩ (by omega)
        · rintro H' b
          rw [List.length_map] at b
          exact fin D H' hD b
    · have hs : SqT K H a (ns.map V.int) := hs
      refine ⟨_, PSs.nox (pss_cons (ps_set (i := 1) sc_shares_of.nd rfl (by first | exact Or.inl rfl | exact Or.inr rfl) (pe_callB (k_sumT (K := K) (by rfl) (by rfl)) (by rfl) T.z_sum (by decide +kernel) (pa_cons (pv 0) pa_nil)))
    (pss_cons (ps_if (pt_cmpR op_eq (pv 1) pe_int (nomark _))
    (pss_one (ps_ret (pe_lc (own := [("token", 2)]) (g := gName 2) (by rfl) sc_shares_of.nd (pi_range1 (by rfl) T.z_range (pa_cons (pe_callB (k_len (K := K) (by rfl)) (by rfl) T.z_len (by decide +kernel) (pa_cons (pv 0) pa_nil)) pa_nil)) (blkOk_by (own := [("token", 2)]) (N := N_shares_of) (sc := defScope s_shares_of) (by decide +kernel)) (fun _ _ _ _ _ => pg_name (i := 2) sc_shares_of.nd rfl (by first | exact Or.inl rfl | exact Or.inr rfl)) (fun _ _ _ _ _ => pts_nil) (fun _ _ _ _ _ => (pe_mkk T.g_Share KK_Share_1_ (hr.mono (by first | decide | omega)) (by rfl) (pa_cons (pe_ifExp (pt_cmpR op_eq (pv 2) (C8.pe_gc (v := .int 0) (by rfl) T.k_END) (nomark _)) pe_int pe_int) pa_nil) pk_nil)))))
    pss_nil)
    (pss_one (ps_ret (pe_lc (own := [("weight", 3)]) (g := gName 3) (by rfl) sc_shares_of.nd (k_pit (K := K) (by rfl) (pv 0)) (blkOk_by (own := [("weight", 3)]) (N := N_shares_of) (sc := defScope s_shares_of) (by decide +kernel)) (fun _ _ _ _ _ => pg_name (i := 3) sc_shares_of.nd rfl (by first | exact Or.inl rfl | exact Or.inr rfl)) (fun _ _ _ _ _ => pts_nil) (fun _ _ _ _ _ => (pe_mkk T.g_Share KK_Share_2_ (hr.mono (by first | decide | omega)) (by rfl) (pa_cons (pv 3) (pa_cons (pv 1) pa_nil)) pk_nil))))))), ?_⟩
      try simp only [cxK]
      rw [show L2.start N_shares_of [.ref a] = [some (.ref a), none, none, none] from rfl]
      walk_at "go"
      refine g_sumT hs ?_
      walk_at "go"
      refine g_iteD (fun h1 => ?_) (fun h1 => ?_)
      · walk_at "go"
        rw [List.length_map]
        walk_at "go"
        refine lcR (σ0 := [some (V.ref a), some (.int ns.sum), none, none]) rfl fun D hD => ⟨fun i H' => Bld K H D (partN ns) (partD ns) i H', bld0 hD, ?_, fun H' b => fin D H' hD b⟩
        rintro i H' hi b
        have hn : (partN ns)[i]? = some (if i = 0 then 1 else 0) := by
          unfold partN
          rw [if_pos h1]
          rw [List.getElem?_map, List.getElem?_range (by omega)]
          rfl
        have hd : partD ns = 1 := if_pos h1
        have step : ∀ H2 r z, Same H' H2 → Sh K H2 r (nT z 1) (nB z 1) → z = (if i = 0 then 1 else 0) → TurnD D (Bld K H D (partN ns) (partD ns) (i + 1)) (.ref r) H2 := fun H2 r z s2 g2 e => bldS hD b s2 hn ⟨by rw [hd, ← e]; exact g2, by rw [hd]; decide⟩ (by omega)
        walk_at "go"
        refine g_iteD (fun h2 => ?_) (fun h2 => ?_)
        · walk_at "go"
          refine g_share (t := 1) (b := 1) rfl rfl (fun _ => rfl) (by decide) (by decide) fun p1 H2 _ s2 g2 => ?_
          walk_at "go"
          exact step _ _ _ s2 g2 (by rw [if_pos (by omega)])
        · walk_at "go"
          refine g_share (t := 0) (b := 1) rfl rfl (fun _ => rfl) (by decide) (by decide) fun p1 H2 _ s2 g2 => ?_
          walk_at "go"
          exact step _ _ _ s2 g2 (by rw [if_neg (by omega)])
      · walk_at "go"
        refine lcT (xs := ns.map V.int) (σ0 := [some (V.ref a), some (.int ns.sum), none, none]) rfl fun D hD => ⟨fun i H' => Bld K H D (partN ns) (partD ns) i H', bld0 hD, ?_, ?_, ?_⟩
        · rintro i H' hi b
          exact seqT_same b.1 hs
        · rintro i x H' hx b
          rw [List.getElem?_map, Option.map_eq_some_iff] at hx
          obtain ⟨n, hn, rfl⟩ := hx
          have hlt := (List.getElem?_eq_some_iff.mp hn).1
          have e1 : partN ns = ns := if_neg h1
          have e2 : partD ns = ns.sum := if_neg h1
          walk_at "go"
          refine g_share (t := n) (b := ns.sum) rfl rfl (fun _ => rfl) h1 (lt_pow l2 (by decide)) fun p1 H2 _ s2 g2 => ?_
          walk_at "go"
          exact bldS hD b s2 (by rw [e1]; exact hn) ⟨by rw [e2]; exact g2, by rw [e2]; exact h1⟩ (by omega)
        · rintro H' b
          rw [List.length_map] at b
          exact fin D H' hD b
theorem c_shares (T : Top K mg) : Cal P w K mg base "shares_of" 3 P_shares_of (spShares K) := cal_mk T.f_shares_of (ok_shares T) (fun F => F.bindsN fun _ _ _ _ _ _ us hl => match us, hl with | [_], _ => rfl)
end

set_option Elab.async false
set_option linter.all false
set_option maxRecDepth 100000
set_option maxHeartbeats 4000000
set_option exponentiation.threshold 5000
open PySem PySem.Spec L2



section
variable {P : Program} {w : World} {K : PySem.W.Frag} {mg : Str → Option Value} {base : Heap}
theorem sqB_lt {k : Bool} {H : Hp} {a : Addr} {ys : List V} (h : SqB k K H a ys) : SqL K H a ys ∨ SqT K H a ys := by
  cases k
  · exact .inr h
  · exact .inl h
structure Prt (ns : List Int) (D : Int) : Prop where
  nn : ∀ n ∈ ns, 0 ≤ n
  sm : ns.sum = D
  ps : 0 < D
  lt : D.natAbs < 2 ^ 100
def minL (ns ms : List Int) (D E : Int) : List Int := List.zipWith (fun n m => min (n * E) (m * D)) ns ms
def restL (ns ms : List Int) (D E : Int) : List Int := List.zipWith (fun n m => n * E - min (n * E) (m * D)) ns ms
theorem minL_at {ns ms : List Int} {D E n m : Int} {i : Nat} (h1 : ns[i]? = some n) (h2 : ms[i]? = some m) : (minL ns ms D E)[i]? = some (min (n * E) (m * D)) := by
  unfold minL
  rw [List.getElem?_zipWith, h1, h2]
theorem restL_at {ns ms : List Int} {D E n m : Int} {i : Nat} (h1 : ns[i]? = some n) (h2 : ms[i]? = some m) : (restL ns ms D E)[i]? = some (n * E - min (n * E) (m * D)) := by
  unfold restL
  rw [List.getElem?_zipWith, h1, h2]
theorem minL_len {ns ms : List Int} {D E : Int} (h : ns.length = ms.length) : (minL ns ms D E).length = ns.length := by
  unfold minL; rw [List.length_zipWith]; omega
theorem restL_len {ns ms : List Int} {D E : Int} (h : ns.length = ms.length) : (restL ns ms D E).length = ns.length := by
  unfold restL; rw [List.length_zipWith]; omega
theorem minL_nn {D E : Int} (hD : 0 < D) (hE : 0 < E) : ∀ {ns ms : List Int}, (∀ n ∈ ns, 0 ≤ n) → (∀ n ∈ ms, 0 ≤ n) → ∀ n ∈ minL ns ms D E, 0 ≤ n
  | [], _, _, _, n, h => by simp [minL] at h
  | _ :: _, [], _, _, n, h => by simp [minL] at h
  | a :: ns, b :: ms, h1, h2, n, h => by
    have e : n ∈ min (a * E) (b * D) :: minL ns ms D E := h
    rcases List.mem_cons.mp e with e | e
    · have p1 := Int.mul_nonneg (h1 a List.mem_cons_self) (Int.le_of_lt hE)
      have p2 := Int.mul_nonneg (h2 b List.mem_cons_self) (Int.le_of_lt hD)
      rw [e]
      omega
    · exact minL_nn hD hE (fun m hm => h1 m (List.mem_cons_of_mem _ hm)) (fun m hm => h2 m (List.mem_cons_of_mem _ hm)) n e
theorem restL_nn {D E : Int} : ∀ {ns ms : List Int}, ∀ n ∈ restL ns ms D E, 0 ≤ n
  | [], _, n, h => by simp [restL] at h
  | _ :: _, [], n, h => by simp [restL] at h
  | a :: ns, b :: ms, n, h => by
    have e : n ∈ (a * E - min (a * E) (b * D)) :: restL ns ms D E := h
    rcases List.mem_cons.mp e with e | e
    · rw [e]; omega
    · exact restL_nn n e
theorem min_rest {D E : Int} : ∀ {ns ms : List Int}, ns.length = ms.length → (minL ns ms D E).sum + (restL ns ms D E).sum = ns.sum * E
  | [], [], _ => by simp [minL, restL]
  | a :: ns, b :: ms, h => by
    have e1 : minL (a :: ns) (b :: ms) D E = min (a * E) (b * D) :: minL ns ms D E := rfl
    have e2 : restL (a :: ns) (b :: ms) D E = (a * E - min (a * E) (b * D)) :: restL ns ms D E := rfl
    rw [e1, e2, List.sum_cons, List.sum_cons, List.sum_cons, Int.add_mul, ← min_rest (D := D) (E := E) (ns := ns) (ms := ms) (by simpa using h)]
    omega
  | [], _ :: _, h => by simp at h
  | _ :: _, [], h => by simp at h
section
variable {ns ms : List Int} {D E : Int}
theorem Prt.el (p : Prt ns D) {i : Nat} {n : Int} (h : ns[i]? = some n) : 0 ≤ n ∧ n.natAbs < 2 ^ 100 := by
  have h1 := el_le p.nn h
  rw [p.sm] at h1
  exact ⟨h1.1, Nat.lt_of_le_of_lt (by omega) p.lt⟩
theorem Prt.mul (p : Prt ns D) (q : Prt ms E) : 0 < D * E ∧ (D * E).natAbs < 2 ^ 200 := ⟨Int.mul_pos p.ps q.ps, mul_lt p.lt q.lt⟩
theorem Prt.mins (p : Prt ns D) (q : Prt ms E) (h : ns.length = ms.length) : (∀ n ∈ minL ns ms D E, 0 ≤ n) ∧ 0 ≤ (minL ns ms D E).sum ∧ 0 ≤ (restL ns ms D E).sum ∧ (minL ns ms D E).sum + (restL ns ms D E).sum = D * E ∧ (minL ns ms D E).sum.natAbs < 2 ^ 200 ∧ (restL ns ms D E).sum.natAbs < 2 ^ 200 := by
  have h1 := minL_nn (ns := ns) (ms := ms) p.ps q.ps p.nn q.nn
  have h2 := sum_nn h1
  have h3 := sum_nn (restL_nn (ns := ns) (ms := ms) (D := D) (E := E))
  have h4 := min_rest (D := D) (E := E) h
  rw [p.sm] at h4
  obtain ⟨h5, h6⟩ := p.mul q
  exact ⟨h1, h2, h3, h4, Nat.lt_of_le_of_lt (by omega) h6, Nat.lt_of_le_of_lt (by omega) h6⟩
end
/-- two lists or tuples of shares -/
structure Two (b c : Bool) (K : PySem.W.Frag) (H : Hp) (a e : Addr) (ns ms : List Int) (D E : Int) : Prop where
  l : ShL b K H a ns D
  r : ShL c K H e ms E
  len : ns.length = ms.length
  le : ns.length ≤ 1000
  p : Prt ns D
  q : Prt ms E
theorem Two.sm {b c : Bool} {H H' : Hp} {a e : Addr} {ns ms : List Int} {D E : Int} (h : Two b c K H a e ns ms D E) (s : Same H H') : Two b c K H' a e ns ms D E := ⟨h.l.sm s, h.r.sm s, h.len, h.le, h.p, h.q⟩
theorem Two.ne {b c : Bool} {H : Hp} {a e : Addr} {ns ms : List Int} {D E : Int} (h : Two b c K H a e ns ms D E) : D ≠ 0 ∧ E ≠ 0 := ⟨by have := h.p.ps; omega, by have := h.q.ps; omega⟩
/-- a comprehension over both -/
theorem g_zmS {g : TG} {tt : TT} {te : TE} {vs : List Nat} {σ σ0 : L2.St} {H : Hp} {Q : VK} {b c : Bool} {a e : Addr} {ns ms rs : List Int} {D E F : Int} (h1 : ShL b K H a ns D) (h2 : ShL c K H e ms E) (len : ns.length = ms.length) (le : ns.length ≤ 1000) (hr : rs.length = ns.length) (hw : wipe σ vs = σ0)
    (st : ∀ (i : Nat) (p q T Dd : Addr) (n m z : Int) (H' : Hp), ns[i]? = some n → ms[i]? = some m → rs[i]? = some z → Same H H' → H' T = some (.tup [.ref p, .ref q]) → Fq K H' p n D → Fq K H' q m E →
      ∀ (N : Hp → Prop), (∀ r H2, Same H' H2 → Fq K H2 r z F → TurnD Dd N (.ref r) H2) → Turn1 g tt te vs σ0 Dd (.ref T) H' N)
    (fin : ∀ Dd H', H Dd = none → Same H H' → ShH true K H' Dd rs F → Q (.ref Dd) H') : ZmR K [.ref a, .ref e] (fun J H1 => LcG J g tt te vs σ Q H1) H := by
  obtain ⟨ps, e1, s1, f1⟩ := h1
  obtain ⟨qs, e2, s2, f2⟩ := h2
  refine g_zm s1 s2 (lcM (by rw [List.length_map, List.length_map]; omega) hw fun Dd hD => ⟨fun i H' => Bld K H Dd rs F i H', bld0 hD, fun i H' b => ⟨sqB_same s1 b.1, sqB_same s2 b.1⟩, ?_, ?_⟩)
  · intro i x y T H' hx hy b hT
    rw [List.getElem?_map, Option.map_eq_some_iff] at hx hy
    obtain ⟨p, hp, rfl⟩ := hx
    obtain ⟨q, hq, rfl⟩ := hy
    have lp := (List.getElem?_eq_some_iff.mp hp).1
    have g1 : ns[i]? = some ns[i] := List.getElem?_eq_getElem (by omega)
    have g2 : ms[i]? = some ms[i] := List.getElem?_eq_getElem (by omega)
    have g3 : rs[i]? = some rs[i] := List.getElem?_eq_getElem (by omega)
    have s3 : Same H' (upd H' T (.tup [.ref p, .ref q])) := same_new hT
    exact st i p q T Dd _ _ _ _ g1 g2 g3 (b.1.trans s3) upd_same (((f1 i p _ hp g1).sm b.1).sm s3) (((f2 i q _ hq g2).sm b.1).sm s3) _ fun r H2 s4 f4 => bldS hD b (s3.trans s4) g3 f4 (by omega)
  · intro H' b
    exact fin Dd H' hD b.1 (b.fin (by rw [List.length_map]; omega))
theorem g_lcS {g : TG} {tt : TT} {te : TE} {vs : List Nat} {σ σ0 : L2.St} {H : Hp} {Q : VK} {a : Addr} {ns rs : List Int} {D F : Int} (h1 : ShL true K H a ns D) (le : ns.length ≤ 1000) (hr : rs.length = ns.length) (hw : wipe σ vs = σ0)
    (st : ∀ (i : Nat) (p Dd : Addr) (n z : Int) (H' : Hp), ns[i]? = some n → rs[i]? = some z → Same H H' → Fq K H' p n D →
      ∀ (N : Hp → Prop), (∀ r H2, Same H' H2 → Fq K H2 r z F → TurnD Dd N (.ref r) H2) → Turn1 g tt te vs σ0 Dd (.ref p) H' N)
    (fin : ∀ Dd H', H Dd = none → Same H H' → ShH true K H' Dd rs F → Q (.ref Dd) H') : LstR K (.ref a) (fun J H1 => LcG J g tt te vs σ Q H1) H := by
  obtain ⟨ps, e1, s1, f1⟩ := h1
  have s1 : SqL K H a (ps.map V.ref) := s1
  refine g_lstR s1 (lcL (xs := ps.map V.ref) hw fun Dd hD => ⟨fun i H' => Bld K H Dd rs F i H', bld0 hD, fun i H' _ b => b.1.seq s1, ?_, ?_⟩)
  · intro i x H' hx b
    rw [List.getElem?_map, Option.map_eq_some_iff] at hx
    obtain ⟨p, hp, rfl⟩ := hx
    have lp := (List.getElem?_eq_some_iff.mp hp).1
    have g1 : ns[i]? = some ns[i] := List.getElem?_eq_getElem (by omega)
    have g3 : rs[i]? = some rs[i] := List.getElem?_eq_getElem (by omega)
    exact st i p Dd _ _ _ g1 g3 b.1 ((f1 i p _ hp g1).sm b.1) _ fun r H2 s4 f4 => bldS hD b s4 g3 f4 (by omega)
  · intro H' b
    exact fin Dd H' hD b.1 (b.fin (by rw [List.length_map]; omega))
/-! kept_share -/
def spKept (K : PySem.W.Frag) : Sp := fun vs H Q _ => ∃ (b c : Bool) (a e : Addr) (ns ms : List Int) (D E : Int), vs = [.ref a, .ref e] ∧ Two b c K H a e ns ms D E ∧ ∀ r H', Same H H' → Fq K H' r (minL ns ms D E).sum (D * E) → Q (.ref r) H'
theorem ok_kept (T : Top K mg) {f : Addr} {fd : FuncData} (F : FnP K "kept_share" s_kept_share f fd) : FnOk P w K mg base CX0 5 f fd P_kept_share (spKept K) := by
  have cl_Share := T.cl_Share; have na_Share_top := T.na_Share_top; have na_Share_bottom := T.na_Share_bottom; have in_Share := T.in_Share; have ki_o_Share_o_Share := T.ki_o_Share_o_Share; have ki_int_o_Share := T.ki_int_o_Share; have ki_bool_o_Share := T.ki_bool_o_Share; have ki_NoneType_o_Share := T.ki_NoneType_o_Share; have ki_str_o_Share := T.ki_str_o_Share; have ki_list_o_Share := T.ki_list_o_Share; have ki_tuple_o_Share := T.ki_tuple_o_Share; have nf_Share_o_Share := T.nf_Share_o_Share; have nf_Share_int := T.nf_Share_int; have nf_Share_bool := T.nf_Share_bool; have nf_Share_NoneType := T.nf_Share_NoneType; have nf_Share_str := T.nf_Share_str; have nf_Share_list := T.nf_Share_list; have nf_Share_tuple := T.nf_Share_tuple; have ne_Share := T.ne_Share
  have C__sum_of := c_sum (P := P) (w := w) (base := base) T
  have C__lesser := c_less (P := P) (w := w) (base := base) T
  refine F.ok sc_kept_share (fun vs H Q E h => ?_) (fun cdv A outer s H vs Q E hr h => ?_)
  · obtain ⟨b, c, a, e, ns, ms, D, E, rfl, _⟩ := h
    rfl
  · obtain ⟨b, c, a, e, ns, ms, D, E, rfl, h2, k⟩ := h
    refine ⟨_, PSs.nox (pss_one (ps_ret (pe_cal C__sum_of (hr.mono (by first | decide | omega)) (by rfl) (pa_cons (pe_lc (own := [("one", 2), ("other", 3)]) (g := gTup K 2 (gCons (gName 2) (gCons (gName 3) gNil))) (by rfl) sc_kept_share.nd (k_zm (K := K) (by rfl) (by rfl) T.z_zip (pa_cons (pv 0) (pa_cons (pv 1) pa_nil))) (blkOk_by (own := [("one", 2), ("other", 3)]) (N := N_kept_share) (sc := defScope s_kept_share) (by decide +kernel)) (fun _ _ _ _ _ => (k_pgt (K := K) (n := 2) (by rfl) (by rfl) (pgs_cons (pg_name (i := 2) sc_kept_share.nd rfl (Or.inl rfl)) (pgs_cons (pg_name (i := 3) sc_kept_share.nd rfl (Or.inl rfl)) pgs_nil)) (by rfl) (by rfl))) (fun _ _ _ _ _ => pts_nil) (fun _ _ _ _ _ => (pe_cal C__lesser (hr.mono (by first | decide | omega)) (by rfl) (pa_cons (pv 2) (pa_cons (pv 3) pa_nil))))) pa_nil)))), ?_⟩
    try simp only [cxK]
    rw [show L2.start N_kept_share [.ref a, .ref e] = [some (.ref a), some (.ref e), none, none] from rfl]
    have rr := h2.p.mul h2.q
    have mm := h2.p.mins h2.q h2.len
    walk_at "go"
    refine g_zmS (rs := minL ns ms D E) (F := D * E) (σ0 := [some (.ref a), some (.ref e), none, none]) h2.l h2.r h2.len h2.le (minL_len h2.len) rfl ?_ ?_
    · intro i p q T Dd n m z H' g1 g2 g3 s1 hT f1 f2 N nx
      have e3 : z = min (n * E) (m * D) := by
        rw [minL_at g1 g2] at g3
        exact (Option.some.inj g3).symm
      walk_at "go"
      refine g_less f1 f2 ⟨h2.p.ps, h2.q.ps⟩ ⟨lt_pow (h2.p.el g1).2 (by decide), lt_pow h2.p.lt (by decide), lt_pow (h2.q.el g2).2 (by decide), lt_pow h2.q.lt (by decide)⟩ fun r f3 => ?_
      walk_at "go"
      exact nx r _ (fun _ _ h => h) (by rw [e3]; exact f3)
    · intro Dd H' hD s1 sl
      walk_at "go"
      exact ⟨Dd, _, _, rfl, sl.l, mm.1, lt_pow mm.2.2.2.2.1 (by decide), lt_pow rr.2 (by decide), by omega, fun r H2 s2 f2 => k r H2 (s1.trans s2) f2⟩
theorem c_kept (T : Top K mg) : Cal P w K mg base "kept_share" 5 P_kept_share (spKept K) := cal_mk T.f_kept_share (ok_kept T) (fun F => F.bindsN fun _ _ _ _ _ _ us hl => match us, hl with | [_, _], _ => rfl)
theorem g_kept {H : Hp} {Q : VK} {X : XK} {b c : Bool} {a e : Addr} {ns ms : List Int} {D E : Int} (h : Two b c K H a e ns ms D E) (k : ∀ r H', Same H H' → Fq K H' r (minL ns ms D E).sum (D * E) → Q (.ref r) H') : spKept K [.ref a, .ref e] H Q X := ⟨b, c, a, e, ns, ms, D, E, rfl, h, k⟩
end

set_option Elab.async false
set_option linter.all false
set_option maxRecDepth 100000
set_option maxHeartbeats 4000000
set_option exponentiation.threshold 5000
open PySem PySem.Spec L2



section
variable {P : Program} {w : World} {K : PySem.W.Frag} {mg : Str → Option Value} {base : Heap}
theorem fq_one {H : Hp} {p : Addr} (g : Sh K H p (nT 1 1) (nB 1 1)) : Fq K H p 1 1 := ⟨g, by decide⟩
theorem min_lt {a b : Int} {k : Nat} (h1 : a.natAbs < 2 ^ k) (h2 : b.natAbs < 2 ^ k) : (min a b).natAbs < 2 ^ k := by
  rcases Int.le_total a b with h | h
  · rw [Int.min_eq_left h]; exact h1
  · rw [Int.min_eq_right h]; exact h2
theorem rep_flat (n : Nat) (x : V) : (List.replicate ((n : Int)).toNat [x]).flatten = List.replicate n x := by
  rw [Int.toNat_natCast]
  induction n with
  | zero => rfl
  | succ n ih => rw [List.replicate_succ, List.replicate_succ, List.flatten_cons, ih]; rfl
/-! rest_shares -/
def spRest (K : PySem.W.Frag) : Sp := fun vs H Q _ => ∃ (b c : Bool) (a e : Addr) (ns ms : List Int) (D E : Int), vs = [.ref a, .ref e] ∧ Two b c K H a e ns ms D E ∧
  ((restL ns ms D E).sum = 0 → ∀ H', Same H H' → Q .non H') ∧ ((restL ns ms D E).sum ≠ 0 → ∀ r H', H r = none → Same H H' → ShH true K H' r (restL ns ms D E) (restL ns ms D E).sum → Q (.ref r) H')
theorem ok_rest (T : Top K mg) {f : Addr} {fd : FuncData} (F : FnP K "rest_shares" s_rest_shares f fd) : FnOk P w K mg base CX0 6 f fd P_rest_shares (spRest K) := by
  have cl_Share := T.cl_Share; have na_Share_top := T.na_Share_top; have na_Share_bottom := T.na_Share_bottom; have in_Share := T.in_Share; have ki_o_Share_o_Share := T.ki_o_Share_o_Share; have ki_int_o_Share := T.ki_int_o_Share; have ki_bool_o_Share := T.ki_bool_o_Share; have ki_NoneType_o_Share := T.ki_NoneType_o_Share; have ki_str_o_Share := T.ki_str_o_Share; have ki_list_o_Share := T.ki_list_o_Share; have ki_tuple_o_Share := T.ki_tuple_o_Share; have nf_Share_o_Share := T.nf_Share_o_Share; have nf_Share_int := T.nf_Share_int; have nf_Share_bool := T.nf_Share_bool; have nf_Share_NoneType := T.nf_Share_NoneType; have nf_Share_str := T.nf_Share_str; have nf_Share_list := T.nf_Share_list; have nf_Share_tuple := T.nf_Share_tuple; have ne_Share := T.ne_Share
  have C__sum_of := c_sum (P := P) (w := w) (base := base) T
  have C__lesser := c_less (P := P) (w := w) (base := base) T
  have C_kept_share := c_kept (P := P) (w := w) (base := base) T
  have KK_Share_1_ := kk_Share_1_ (P := P) (w := w) (base := base) T
  have MC_Share___eq__ := mc_Share___eq__ (P := P) (w := w) (base := base) T
  have MC_Share___sub__ := mc_Share___sub__ (P := P) (w := w) (base := base) T
  have MC_Share_over := mc_Share_over (P := P) (w := w) (base := base) T
  refine F.ok sc_rest_shares (fun vs H Q E h => ?_) (fun cdv A outer s H vs Q E hr h => ?_)
  · obtain ⟨b, c, a, e, ns, ms, D, E, rfl, _⟩ := h
    rfl
  · obtain ⟨b, c, a, e, ns, ms, D, E, rfl, h2, k1, k2⟩ := h
    refine ⟨_, PSs.nox (pss_cons (ps_if (pt_cmpR (k_ownEq (K := K) (by rfl) MC_Share___eq__ (hr.mono (by first | decide | omega))) (pe_cal C_kept_share (hr.mono (by first | decide | omega)) (by rfl) (pa_cons (pv 0) (pa_cons (pv 1) pa_nil))) (pe_mkk T.g_Share KK_Share_1_ (hr.mono (by first | decide | omega)) (by rfl) (pa_cons pe_int pa_nil) pk_nil) (nomark _))
    (pss_one (ps_ret pe_non))
    pss_nil)
    (pss_cons (ps_setLc (i := 2) (own := [("one", 3), ("other", 4)]) (g := gTup K 2 (gCons (gName 3) (gCons (gName 4) gNil))) (by rfl) sc_rest_shares.nd rfl rfl (sw_true rfl rfl rfl (by decide +kernel)) (k_zm (K := K) (by rfl) (by rfl) T.z_zip (pa_cons (pv 0) (pa_cons (pv 1) pa_nil))) (blkOk_by (own := [("one", 3), ("other", 4)]) (N := N_rest_shares) (sc := defScope s_rest_shares) (by decide +kernel)) (fun _ _ _ _ _ => (k_pgt (K := K) (n := 2) (by rfl) (by rfl) (pgs_cons (pg_name (i := 3) sc_rest_shares.nd rfl (Or.inl rfl)) (pgs_cons (pg_name (i := 4) sc_rest_shares.nd rfl (Or.inl rfl)) pgs_nil)) (by rfl) (by rfl))) (fun _ _ _ _ _ => pts_nil) (fun _ _ _ _ _ => (pe_op (op_ownBin (by rfl) T.in_Share.sf MC_Share___sub__ (hr.mono (by first | decide | omega))) (pv 3) (pe_cal C__lesser (hr.mono (by first | decide | omega)) (by rfl) (pa_cons (pv 3) (pa_cons (pv 4) pa_nil))))))
    (pss_cons (ps_set (i := 5) sc_rest_shares.nd rfl (by first | exact Or.inl rfl | exact Or.inr rfl) (pe_cal C__sum_of (hr.mono (by first | decide | omega)) (by rfl) (pa_cons (pv 2) pa_nil)))
    (pss_one (ps_ret (pe_lc (own := [("difference", 6)]) (g := gName 6) (by rfl) sc_rest_shares.nd (k_pil (K := K) (by rfl) (pv 2)) (blkOk_by (own := [("difference", 6)]) (N := N_rest_shares) (sc := defScope s_rest_shares) (by decide +kernel)) (fun _ _ _ _ _ => pg_name (i := 6) sc_rest_shares.nd rfl (by first | exact Or.inl rfl | exact Or.inr rfl)) (fun _ _ _ _ _ => pts_nil) (fun _ _ _ _ _ => (pe_mcal (pv 6) T.cl_Share MC_Share_over (hr.mono (by first | decide | omega)) (pa_cons (pv 5) pa_nil))))))))), ?_⟩
    try simp only [cxK]
    rw [show L2.start N_rest_shares [.ref a, .ref e] = [some (.ref a), some (.ref e), none, none, none, none, none] from rfl]
    have rr := h2.p.mul h2.q
    have mm := h2.p.mins h2.q h2.len
    walk_at "go"
    refine g_kept h2 fun r1 H1 s1 f1 => ?_
    have h2 := h2.sm s1
    walk_at "go"
    refine g_share (t := 1) (b := 1) rfl rfl (fun _ => rfl) (by decide) (by decide) fun r2 H2 _ s2 g2 => ?_
    have h2 := h2.sm s2
    have f1 := f1.sm s2
    have s3 := s1.trans s2
    walk_at "go"
    refine g_eqF in_Share cl_Share nf_Share_o_Share f1 (fq_one g2) ?_
    walk_at "go"
    refine g_iteD (fun h1 => ?_) (fun h1 => ?_)
    · walk_at "go"
      exact k1 (by omega) _ s3
    clear f1 g2 s1 s2
    have nz : (restL ns ms D E).sum ≠ 0 := by omega
    walk_at "go"
    refine g_zmS (rs := restL ns ms D E) (F := D * E) (σ0 := [some (.ref a), some (.ref e), none, none, none, none, none]) h2.l h2.r h2.len h2.le (restL_len h2.len) rfl ?_ ?_
    · intro i p q T Dd n m z H' g1 g2 g3 s1 hT f1 f2 N nx
      have e3 : z = n * E - min (n * E) (m * D) := by
        rw [restL_at g1 g2] at g3
        exact (Option.some.inj g3).symm
      have bn := h2.p.el g1
      have bm := h2.q.el g2
      walk_at "go"
      refine g_less f1 f2 ⟨h2.p.ps, h2.q.ps⟩ ⟨lt_pow bn.2 (by decide), lt_pow h2.p.lt (by decide), lt_pow bm.2 (by decide), lt_pow h2.q.lt (by decide)⟩ fun r f3 => ?_
      obtain ⟨dx, hp⟩ := f1.sh
      obtain ⟨dy, hq⟩ := f3.sh
      have b3 := min_lt (mul_lt bn.2 h2.q.lt) (mul_lt bm.2 h2.p.lt)
      walk_at "go"
      refine g_subF f1 f3 ⟨lt_pow bn.2 (by decide), lt_pow h2.p.lt (by decide), lt_pow b3 (by decide), lt_pow rr.2 (by decide)⟩ fun r2 H3 s2 f4 => ?_
      walk_at "go"
      refine nx r2 _ s2 (f4.re ?_ (by omega))
      rw [e3]
      generalize min (n * E) (m * D) = u
      grind
    · intro Dd H' hD s1 sl
      have bR : (restL ns ms D E).sum.natAbs < 2 ^ 200 := mm.2.2.2.2.2
      walk_at "go"
      refine ⟨Dd, _, _, rfl, sl.l, restL_nn, lt_pow bR (by decide), lt_pow rr.2 (by decide), by omega, fun r3 H3 s4 f4 => ?_⟩
      have sl := sl.l.sm s4
      have hD3 := s3.free hD
      walk_at "go"
      refine g_lcS (rs := restL ns ms D E) (F := (restL ns ms D E).sum) (σ0 := [some (.ref a), some (.ref e), some (.ref Dd), none, none, some (.ref r3), none]) sl (by rw [restL_len h2.len]; exact h2.le) rfl rfl ?_ ?_
      · intro i p Dd2 n z H4 g1 g3 s5 f5 N nx
        have e3 : n = z := by
          rw [g1] at g3
          exact Option.some.inj g3
        subst e3
        have f6 := f4.sm s5
        have bn := el_le restL_nn g1
        obtain ⟨dx, hp⟩ := f5.sh
        walk_at "go"
        refine g_overF f5 f6 nz ⟨lt_pow (b := 900) (Nat.lt_of_le_of_lt (by omega) bR) (by decide), lt_pow rr.2 (by decide), lt_pow bR (by decide), lt_pow rr.2 (by decide)⟩ fun r2 H5 s6 f7 => ?_
        walk_at "go"
        exact nx r2 _ s6 (f7.re (by grind) nz)
      · intro Dd2 H4 hD2 s5 sl2
        have s6 := ((s3.trans s1).trans s4).trans s5
        exact k2 nz Dd2 _ (((s3.trans s1).trans s4).free hD2) s6 sl2
theorem c_rest (T : Top K mg) : Cal P w K mg base "rest_shares" 6 P_rest_shares (spRest K) := cal_mk T.f_rest_shares (ok_rest T) (fun F => F.bindsN fun _ _ _ _ _ _ us hl => match us, hl with | [_, _], _ => rfl)
/-! _kept_chance -/
def spKC (K : PySem.W.Frag) : Sp := fun vs H Q _ => ∃ (p q : Addr) (n m D E : Int), vs = [.ref p, .ref q] ∧ Fq K H p n D ∧ Fq K H q m E ∧ (0 < D ∧ 0 < E ∧ 0 ≤ n ∧ 0 ≤ m) ∧ (n.natAbs < 2 ^ 100 ∧ D.natAbs < 2 ^ 100 ∧ m.natAbs < 2 ^ 100 ∧ E.natAbs < 2 ^ 100) ∧
  ∀ r H', Same H H' → Fq K H' r (min (n * E) (m * D)) (D * E) → Q (.ref r) H'
theorem ok_kc (T : Top K mg) {f : Addr} {fd : FuncData} (F : FnP K "_kept_chance" s__kept_chance f fd) : FnOk P w K mg base CX0 4 f fd P__kept_chance (spKC K) := by
  have cl_Share := T.cl_Share; have na_Share_top := T.na_Share_top; have na_Share_bottom := T.na_Share_bottom; have in_Share := T.in_Share; have ki_o_Share_o_Share := T.ki_o_Share_o_Share; have ki_int_o_Share := T.ki_int_o_Share; have ki_bool_o_Share := T.ki_bool_o_Share; have ki_NoneType_o_Share := T.ki_NoneType_o_Share; have ki_str_o_Share := T.ki_str_o_Share; have ki_list_o_Share := T.ki_list_o_Share; have ki_tuple_o_Share := T.ki_tuple_o_Share; have nf_Share_o_Share := T.nf_Share_o_Share; have nf_Share_int := T.nf_Share_int; have nf_Share_bool := T.nf_Share_bool; have nf_Share_NoneType := T.nf_Share_NoneType; have nf_Share_str := T.nf_Share_str; have nf_Share_list := T.nf_Share_list; have nf_Share_tuple := T.nf_Share_tuple; have ne_Share := T.ne_Share
  have C__lesser := c_less (P := P) (w := w) (base := base) T
  have KK_Share_1_ := kk_Share_1_ (P := P) (w := w) (base := base) T
  have MC_Share___bool__ := mc_Share___bool__ (P := P) (w := w) (base := base) T
  have MC_Share___mul__ := mc_Share___mul__ (P := P) (w := w) (base := base) T
  have MC_Share_over := mc_Share_over (P := P) (w := w) (base := base) T
  refine F.ok sc__kept_chance (fun vs H Q E h => ?_) (fun cdv A outer s H vs Q E hr h => ?_)
  · obtain ⟨p, q, n, m, D, E, rfl, _⟩ := h
    rfl
  · obtain ⟨p, q, n, m, D, E, rfl, f1, f2, ⟨z1, z2, z3, z4⟩, ⟨l1, l2, l3, l4⟩, k⟩ := h
    refine ⟨_, PSs.nox (pss_cons (ps_if (pt_not (pt_ownBool (pv 1) MC_Share___bool__ (hr.mono (by first | decide | omega)) (by intro _; rfl)))
    (pss_one (ps_ret (pe_mkk T.g_Share KK_Share_1_ (hr.mono (by first | decide | omega)) (by rfl) (pa_cons pe_int pa_nil) pk_nil)))
    pss_nil)
    (pss_one (ps_ret (pe_op (op_ownBin (by rfl) T.in_Share.sf MC_Share___mul__ (hr.mono (by first | decide | omega))) (pv 1) (pe_cal C__lesser (hr.mono (by first | decide | omega)) (by rfl) (pa_cons (pe_mcal (pv 0) T.cl_Share MC_Share_over (hr.mono (by first | decide | omega)) (pa_cons (pv 1) pa_nil)) (pa_cons (pe_mkk T.g_Share KK_Share_1_ (hr.mono (by first | decide | omega)) (by rfl) (pa_cons pe_int pa_nil) pk_nil) pa_nil))))))), ?_⟩
    try simp only [cxK]
    rw [show L2.start N__kept_chance [.ref p, .ref q] = [some (.ref p), some (.ref q)] from rfl]
    obtain ⟨dx, hp⟩ := f1.sh
    obtain ⟨dy, hq⟩ := f2.sh
    have nz : D * E ≠ 0 := by have := Int.mul_pos z1 z2; omega
    walk_at "go"
    refine ⟨q, dy, _, rfl, hq, q, _, _, rfl, f2.sh, _, rfl, ?_⟩
    have e0 : (!!decide (nT m E = 0)) = decide (m = 0) := by
      rw [Bool.not_not]
      exact decide_eq_decide.mpr (rep_zero f2.rep)
    show if (!!decide (nT m E = 0)) = true then _ else _
    rw [e0]
    refine g_iteD (fun h0 => ?_) (fun h0 => ?_)
    · walk_at "go"
      refine g_share (t := 0) (b := 1) rfl rfl (fun _ => rfl) (by decide) (by decide) fun r H' _ s g => ?_
      refine k r H' s (Fq.re (n := 0) (d := 1) ⟨g, by decide⟩ ?_ nz)
      subst h0
      have := Int.mul_nonneg z3 (Int.le_of_lt z2)
      rw [Int.zero_mul, Int.zero_mul, Int.min_eq_right this, Int.zero_mul]
    · have hm : 0 < m := by omega
      walk_at "go"
      refine g_overF f1 f2 h0 ⟨lt_pow l1 (by decide), lt_pow l2 (by decide), lt_pow l3 (by decide), lt_pow l4 (by decide)⟩ fun r1 H1 s1 g1 => ?_
      walk_at "go"
      refine g_share (t := 1) (b := 1) rfl rfl (fun _ => rfl) (by decide) (by decide) fun r2 H2 _ s2 g2 => ?_
      have g1 := g1.sm s2
      walk_at "go"
      refine g_less g1 (fq_one g2) ⟨Int.mul_pos z1 hm, by decide⟩ ⟨lt_pow (mul_lt l1 l4) (by decide), lt_pow (mul_lt l2 l3) (by decide), by decide, by decide⟩ fun r3 g3 => ?_
      have e1 : min (n * E * 1) (1 * (D * m)) = min (n * E) (m * D) := by rw [Int.mul_one, Int.one_mul, Int.mul_comm D m]
      rw [e1, Int.mul_one] at g3
      have f2 := (f2.sm s1).sm s2
      have b3 := min_lt (mul_lt l1 l4) (mul_lt l3 l2)
      obtain ⟨dy, hq⟩ := f2.sh
      obtain ⟨dx, hp⟩ := g3.sh
      walk_at "go"
      refine g_mulF f2 g3 ⟨lt_pow l3 (by decide), lt_pow l4 (by decide), lt_pow b3 (by decide), lt_pow (mul_lt l2 l3) (by decide)⟩ fun r4 H4 s4 g4 => ?_
      refine k r4 _ ((s1.trans s2).trans s4) (g4.re ?_ nz)
      generalize min (n * E) (m * D) = u
      grind
theorem c_kc (T : Top K mg) : Cal P w K mg base "_kept_chance" 4 P__kept_chance (spKC K) := cal_mk T.f__kept_chance (ok_kc T) (fun F => F.bindsN fun _ _ _ _ _ _ us hl => match us, hl with | [_, _], _ => rfl)
/-! _kept_chances_of -/
def spKCs (K : PySem.W.Frag) : Sp := fun vs H Q _ => ∃ (b c : Bool) (a e : Addr) (ns ms : List Int) (D E : Int), vs = [.ref a, .ref e] ∧ Two b c K H a e ns ms D E ∧ ∀ r H', H r = none → Same H H' → ShL true K H' r (minL ns ms D E) (D * E) → Q (.ref r) H'
theorem ok_kcs (T : Top K mg) {f : Addr} {fd : FuncData} (F : FnP K "_kept_chances_of" s__kept_chances_of f fd) : FnOk P w K mg base CX0 5 f fd P__kept_chances_of (spKCs K) := by
  have cl_Share := T.cl_Share; have na_Share_top := T.na_Share_top; have na_Share_bottom := T.na_Share_bottom; have in_Share := T.in_Share; have ki_o_Share_o_Share := T.ki_o_Share_o_Share; have ki_int_o_Share := T.ki_int_o_Share; have ki_bool_o_Share := T.ki_bool_o_Share; have ki_NoneType_o_Share := T.ki_NoneType_o_Share; have ki_str_o_Share := T.ki_str_o_Share; have ki_list_o_Share := T.ki_list_o_Share; have ki_tuple_o_Share := T.ki_tuple_o_Share; have nf_Share_o_Share := T.nf_Share_o_Share; have nf_Share_int := T.nf_Share_int; have nf_Share_bool := T.nf_Share_bool; have nf_Share_NoneType := T.nf_Share_NoneType; have nf_Share_str := T.nf_Share_str; have nf_Share_list := T.nf_Share_list; have nf_Share_tuple := T.nf_Share_tuple; have ne_Share := T.ne_Share
  have C__kept_chance := c_kc (P := P) (w := w) (base := base) T
  refine F.ok sc__kept_chances_of (fun vs H Q E h => ?_) (fun cdv A outer s H vs Q E hr h => ?_)
  · obtain ⟨b, c, a, e, ns, ms, D, E, rfl, _⟩ := h
    rfl
  · obtain ⟨b, c, a, e, ns, ms, D, E, rfl, h2, k⟩ := h
    refine ⟨_, PSs.nox (pss_one (ps_ret (pe_lc (own := [("one", 2), ("other", 3)]) (g := gTup K 2 (gCons (gName 2) (gCons (gName 3) gNil))) (by rfl) sc__kept_chances_of.nd (k_zm (K := K) (by rfl) (by rfl) T.z_zip (pa_cons (pv 0) (pa_cons (pv 1) pa_nil))) (blkOk_by (own := [("one", 2), ("other", 3)]) (N := N__kept_chances_of) (sc := defScope s__kept_chances_of) (by decide +kernel)) (fun _ _ _ _ _ => (k_pgt (K := K) (n := 2) (by rfl) (by rfl) (pgs_cons (pg_name (i := 2) sc__kept_chances_of.nd rfl (Or.inl rfl)) (pgs_cons (pg_name (i := 3) sc__kept_chances_of.nd rfl (Or.inl rfl)) pgs_nil)) (by rfl) (by rfl))) (fun _ _ _ _ _ => pts_nil) (fun _ _ _ _ _ => (pe_cal C__kept_chance (hr.mono (by first | decide | omega)) (by rfl) (pa_cons (pv 2) (pa_cons (pv 3) pa_nil))))))), ?_⟩
    try simp only [cxK]
    rw [show L2.start N__kept_chances_of [.ref a, .ref e] = [some (.ref a), some (.ref e), none, none] from rfl]
    walk_at "go"
    refine g_zmS (rs := minL ns ms D E) (F := D * E) (σ0 := [some (.ref a), some (.ref e), none, none]) h2.l h2.r h2.len h2.le (minL_len h2.len) rfl ?_ ?_
    · intro i p q T Dd n m z H' g1 g2 g3 s1 hT f1 f2 N nx
      have e3 : z = min (n * E) (m * D) := by
        rw [minL_at g1 g2] at g3
        exact (Option.some.inj g3).symm
      have bn := h2.p.el g1
      have bm := h2.q.el g2
      walk_at "go"
      refine ⟨p, q, n, m, D, E, rfl, f1, f2, ⟨h2.p.ps, h2.q.ps, bn.1, bm.1⟩, ⟨bn.2, h2.p.lt, bm.2, h2.q.lt⟩, fun r H2 s2 f3 => ?_⟩
      walk_at "go"
      exact nx r _ s2 (by rw [e3]; exact f3)
    · intro Dd H' hD s1 sl
      exact k Dd H' hD s1 sl.l
theorem c_kcs (T : Top K mg) : Cal P w K mg base "_kept_chances_of" 5 P__kept_chances_of (spKCs K) := cal_mk T.f__kept_chances_of (ok_kcs T) (fun F => F.bindsN fun _ _ _ _ _ _ us hl => match us, hl with | [_, _], _ => rfl)
/-! _instead_chances_of -/
def spInst (K : PySem.W.Frag) : Sp := fun vs H Q _ => ∃ (b c : Bool) (a e : Addr) (ns ms : List Int) (D E : Int), vs = [.ref a, .ref e] ∧ Two b c K H a e ns ms D E ∧ ∀ r H', H r = none → Same H H' → ShL true K H' r (restL ns ms D E) (D * E) → Q (.ref r) H'
theorem ok_inst (T : Top K mg) {f : Addr} {fd : FuncData} (F : FnP K "_instead_chances_of" s__instead_chances_of f fd) : FnOk P w K mg base CX0 7 f fd P__instead_chances_of (spInst K) := by
  have cl_Share := T.cl_Share; have na_Share_top := T.na_Share_top; have na_Share_bottom := T.na_Share_bottom; have in_Share := T.in_Share; have ki_o_Share_o_Share := T.ki_o_Share_o_Share; have ki_int_o_Share := T.ki_int_o_Share; have ki_bool_o_Share := T.ki_bool_o_Share; have ki_NoneType_o_Share := T.ki_NoneType_o_Share; have ki_str_o_Share := T.ki_str_o_Share; have ki_list_o_Share := T.ki_list_o_Share; have ki_tuple_o_Share := T.ki_tuple_o_Share; have nf_Share_o_Share := T.nf_Share_o_Share; have nf_Share_int := T.nf_Share_int; have nf_Share_bool := T.nf_Share_bool; have nf_Share_NoneType := T.nf_Share_NoneType; have nf_Share_str := T.nf_Share_str; have nf_Share_list := T.nf_Share_list; have nf_Share_tuple := T.nf_Share_tuple; have ne_Share := T.ne_Share
  have C_rest_shares := c_rest (P := P) (w := w) (base := base) T
  have C_kept_share := c_kept (P := P) (w := w) (base := base) T
  have KK_Share_1_ := kk_Share_1_ (P := P) (w := w) (base := base) T
  have MC_Share___sub__ := mc_Share___sub__ (P := P) (w := w) (base := base) T
  have MC_Share___mul__ := mc_Share___mul__ (P := P) (w := w) (base := base) T
  refine F.ok sc__instead_chances_of (fun vs H Q E h => ?_) (fun cdv A outer s H vs Q E hr h => ?_)
  · obtain ⟨b, c, a, e, ns, ms, D, E, rfl, _⟩ := h
    rfl
  · obtain ⟨b, c, a, e, ns, ms, D, E, rfl, h2, k⟩ := h
    refine ⟨_, PSs.nox (pss_cons (ps_set (i := 2) sc__instead_chances_of.nd rfl (by first | exact Or.inl rfl | exact Or.inr rfl) (pe_cal C_rest_shares (hr.mono (by first | decide | omega)) (by rfl) (pa_cons (pv 0) (pa_cons (pv 1) pa_nil))))
    (pss_cons (ps_if (pt_cmpR o_isN (pv 2) pe_non (nomark _))
    (pss_one (ps_ret (pe_op op_rep (pe_lst (pa_cons (pe_mkk T.g_Share KK_Share_1_ (hr.mono (by first | decide | omega)) (by rfl) (pa_cons pe_int pa_nil) pk_nil) pa_nil)) (pe_callB (k_len (K := K) (by rfl)) (by rfl) T.z_len (by decide +kernel) (pa_cons (pv 0) pa_nil)))))
    pss_nil)
    (pss_cons (ps_set (i := 3) sc__instead_chances_of.nd rfl (by first | exact Or.inl rfl | exact Or.inr rfl) (pe_op (op_ownBin (by rfl) T.in_Share.sf MC_Share___sub__ (hr.mono (by first | decide | omega))) (pe_mkk T.g_Share KK_Share_1_ (hr.mono (by first | decide | omega)) (by rfl) (pa_cons pe_int pa_nil) pk_nil) (pe_cal C_kept_share (hr.mono (by first | decide | omega)) (by rfl) (pa_cons (pv 0) (pa_cons (pv 1) pa_nil)))))
    (pss_one (ps_ret (pe_lc (own := [("share", 4)]) (g := gName 4) (by rfl) sc__instead_chances_of.nd (k_pil (K := K) (by rfl) (pv 2)) (blkOk_by (own := [("share", 4)]) (N := N__instead_chances_of) (sc := defScope s__instead_chances_of) (by decide +kernel)) (fun _ _ _ _ _ => pg_name (i := 4) sc__instead_chances_of.nd rfl (by first | exact Or.inl rfl | exact Or.inr rfl)) (fun _ _ _ _ _ => pts_nil) (fun _ _ _ _ _ => (pe_op (op_ownBin (by rfl) T.in_Share.sf MC_Share___mul__ (hr.mono (by first | decide | omega))) (pv 3) (pv 4))))))))), ?_⟩
    try simp only [cxK]
    rw [show L2.start N__instead_chances_of [.ref a, .ref e] = [some (.ref a), some (.ref e), none, none, none] from rfl]
    have rr := h2.p.mul h2.q
    have mm := h2.p.mins h2.q h2.len
    walk_at "go"
    refine ⟨b, c, a, e, ns, ms, D, E, rfl, h2, fun z H1 s1 => ?_, fun z r H1 hn s1 sl => ?_⟩
    · have h3 := h2.sm s1
      walk_at "go"
      refine g_share (t := 0) (b := 1) rfl rfl (fun _ => rfl) (by decide) (by decide) fun r1 H2 _ s2 g2 => ?_
      have h3 := h3.sm s2
      walk_at "go"
      rename_i p2 hp2
      have s3 := same_new hp2 (o := .lst [V.ref r1])
      obtain ⟨ps, e1, sq, fs⟩ := (h3.sm s3).l
      refine g_len (sqB_lt sq) ?_
      rw [List.length_map, e1]
      refine ⟨p2, ns.length, _, rfl, rfl, upd_same, by omega, by have := h2.le; omega, ?_, fun p3 hp3 => ?_⟩
      · refine Nat.le_trans (m := 1000) ?_ (by decide)
        have := h2.le
        simpa using this
      have s4 := same_new hp3 (o := .lst (List.replicate ((ns.length : Int)).toNat [V.ref r1]).flatten)
      have s5 := (s1.trans s2).trans s3
      refine k p3 _ (s5.free hp3) (s5.trans s4) ⟨List.replicate ns.length r1, by rw [List.length_replicate, restL_len h2.len], ?_, ?_⟩
      · rw [show (List.replicate ns.length r1).map V.ref = (List.replicate ((ns.length : Int)).toNat [V.ref r1]).flatten from (rep_flat ns.length (V.ref r1)).symm ▸ List.map_replicate]
        exact SqL.of upd_same
      · intro i p n' g1 g2'
        have e3 : p = r1 := by
          have := List.mem_of_getElem? g1
          exact (List.mem_replicate.mp this).2
        subst e3
        have b0 := el_le restL_nn g2'
        have e4 : n' = 0 := by omega
        subst e4
        have f0 : Fq K H2 p 0 1 := ⟨g2, by decide⟩
        exact ((f0.sm s3).sm s4).re (by omega) (by omega)
    · have h3 := h2.sm s1
      walk_at "go"
      refine g_share (t := 1) (b := 1) rfl rfl (fun _ => rfl) (by decide) (by decide) fun r1 H2 _ s2 g2 => ?_
      have h3 := h3.sm s2
      have sl := sl.l.sm s2
      walk_at "go"
      refine g_kept h3 fun r2 H3 s3 g3 => ?_
      have h3 := h3.sm s3
      have sl := sl.sm s3
      have g2 := (fq_one g2).sm s3
      obtain ⟨dx, hp⟩ := g2.sh
      obtain ⟨dy, hq⟩ := g3.sh
      walk_at "go"
      refine g_subF g2 g3 ⟨by decide, by decide, lt_pow mm.2.2.2.2.1 (by decide), lt_pow rr.2 (by decide)⟩ fun r3 H4 s4 g4 => ?_
      have f4 : Fq K H4 r3 (restL ns ms D E).sum (D * E) := g4.re (by rw [show 1 * (D * E) - (minL ns ms D E).sum * 1 = (restL ns ms D E).sum by omega, Int.one_mul]) (by omega)
      have sl := sl.sm s4
      have s5 := ((s1.trans s2).trans s3).trans s4
      walk_at "go"
      refine g_lcS (rs := restL ns ms D E) (F := D * E) (σ0 := [some (.ref a), some (.ref e), some (.ref r), some (.ref r3), none]) sl (by rw [restL_len h2.len]; exact h2.le) rfl rfl ?_ ?_
      · intro i p Dd2 n z' H5 g1 g3 s5 f5 N nx
        have e3 : n = z' := by
          rw [g1] at g3
          exact Option.some.inj g3
        subst e3
        have f6 := f4.sm s5
        have bn := el_le restL_nn g1
        obtain ⟨dx, hp⟩ := f6.sh
        obtain ⟨dy, hq⟩ := f5.sh
        walk_at "go"
        refine g_mulF f6 f5 ⟨lt_pow mm.2.2.2.2.2 (by decide), lt_pow rr.2 (by decide), lt_pow (b := 900) (Nat.lt_of_le_of_lt (by omega) mm.2.2.2.2.2) (by decide), lt_pow mm.2.2.2.2.2 (by decide)⟩ fun r2 H5 s6 f7 => ?_
        walk_at "go"
        exact nx r2 _ s6 (f7.re (by grind) (by omega))
      · intro Dd2 H5 hD2 s6 sl2
        exact k Dd2 _ (s5.free hD2) (s5.trans s6) sl2.l
theorem c_inst (T : Top K mg) : Cal P w K mg base "_instead_chances_of" 7 P__instead_chances_of (spInst K) := cal_mk T.f__instead_chances_of (ok_inst T) (fun F => F.bindsN fun _ _ _ _ _ _ us hl => match us, hl with | [_, _], _ => rfl)
/-! guessed_shares -/
def spGs (K : PySem.W.Frag) : Sp := fun vs H Q _ => ∃ (b c : Bool) (a e : Addr) (ns ms : List Int) (D E : Int), vs = [.ref a, .ref e] ∧ Two b c K H a e ns ms D E ∧ ∀ r H', H r = none → Same H H' → ShL true K H' r ns D → Q (.ref r) H'
theorem ok_gs (T : Top K mg) {f : Addr} {fd : FuncData} (F : FnP K "guessed_shares" s_guessed_shares f fd) : FnOk P w K mg base CX0 8 f fd P_guessed_shares (spGs K) := by
  have cl_Share := T.cl_Share; have na_Share_top := T.na_Share_top; have na_Share_bottom := T.na_Share_bottom; have in_Share := T.in_Share; have ki_o_Share_o_Share := T.ki_o_Share_o_Share; have ki_int_o_Share := T.ki_int_o_Share; have ki_bool_o_Share := T.ki_bool_o_Share; have ki_NoneType_o_Share := T.ki_NoneType_o_Share; have ki_str_o_Share := T.ki_str_o_Share; have ki_list_o_Share := T.ki_list_o_Share; have ki_tuple_o_Share := T.ki_tuple_o_Share; have nf_Share_o_Share := T.nf_Share_o_Share; have nf_Share_int := T.nf_Share_int; have nf_Share_bool := T.nf_Share_bool; have nf_Share_NoneType := T.nf_Share_NoneType; have nf_Share_str := T.nf_Share_str; have nf_Share_list := T.nf_Share_list; have nf_Share_tuple := T.nf_Share_tuple; have ne_Share := T.ne_Share
  have C__kept_chances_of := c_kcs (P := P) (w := w) (base := base) T
  have C__instead_chances_of := c_inst (P := P) (w := w) (base := base) T
  have MC_Share___add__ := mc_Share___add__ (P := P) (w := w) (base := base) T
  refine F.ok sc_guessed_shares (fun vs H Q E h => ?_) (fun cdv A outer s H vs Q E hr h => ?_)
  · obtain ⟨b, c, a, e, ns, ms, D, E, rfl, _⟩ := h
    rfl
  · obtain ⟨b, c, a, e, ns, ms, D, E, rfl, h2, k⟩ := h
    refine ⟨_, PSs.nox (pss_one (ps_ret (pe_lc (own := [("kept", 2), ("instead", 3)]) (g := gTup K 2 (gCons (gName 2) (gCons (gName 3) gNil))) (by rfl) sc_guessed_shares.nd (k_zm (K := K) (by rfl) (by rfl) T.z_zip (pa_cons (pe_cal C__kept_chances_of (hr.mono (by first | decide | omega)) (by rfl) (pa_cons (pv 0) (pa_cons (pv 1) pa_nil))) (pa_cons (pe_cal C__instead_chances_of (hr.mono (by first | decide | omega)) (by rfl) (pa_cons (pv 0) (pa_cons (pv 1) pa_nil))) pa_nil))) (blkOk_by (own := [("kept", 2), ("instead", 3)]) (N := N_guessed_shares) (sc := defScope s_guessed_shares) (by decide +kernel)) (fun _ _ _ _ _ => (k_pgt (K := K) (n := 2) (by rfl) (by rfl) (pgs_cons (pg_name (i := 2) sc_guessed_shares.nd rfl (Or.inl rfl)) (pgs_cons (pg_name (i := 3) sc_guessed_shares.nd rfl (Or.inl rfl)) pgs_nil)) (by rfl) (by rfl))) (fun _ _ _ _ _ => pts_nil) (fun _ _ _ _ _ => (pe_op (op_ownBin (by rfl) T.in_Share.sf MC_Share___add__ (hr.mono (by first | decide | omega))) (pv 2) (pv 3)))))), ?_⟩
    try simp only [cxK]
    rw [show L2.start N_guessed_shares [.ref a, .ref e] = [some (.ref a), some (.ref e), none, none] from rfl]
    have rr := h2.p.mul h2.q
    have mm := h2.p.mins h2.q h2.len
    walk_at "go"
    refine ⟨b, c, a, e, ns, ms, D, E, rfl, h2, fun r H1 hn s1 sl => ?_⟩
    walk_at "go"
    refine ⟨b, c, a, e, ns, ms, D, E, rfl, h2.sm s1, fun r2 H2 hn2 s2 sl2 => ?_⟩
    have sl := sl.sm s2
    have s3 := s1.trans s2
    walk_at "go"
    refine g_zmS (rs := ns) (F := D) (σ0 := [some (.ref a), some (.ref e), none, none]) sl sl2 (by rw [minL_len h2.len, restL_len h2.len]) (by rw [minL_len h2.len]; exact h2.le) (minL_len h2.len).symm rfl ?_ ?_
    · intro i p q T Dd n m z H' g1 g2 g3 s1 hT f1 f2 N nx
      have hi := (List.getElem?_eq_some_iff.mp g3).1
      have e4 : ms[i]? = some (ms[i]'(by rw [← h2.len]; exact hi)) := List.getElem?_eq_getElem _
      generalize (ms[i]'(by rw [← h2.len]; exact hi)) = m0 at e4
      have e1 : n = min (z * E) (m0 * D) := by
        rw [minL_at g3 e4] at g1
        exact (Option.some.inj g1).symm
      have e2 : m = z * E - min (z * E) (m0 * D) := by
        rw [restL_at g3 e4] at g2
        exact (Option.some.inj g2).symm
      have b1 := el_le mm.1 g1
      have b2 := el_le restL_nn g2
      obtain ⟨dx, hp⟩ := f1.sh
      obtain ⟨dy, hq⟩ := f2.sh
      walk_at "go"
      refine g_addF f1 f2 ⟨lt_pow (b := 900) (Nat.lt_of_le_of_lt (by omega) mm.2.2.2.2.1) (by decide), lt_pow rr.2 (by decide), lt_pow (b := 900) (Nat.lt_of_le_of_lt (by omega) mm.2.2.2.2.2) (by decide), lt_pow rr.2 (by decide)⟩ fun r4 H4 s4 g4 => ?_
      walk_at "go"
      refine nx r4 _ s4 (g4.re ?_ h2.ne.1)
      rw [e1, e2]
      generalize min (z * E) (m0 * D) = u
      grind
    · intro Dd H' hD s4 sl3
      exact k Dd _ (s3.free hD) (s3.trans s4) sl3.l
theorem c_gs (T : Top K mg) : Cal P w K mg base "guessed_shares" 8 P_guessed_shares (spGs K) := cal_mk T.f_guessed_shares (ok_gs T) (fun F => F.bindsN fun _ _ _ _ _ _ us hl => match us, hl with | [_, _], _ => rfl)
end

set_option Elab.async false
set_option linter.all false
set_option maxRecDepth 100000
set_option maxHeartbeats 4000000
set_option exponentiation.threshold 5000
open PySem PySem.Spec L2



section
variable {P : Program} {w : World} {K : PySem.W.Frag} {mg : Str → Option Value} {base : Heap}
/-! numbers drawn into a list -/
theorem chg_free {a p : Addr} {H H' : Hp} (c : Chg a H H') (n : p ≠ a) (h : H' p = none) : H p = none := by
  cases e : H p with
  | none => rfl
  | some o => rw [c _ _ n e] at h; cases h
def BldI (H0 : Hp) (a l D : Addr) (M : Int) (i : Nat) (H : Hp) : Prop := Chg a H0 H ∧ Bag H a l ∧ ∃ ns : List Int, ns.length = i ∧ (∀ x ∈ ns, 0 ≤ x ∧ x ≤ M) ∧ H D = some (.lst (ns.map V.int))
theorem bldI0 {H0 : Hp} {a l D : Addr} {M : Int} (h : Bag H0 a l) (hD : H0 D = none) : BldI H0 a l D M 0 (upd H0 D (.lst [])) :=
  ⟨Chg.refl.lay hD, bag_new h hD, [], rfl, by simp, upd_same⟩
theorem bldIS {H0 H H' : Hp} {a l D : Addr} {M x : Int} {i : Nat} (h0 : Bag H0 a l) (hD : H0 D = none) (b : BldI H0 a l D M i H) (c : Chg a H H') (B : Bag H' a l) (hx : 0 ≤ x ∧ x ≤ M) (hi : i ≤ 1000) : TurnD D (BldI H0 a l D M (i + 1)) (.int x) H' := by
  obtain ⟨c0, _, ns, e, hn, hd⟩ := b
  obtain ⟨na, nl⟩ := bag_apart h0 hD
  have hd' := c _ _ na hd
  refine g_turnD hd' (by rw [List.length_map]; omega) ⟨?_, bag_chg B na nl, ns ++ [x], by simp [e], ?_, ?_⟩
  · intro c1 o n1 h
    rw [upd_ne (ne_of_none h hD)]
    exact c _ _ n1 (c0 _ _ n1 h)
  · intro y hy
    rcases List.mem_append.mp hy with hy | hy
    · exact hn y hy
    · rw [List.mem_singleton.mp hy]; exact hx
  · rw [List.map_append]; exact upd_same
/-! _law_amounts -/
def spAm : Sp := fun vs H Q _ => ∃ (a l : Addr) (n : Int), vs = [.ref a, .int n] ∧ Bag H a l ∧ 1 ≤ n ∧ n ≤ 1000 ∧
  ∀ (p : Addr) (ns : List Int) (H' : Hp), H p = none → H' p = some (.lst (ns.map V.int)) → ns.length = n.toNat → (∀ x ∈ ns, 0 ≤ x ∧ x ≤ 999999999) → Bag H' a l → Chg a H H' → Q (.ref p) H'
theorem ok_am (T : Top K mg) {f : Addr} {fd : FuncData} (F : FnP K "_law_amounts" s__law_amounts f fd) : FnOk P w K mg base CX0 4 f fd P__law_amounts spAm := by
  have C__law_draw : Cal P w K mg base "_law_draw" 2 P__law_draw (spDraw 100000000000) := c_draw2 T
  have C__law_of : Cal P w K mg base "_law_of" 2 P__law_of spOf := c_of T
  refine F.ok sc__law_amounts (fun vs H Q E h => ?_) (fun cdv A outer s H vs Q E hr h => ?_)
  · obtain ⟨a, l, n, rfl, _⟩ := h
    rfl
  · obtain ⟨a, l, n, rfl, hB, n1, n2, q⟩ := h
    refine ⟨_, PSs.nox (pss_cons (ps_set (i := 2) sc__law_amounts.nd rfl (by first | exact Or.inl rfl | exact Or.inr rfl) (pe_cal C__law_draw (hr.mono (by first | decide | omega)) (by rfl) (pa_cons (pv 0) (pa_cons pe_int pa_nil))))
    (pss_cons (ps_if (pt_cmpR op_eq (pv 2) pe_int (nomark _))
    (pss_one (ps_ret (pe_lc (own := [("k", 3)]) (g := gName 3) (by rfl) sc__law_amounts.nd (pi_range1 (by rfl) T.z_range (pa_cons (pv 1) pa_nil)) (blkOk_by (own := [("k", 3)]) (N := N__law_amounts) (sc := defScope s__law_amounts) (by decide +kernel)) (fun _ _ _ _ _ => pg_name (i := 3) sc__law_amounts.nd rfl (by first | exact Or.inl rfl | exact Or.inr rfl)) (fun _ _ _ _ _ => pts_nil) (fun _ _ _ _ _ => pe_int))))
    pss_nil)
    (pss_cons (ps_if (pt_cmpR op_eq (pv 2) pe_int (nomark _))
    (pss_cons (ps_set (i := 4) sc__law_amounts.nd rfl (by first | exact Or.inl rfl | exact Or.inr rfl) (pe_cal C__law_draw (hr.mono (by first | decide | omega)) (by rfl) (pa_cons (pv 0) (pa_cons (pv 1) pa_nil))))
    (pss_one (ps_ret (pe_lc (own := [("k", 3)]) (g := gName 3) (by rfl) sc__law_amounts.nd (pi_range1 (by rfl) T.z_range (pa_cons (pv 1) pa_nil)) (blkOk_by (own := [("k", 3)]) (N := N__law_amounts) (sc := defScope s__law_amounts) (by decide +kernel)) (fun _ _ _ _ _ => pg_name (i := 3) sc__law_amounts.nd rfl (by first | exact Or.inl rfl | exact Or.inr rfl)) (fun _ _ _ _ _ => pts_nil) (fun _ _ _ _ _ => (pe_op op_mul (pe_callTy c_intB (by rfl) T.z_int (by decide +kernel) (pa_cons (pe_cmpR op_eq (pv 3) (pv 4) (nomark _)) pa_nil)) (pe_op op_add pe_int (pe_cal C__law_draw (hr.mono (by first | decide | omega)) (by rfl) (pa_cons (pv 0) (pa_cons pe_int pa_nil))))))))))
    pss_nil)
    (pss_cons (ps_if (pt_cmpR op_eq (pv 2) pe_int (nomark _))
    (pss_one (ps_ret (pe_lc (own := [("k", 3)]) (g := gName 3) (by rfl) sc__law_amounts.nd (pi_range1 (by rfl) T.z_range (pa_cons (pv 1) pa_nil)) (blkOk_by (own := [("k", 3)]) (N := N__law_amounts) (sc := defScope s__law_amounts) (by decide +kernel)) (fun _ _ _ _ _ => pg_name (i := 3) sc__law_amounts.nd rfl (by first | exact Or.inl rfl | exact Or.inr rfl)) (fun _ _ _ _ _ => pts_nil) (fun _ _ _ _ _ => (pe_cal C__law_of (hr.mono (by first | decide | omega)) (by rfl) (pa_cons (pv 0) (pa_cons (pe_lst (pa_cons pe_int (pa_cons pe_int (pa_cons pe_int (pa_cons (pe_op op_add pe_int (pe_cal C__law_draw (hr.mono (by first | decide | omega)) (by rfl) (pa_cons (pv 0) (pa_cons (pe_op op_pow pe_int pe_int) pa_nil)))) pa_nil))))) pa_nil)))))))
    pss_nil)
    (pss_cons (ps_if (pt_cmpR op_lt (pv 2) pe_int (nomark _))
    (pss_one (ps_ret (pe_lc (own := [("k", 3)]) (g := gName 3) (by rfl) sc__law_amounts.nd (pi_range1 (by rfl) T.z_range (pa_cons (pv 1) pa_nil)) (blkOk_by (own := [("k", 3)]) (N := N__law_amounts) (sc := defScope s__law_amounts) (by decide +kernel)) (fun _ _ _ _ _ => pg_name (i := 3) sc__law_amounts.nd rfl (by first | exact Or.inl rfl | exact Or.inr rfl)) (fun _ _ _ _ _ => pts_nil) (fun _ _ _ _ _ => (pe_cal C__law_draw (hr.mono (by first | decide | omega)) (by rfl) (pa_cons (pv 0) (pa_cons pe_int pa_nil)))))))
    pss_nil)
    (pss_one (ps_ret (pe_lc (own := [("k", 3)]) (g := gName 3) (by rfl) sc__law_amounts.nd (pi_range1 (by rfl) T.z_range (pa_cons (pv 1) pa_nil)) (blkOk_by (own := [("k", 3)]) (N := N__law_amounts) (sc := defScope s__law_amounts) (by decide +kernel)) (fun _ _ _ _ _ => pg_name (i := 3) sc__law_amounts.nd rfl (by first | exact Or.inl rfl | exact Or.inr rfl)) (fun _ _ _ _ _ => pts_nil) (fun _ _ _ _ _ => (pe_cal C__law_draw (hr.mono (by first | decide | omega)) (by rfl) (pa_cons (pv 0) (pa_cons pe_int pa_nil)))))))))))), ?_⟩
    try simp only [cxK]
    rw [show L2.start N__law_amounts [.ref a, .int n] = [some (.ref a), some (.int n), none, none, none] from rfl]
    have fin : ∀ (D : Addr) (H1 H' : Hp), Chg a H H1 → Bag H1 a l → H1 D = none → BldI H1 a l D 999999999 n.toNat H' → Q (.ref D) H' := fun D H1 H' c B hD b => by
      obtain ⟨c0, B', ns, e, hn, hd⟩ := b
      exact q D ns H' (chg_free c (bag_apart B hD).1 hD) hd e hn B' (c.trans c0)
    have e8 : (10 : Int) ^ (8 : Int).toNat = 100000000 := rfl
    walk_at "go"
    refine g_drawB hB ⟨by omega, by omega⟩ fun r1 H1 r1a r1b B1 c1 => ?_
    walk_at "go"
    refine g_iteD (fun h1 => ?_) (fun h1 => ?_)
    · walk_at "go"
      refine lcR (σ0 := [some (.ref a), some (.int n), some (.int r1), none, none]) rfl fun D hD => ⟨fun i H' => BldI H1 a l D 999999999 i H', bldI0 B1 hD, ?_, fun H' b => fin D H1 H' c1 B1 hD b⟩
      rintro i H' hi b
      walk_at "go"
      exact bldIS B1 hD b Chg.refl b.2.1 (by decide) (by omega)
    walk_at "go"
    refine g_iteD (fun h2 => ?_) (fun h2 => ?_)
    · walk_at "go"
      refine g_drawB B1 ⟨by omega, by omega⟩ fun r2 H2 r2a r2b B2 c2 => ?_
      walk_at "go"
      refine lcR (σ0 := [some (.ref a), some (.int n), some (.int r1), none, some (.int r2)]) rfl fun D hD => ⟨fun i H' => BldI H2 a l D 999999999 i H', bldI0 B2 hD, ?_, fun H' b => fin D H2 H' (c1.trans c2) B2 hD b⟩
      rintro i H' hi b
      walk_at "go"
      refine g_drawB b.2.1 ⟨by omega, by omega⟩ fun r3 H3 r3a r3b B3 c3 => ?_
      walk_at "go"
      refine bldIS B2 hD b c3 B3 ?_ (by omega)
      by_cases e : 0 + (i : Int) = r2
      · rw [if_pos e]; omega
      · rw [if_neg e]; omega
    walk_at "go"
    refine g_iteD (fun h3 => ?_) (fun h3 => ?_)
    · walk_at "go"
      refine lcR (σ0 := [some (.ref a), some (.int n), some (.int r1), none, none]) rfl fun D hD => ⟨fun i H' => BldI H1 a l D 999999999 i H', bldI0 B1 hD, ?_, fun H' b => fin D H1 H' c1 B1 hD b⟩
      rintro i H' hi b
      walk_at "go"
      refine g_drawB b.2.1 ⟨by omega, by omega⟩ fun r3 H3 r3a r3b B3 c3 => ?_
      walk_at "go"
      rename_i t1 ht1
      obtain ⟨na1, nl1⟩ := bag_apart B3 ht1
      refine g_of (bag_new B3 ht1) upd_same na1 ⟨by show 1 ≤ 4; decide, by show 4 ≤ 1000000; decide⟩ fun x1 H4 hx1 B4 c4 => ?_
      have hx1' : ∃ m : Int, x1 = .int m ∧ 0 ≤ m ∧ m ≤ 999999999 := by
        simp only [List.mem_cons, List.mem_nil_iff, or_false] at hx1
        rcases hx1 with rfl | rfl | rfl | rfl <;> exact ⟨_, rfl, by omega, by omega⟩
      obtain ⟨m1, rfl, m1a⟩ := hx1'
      exact bldIS B1 hD b ((c3.lay ht1).trans c4) B4 m1a (by omega)
    walk_at "go"
    refine g_iteD (fun h4 => ?_) (fun h4 => ?_)
    · walk_at "go"
      refine lcR (σ0 := [some (.ref a), some (.int n), some (.int r1), none, none]) rfl fun D hD => ⟨fun i H' => BldI H1 a l D 999999999 i H', bldI0 B1 hD, ?_, fun H' b => fin D H1 H' c1 B1 hD b⟩
      rintro i H' hi b
      walk_at "go"
      refine g_drawB b.2.1 ⟨by omega, by omega⟩ fun r3 H3 r3a r3b B3 c3 => ?_
      exact bldIS B1 hD b c3 B3 (by omega) (by omega)
    · walk_at "go"
      refine lcR (σ0 := [some (.ref a), some (.int n), some (.int r1), none, none]) rfl fun D hD => ⟨fun i H' => BldI H1 a l D 999999999 i H', bldI0 B1 hD, ?_, fun H' b => fin D H1 H' c1 B1 hD b⟩
      rintro i H' hi b
      walk_at "go"
      refine g_drawB b.2.1 ⟨by omega, by omega⟩ fun r3 H3 r3a r3b B3 c3 => ?_
      exact bldIS B1 hD b c3 B3 (by omega) (by omega)
theorem c_am (T : Top K mg) : Cal P w K mg base "_law_amounts" 4 P__law_amounts spAm := cal_mk T.f__law_amounts (ok_am T) (fun F => F.bindsN fun _ _ _ _ _ _ us hl => match us, hl with | [_, _], _ => rfl)
/-! _law_parts -/
theorem part_cons {ns : List Int} (h : ns.sum = 0) (h1 : 1 ≤ ns.length) : partN ns = 1 :: List.replicate (ns.length - 1) 0 := by
  unfold partN
  rw [if_pos h]
  obtain ⟨k, e⟩ : ∃ k, ns.length = k + 1 := ⟨ns.length - 1, by omega⟩
  rw [e, List.range_succ_eq_map, List.map_cons, List.map_map, Nat.add_sub_cancel]
  refine congrArg (List.cons _) ?_
  refine List.ext_getElem (by simp) fun i h1 h2 => ?_
  simp
def spParts (K : PySem.W.Frag) : Sp := fun vs H Q _ => ∃ (a : Addr) (ns : List Int), vs = [.ref a] ∧ SqL K H a (ns.map V.int) ∧ 1 ≤ ns.length ∧ ns.length ≤ 1000 ∧
  ∀ r p H', H r = none → H p = none → Same H H' → H' r = some (.lst [.ref p, .int (partD ns)]) → H' p = some (.lst ((partN ns).map V.int)) → Q (.ref r) H'
theorem ok_parts (T : Top K mg) {f : Addr} {fd : FuncData} (F : FnP K "_law_parts" s__law_parts f fd) : FnOk P w K mg base CX0 1 f fd P__law_parts (spParts K) := by
  refine F.ok sc__law_parts (fun vs H Q E h => ?_) (fun cdv A outer s H vs Q E hr h => ?_)
  · obtain ⟨a, ns, rfl, _⟩ := h
    rfl
  · obtain ⟨a, ns, rfl, hs, n1, n2, q⟩ := h
    refine ⟨_, PSs.nox (pss_cons (ps_if (pt_cmpR op_eq (pe_callB (k_sum (K := K) (by rfl) (by rfl)) (by rfl) T.z_sum (by decide +kernel) (pa_cons (pv 0) pa_nil)) pe_int (nomark _))
    (pss_one (ps_ret (pe_lst (pa_cons (pe_op op_cat (pe_lst (pa_cons pe_int pa_nil)) (pe_lc (own := [("k", 1)]) (g := gName 1) (by rfl) sc__law_parts.nd (pi_range1 (by rfl) T.z_range (pa_cons (pe_op op_sub (pe_callB (k_len (K := K) (by rfl)) (by rfl) T.z_len (by decide +kernel) (pa_cons (pv 0) pa_nil)) pe_int) pa_nil)) (blkOk_by (own := [("k", 1)]) (N := N__law_parts) (sc := defScope s__law_parts) (by decide +kernel)) (fun _ _ _ _ _ => pg_name (i := 1) sc__law_parts.nd rfl (by first | exact Or.inl rfl | exact Or.inr rfl)) (fun _ _ _ _ _ => pts_nil) (fun _ _ _ _ _ => pe_int))) (pa_cons pe_int pa_nil)))))
    pss_nil)
    (pss_one (ps_ret (pe_lst (pa_cons (pe_callTy (k_list (K := K) (by rfl)) (by rfl) T.z_list (by decide +kernel) (pa_cons (pv 0) pa_nil)) (pa_cons (pe_callB (k_sum (K := K) (by rfl) (by rfl)) (by rfl) T.z_sum (by decide +kernel) (pa_cons (pv 0) pa_nil)) pa_nil)))))), ?_⟩
    try simp only [cxK]
    rw [show L2.start N__law_parts [.ref a] = [some (.ref a), none] from rfl]
    walk_at "go"
    refine g_iteD (fun h1 => ?_) (fun h1 => ?_)
    · walk_at "go"
      rename_i t1 ht1
      obtain ⟨k, ek⟩ : ∃ k, ns.length = k + 1 := ⟨ns.length - 1, by omega⟩
      rw [List.length_map, ek, show (((k + 1 : Nat) : Int) - 1) = (k : Int) by omega]
      walk_at "go"
      refine lcR (σ0 := [some (.ref a), none]) rfl fun D hD => ⟨fun i H' => H' = upd (upd H t1 (.lst [V.int 1])) D (.lst ((List.replicate i (0 : Int)).map V.int)), rfl, ?_, ?_⟩
      · rintro i H' hi rfl
        walk_at "go"
        refine g_turnD upd_same (by rw [List.length_map, List.length_replicate]; omega) ?_
        dsimp only
        rw [upd_upd, List.replicate_succ', List.map_append]
        rfl
      · rintro H' rfl
        have e7 : upd (upd H t1 (.lst [V.int 1])) D (.lst ((List.replicate ((k : Int)).toNat (0 : Int)).map V.int)) t1 = some (.lst [V.int 1]) := h_ne (ne_of_none upd_same hD) upd_same
        refine g_cat e7 upd_same (by simp only [List.length_cons, List.length_nil, List.length_map, List.length_replicate]; omega) fun p hp => ?_
        have s1 : Same H (upd (upd H t1 (.lst [V.int 1])) D (.lst ((List.replicate ((k : Int)).toNat (0 : Int)).map V.int))) := Same.lay (same_new ht1) hD
        walk_at "go"
        rename_i t3 ht3
        have s2 := Same.lay s1 hp (o := .lst ([V.int 1] ++ (List.replicate ((k : Int)).toNat (0 : Int)).map V.int))
        refine q _ p _ (s2.free ht3) (s1.free hp) (Same.lay s2 ht3) ?_ ?_
        · rw [show partD ns = 1 from if_pos h1]; exact upd_same
        · rw [part_cons h1 n1, ek]
          exact h_ne (ne_of_none upd_same ht3) upd_same
    · walk_at "go"
      rename_i t1 ht1 t2 ht2
      have s1 := same_new ht1 (o := .lst (ns.map V.int))
      refine q _ t1 _ ((s1).free ht2) ht1 (Same.lay s1 ht2) ?_ ?_
      · rw [show partD ns = ns.sum from if_neg h1]; exact upd_same
      · rw [show partN ns = ns from if_neg h1]; exact h_ne (ne_of_none upd_same ht2) upd_same
theorem c_parts (T : Top K mg) : Cal P w K mg base "_law_parts" 1 P__law_parts (spParts K) := cal_mk T.f__law_parts (ok_parts T) (fun F => F.bindsN fun _ _ _ _ _ _ us hl => match us, hl with | [_], _ => rfl)
/-! _law_are -/
theorem all_rep (n : Nat) : (List.replicate n true).all id = true := by
  induction n with
  | zero => rfl
  | succ n ih => rw [List.replicate_succ, List.all_cons, ih]; rfl

def spAre (K : PySem.W.Frag) : Sp := fun vs H Q _ => ∃ (a e : Addr) (ns : List Int) (D : Int), vs = [.ref a, .ref e, .int D] ∧ ShL true K H a ns D ∧ SqL K H e (ns.map V.int) ∧ ns.length ≤ 1000 ∧ (∀ n ∈ ns, n.natAbs < 2 ^ 1000) ∧ D.natAbs < 2 ^ 1000 ∧ ∀ H', Same H H' → Q (.bl true) H'
theorem ok_are (T : Top K mg) {f : Addr} {fd : FuncData} (F : FnP K "_law_are" s__law_are f fd) : FnOk P w K mg base CX0 3 f fd P__law_are (spAre K) := by
  have C__law_is_share := c_is_share (P := P) (w := w) (base := base) T
  refine F.ok sc__law_are (fun vs H Q E h => ?_) (fun cdv A outer s H vs Q E hr h => ?_)
  · obtain ⟨a, e, ns, D, rfl, _⟩ := h
    rfl
  · obtain ⟨a, e, ns, D, rfl, ⟨ps, e1, sq, fs⟩, hn, le, l1, l2, k⟩ := h
    have sq : SqL K H a (ps.map V.ref) := sq
    refine ⟨_, PSs.nox (pss_cons (ps_if (PW.pt (pw_or (pt_not (pt_val (pe_callB (k_isi (K := K) (by rfl)) (by rfl) T.z_isinstance (by decide +kernel) (pa_cons (pv 0) (pa_cons (pe_bltn (v := .ty "list") (u := .type "list") (by rfl) T.z_list (by decide +kernel) rfl) pa_nil))))) (pw_or1 (pt_cmpR op_ne (pe_callB (k_len (K := K) (by rfl)) (by rfl) T.z_len (by decide +kernel) (pa_cons (pv 0) pa_nil)) (pe_callB (k_len (K := K) (by rfl)) (by rfl) T.z_len (by decide +kernel) (pa_cons (pv 1) pa_nil)) (nomark _)))))
    (pss_one (ps_ret pe_bl))
    pss_nil)
    (pss_one (ps_ret (pe_callB (k_all (K := K) (by rfl) (by rfl)) (by rfl) T.z_all (by decide +kernel) (pa_cons (pe_lc (own := [("one", 3), ("num", 4)]) (g := gTup K 2 (gCons (gName 3) (gCons (gName 4) gNil))) (by rfl) sc__law_are.nd (k_zip (K := K) (by rfl) (by rfl) T.z_zip (pa_cons (pv 0) (pa_cons (pv 1) pa_nil))) (blkOk_by (own := [("one", 3), ("num", 4)]) (N := N__law_are) (sc := defScope s__law_are) (by decide +kernel)) (fun _ _ _ _ _ => (k_pgt (K := K) (n := 2) (by rfl) (by rfl) (pgs_cons (pg_name (i := 3) sc__law_are.nd rfl (Or.inl rfl)) (pgs_cons (pg_name (i := 4) sc__law_are.nd rfl (Or.inl rfl)) pgs_nil)) (by rfl) (by rfl))) (fun _ _ _ _ _ => pts_nil) (fun _ _ _ _ _ => (pe_cal C__law_is_share (hr.mono (by first | decide | omega)) (by rfl) (pa_cons (pv 3) (pa_cons (pv 4) (pa_cons (pv 2) pa_nil)))))) pa_nil))))), ?_⟩
    try simp only [cxK]
    rw [show L2.start N__law_are [.ref a, .ref e, .int D] = [some (.ref a), some (.ref e), some (.int D), none, none] from rfl]
    walk_at "go"
    rw [List.length_map, List.length_map, e1]
    refine g_iteNX rfl ?_
    walk_at "go"

    refine g_zipL sq hn ?_
    refine lcZ (xs := ps.map V.ref) (ys := ns.map V.int) (σ0 := [some (V.ref a), some (V.ref e), some (V.int D), none, none]) (by rw [List.length_map, List.length_map, e1]) rfl fun Dd hD => ⟨fun i H' => Same H H' ∧ H' Dd = some (.lst ((List.replicate i true).map V.bl)), ⟨same_new hD, upd_same⟩, fun i H' b => ⟨b.1.seq sq, b.1.seq hn⟩, ?_, ?_⟩
    · intro i x y T' H' hx hy b hT
      rw [List.getElem?_map, Option.map_eq_some_iff] at hx hy
      obtain ⟨p, hp, rfl⟩ := hx
      obtain ⟨n, hn', rfl⟩ := hy
      have hi := (List.getElem?_eq_some_iff.mp hn').1
      have s3 : Same H' (upd H' T' (.tup [.ref p, .int n])) := same_new hT
      have f1 := ((fs i p n hp hn').sm b.1).sm s3
      walk_at "go"
      refine g_isF f1 rfl rfl ⟨lt_pow (l1 n (List.mem_of_getElem? hn')) (by decide), lt_pow l2 (by decide)⟩ ?_
      refine g_turnD (s3 _ _ b.2) (by rw [List.length_map, List.length_replicate]; omega) ⟨fun c o hc => ?_, ?_⟩
      · rw [upd_ne (ne_of_none hc hD)]
        exact s3 _ _ (b.1 _ _ hc)
      · rw [List.replicate_succ', List.map_append]
        exact upd_same
    · intro H' b
      walk_at "go"
      refine g_all (SqL.of b.2) ?_
      rw [all_rep]
      exact k H' b.1
theorem c_are (T : Top K mg) : Cal P w K mg base "_law_are" 3 P__law_are (spAre K) := cal_mk T.f__law_are (ok_are T) (fun F => F.bindsN fun _ _ _ _ _ _ us hl => match us, hl with | [_, _, _], _ => rfl)
theorem g_are {H : Hp} {Q : VK} {X : XK} {a e : Addr} {ns : List Int} {D : Int} (h1 : ShL true K H a ns D) (h2 : SqL K H e (ns.map V.int)) (le : ns.length ≤ 1000) (l1 : ∀ n ∈ ns, n.natAbs < 2 ^ 1000) (l2 : D.natAbs < 2 ^ 1000) (k : ∀ H', Same H H' → Q (.bl true) H') : spAre K [.ref a, .ref e, .int D] H Q X := ⟨a, e, ns, D, rfl, h1, h2, le, l1, l2, k⟩
end

set_option Elab.async false
set_option linter.all false
set_option maxRecDepth 100000
set_option maxHeartbeats 4000000
set_option exponentiation.threshold 5000
open PySem PySem.Spec L2



section
variable {P : Program} {w : World} {K : PySem.W.Frag} {mg : Str → Option Value} {base : Heap}
/-! _law_pair_of -/
def Wts (ns : List Int) (n : Nat) : Prop := ns.length = n ∧ ∀ x ∈ ns, 0 ≤ x ∧ x ≤ 999999999
def spPair : Sp := fun vs H Q _ => ∃ (a l : Addr) (n : Int), vs = [.ref a, .int n] ∧ Bag H a l ∧ 1 ≤ n ∧ n ≤ 1000 ∧
  ∀ (r x y : Addr) (ns ms : List Int) (H' : Hp), H' r = some (.lst [.ref x, .ref y]) → H' x = some (.lst (ns.map V.int)) → H' y = some (.lst (ms.map V.int)) → x ≠ a → y ≠ a → Wts ns n.toNat → Wts ms n.toNat → Bag H' a l → Chg a H H' → Q (.ref r) H'
theorem ok_pair (T : Top K mg) {f : Addr} {fd : FuncData} (F : FnP K "_law_pair_of" s__law_pair_of f fd) : FnOk P w K mg base CX0 5 f fd P__law_pair_of spPair := by
  have C__law_draw : Cal P w K mg base "_law_draw" 2 P__law_draw (spDraw 100000000000) := c_draw2 T
  have C__law_amounts : Cal P w K mg base "_law_amounts" 4 P__law_amounts spAm := c_am T
  refine F.ok sc__law_pair_of (fun vs H Q E h => ?_) (fun cdv A outer s H vs Q E hr h => ?_)
  · obtain ⟨a, l, n, rfl, _⟩ := h
    rfl
  · obtain ⟨a, l, n, rfl, hB, n1, n2, q⟩ := h
    refine ⟨_, PSs.nox (pss_cons (ps_set (i := 2) sc__law_pair_of.nd rfl (by first | exact Or.inl rfl | exact Or.inr rfl) (pe_cal C__law_amounts (hr.mono (by first | decide | omega)) (by rfl) (pa_cons (pv 0) (pa_cons (pv 1) pa_nil))))
    (pss_cons (ps_set (i := 3) sc__law_pair_of.nd rfl (by first | exact Or.inl rfl | exact Or.inr rfl) (pe_cal C__law_draw (hr.mono (by first | decide | omega)) (by rfl) (pa_cons (pv 0) (pa_cons pe_int pa_nil))))
    (pss_cons (ps_if (pt_cmpR op_eq (pv 3) pe_int (nomark _))
    (pss_one (ps_ret (pe_lst (pa_cons (pv 2) (pa_cons (pe_callTy (k_list (K := K) (by rfl)) (by rfl) T.z_list (by decide +kernel) (pa_cons (pv 2) pa_nil)) pa_nil)))))
    pss_nil)
    (pss_cons (ps_if (pt_cmpR op_eq (pv 3) pe_int (nomark _))
    (pss_cons (ps_set (i := 4) sc__law_pair_of.nd rfl (by first | exact Or.inl rfl | exact Or.inr rfl) (pe_op op_add pe_int (pe_cal C__law_draw (hr.mono (by first | decide | omega)) (by rfl) (pa_cons (pv 0) (pa_cons pe_int pa_nil)))))
    (pss_one (ps_ret (pe_lst (pa_cons (pe_lc (own := [("one", 5)]) (g := gName 5) (by rfl) sc__law_pair_of.nd (k_pil (K := K) (by rfl) (pv 2)) (blkOk_by (own := [("one", 5)]) (N := N__law_pair_of) (sc := defScope s__law_pair_of) (by decide +kernel)) (fun _ _ _ _ _ => pg_name (i := 5) sc__law_pair_of.nd rfl (by first | exact Or.inl rfl | exact Or.inr rfl)) (fun _ _ _ _ _ => pts_nil) (fun _ _ _ _ _ => (pe_callB (c_min2 (by rfl)) (by rfl) T.z_min (by decide +kernel) (pa_cons pe_int (pa_cons (pe_callTy c_int (by rfl) T.z_int (by decide +kernel) (pa_cons (pe_op op_mul (pv 4) (pv 5)) pa_nil)) pa_nil))))) (pa_cons (pv 2) pa_nil))))))
    pss_nil)
    (pss_cons (ps_if (pt_cmpR op_eq (pv 3) pe_int (nomark _))
    (pss_one (ps_ret (pe_lst (pa_cons (pv 2) (pa_cons (pe_lc (own := [("one", 5)]) (g := gName 5) (by rfl) sc__law_pair_of.nd (k_pil (K := K) (by rfl) (pv 2)) (blkOk_by (own := [("one", 5)]) (N := N__law_pair_of) (sc := defScope s__law_pair_of) (by decide +kernel)) (fun _ _ _ _ _ => pg_name (i := 5) sc__law_pair_of.nd rfl (by first | exact Or.inl rfl | exact Or.inr rfl)) (fun _ _ _ _ _ => pts_nil) (fun _ _ _ _ _ => (pe_op op_mul (pe_callTy c_intB (by rfl) T.z_int (by decide +kernel) (pa_cons (pe_cmpR op_eq (pv 5) pe_int (nomark _)) pa_nil)) (pe_op op_add pe_int (pe_cal C__law_draw (hr.mono (by first | decide | omega)) (by rfl) (pa_cons (pv 0) (pa_cons pe_int pa_nil))))))) pa_nil)))))
    pss_nil)
    (pss_cons (ps_if (pt_cmpR op_eq (pv 3) pe_int (nomark _))
    (pss_cons (ps_set (i := 6) sc__law_pair_of.nd rfl (by first | exact Or.inl rfl | exact Or.inr rfl) (pe_callTy (k_list (K := K) (by rfl)) (by rfl) T.z_list (by decide +kernel) (pa_cons (pv 2) pa_nil)))
    (pss_cons (ps_set (i := 7) sc__law_pair_of.nd rfl (by first | exact Or.inl rfl | exact Or.inr rfl) (pe_cal C__law_draw (hr.mono (by first | decide | omega)) (by rfl) (pa_cons (pv 0) (pa_cons (pv 1) pa_nil))))
    (pss_cons (ps_asg (pe_callB (c_min2 (by rfl)) (by rfl) T.z_min (by decide +kernel) (pa_cons pe_int (pa_cons (pe_callTy c_int (by rfl) T.z_int (by decide +kernel) (pa_cons (pe_op op_add (pe_ix (k_ix (K := K) (by rfl)) (pv 6) (pv 7) (fun _ _ => rfl)) pe_int) pa_nil)) pa_nil))) (pg_sub (pv 6) (pv 7) set_list))
    (pss_one (ps_ret (pe_lst (pa_cons (pv 2) (pa_cons (pv 6) pa_nil))))))))
    pss_nil)
    (pss_one (ps_ret (pe_lst (pa_cons (pv 2) (pa_cons (pe_cal C__law_amounts (hr.mono (by first | decide | omega)) (by rfl) (pa_cons (pv 0) (pa_cons (pv 1) pa_nil))) pa_nil))))))))))), ?_⟩
    try simp only [cxK]
    rw [show L2.start N__law_pair_of [.ref a, .int n] = [some (.ref a), some (.int n), none, none, none, none, none, none] from rfl]
    walk_at "go"
    refine ⟨a, l, n, rfl, hB, n1, n2, fun x ns H1 hx e1 len1 w1 B1 c1 => ?_⟩
    have nx : x ≠ a := ne_bag hB hx
    have W1 : Wts ns n.toNat := ⟨len1, w1⟩
    walk_at "go"
    refine g_drawB B1 ⟨by omega, by omega⟩ fun r2 H2 r2a r2b B2 c2 => ?_
    have e2 := c2 _ _ nx e1
    have c3 := c1.trans c2
    clear c1 c2 B1 e1
    walk_at "go"
    refine g_iteD (fun h1 => ?_) (fun h1 => ?_)
    · walk_at "go"
      rename_i t1 ht1 t2 ht2
      have s1 := same_new ht1 (o := .lst (ns.map V.int))
      have s2 := Same.lay s1 ht2 (o := .lst [.ref x, .ref t1])
      exact q t2 x t1 ns ns _ upd_same (s2 _ _ e2) (h_ne (ne_of_none upd_same ht2) upd_same) nx (bag_apart B2 ht1).1 W1 W1 (bag_sm B2 s2) (c3.trans (Same.chg s2))
    walk_at "go"
    refine g_iteD (fun h2 => ?_) (fun h2 => ?_)
    · walk_at "go"
      refine g_drawB B2 ⟨by omega, by omega⟩ fun r3 H3 r3a r3b B3 c4 => ?_
      have e3 := c4 _ _ nx e2
      walk_at "go"
      refine lcL (xs := ns.map V.int) (σ0 := [some (.ref a), some (.int n), some (.ref x), some (.int r2), some (.int (1 + r3)), none, none, none]) rfl fun D hD => ⟨fun i H' => Same H3 H' ∧ ∃ ms : List Int, ms.length = i ∧ (∀ x ∈ ms, 0 ≤ x ∧ x ≤ 999999999) ∧ H' D = some (.lst (ms.map V.int)), ⟨same_new hD, [], rfl, by simp, upd_same⟩, ?_, ?_, ?_⟩
      · rintro i H' hi b
        exact SqL.of (b.1 _ _ e3)
      · rintro i y H' hy ⟨s1, ms, em, wm, hm⟩
        rw [List.getElem?_map, Option.map_eq_some_iff] at hy
        obtain ⟨z, hz, rfl⟩ := hy
        have hz1 := w1 z (List.mem_of_getElem? hz)
        have hz2 := (List.getElem?_eq_some_iff.mp hz).1
        have hp : 0 ≤ (1 + r3) * z := Int.mul_nonneg (by omega) hz1.1
        walk_at "go"
        refine g_turnD hm (by rw [List.length_map]; omega) ⟨fun c o hc => ?_, ms ++ [if (1 + r3) * z < 999999999 then (1 + r3) * z else 999999999], by simp [em], ?_, ?_⟩
        · rw [upd_ne (ne_of_none hc hD)]
          exact s1 _ _ hc
        · intro y hy
          rcases List.mem_append.mp hy with hy | hy
          · exact wm y hy
          · rw [List.mem_singleton.mp hy]
            split <;> omega
        · rw [List.map_append]; exact upd_same
      · rintro H' ⟨s1, ms, em, wm, hm⟩
        walk_at "go"
        rename_i t2 ht2
        have s2 := Same.lay s1 ht2 (o := .lst [.ref D, .ref x])
        refine q t2 D x ms ns _ upd_same (h_ne (ne_of_none hm ht2) hm) (s2 _ _ e3) (bag_apart B3 hD).1 nx ⟨by rw [em, List.length_map, len1], wm⟩ W1 (bag_sm B3 s2) ((c3.trans c4).trans (Same.chg s2))
    walk_at "go"
    refine g_iteD (fun h3 => ?_) (fun h3 => ?_)
    · walk_at "go"
      refine lcL (xs := ns.map V.int) (σ0 := [some (.ref a), some (.int n), some (.ref x), some (.int r2), none, none, none, none]) rfl fun D hD => ⟨fun i H' => BldI H2 a l D 999999999 i H', bldI0 B2 hD, ?_, ?_, ?_⟩
      · rintro i H' hi b
        exact SqL.of (b.1 _ _ nx e2)
      · rintro i y H' hy b
        rw [List.getElem?_map, Option.map_eq_some_iff] at hy
        obtain ⟨z, hz, rfl⟩ := hy
        have hz2 := (List.getElem?_eq_some_iff.mp hz).1
        walk_at "go"
        refine g_drawB b.2.1 ⟨by omega, by omega⟩ fun r3 H3 r3a r3b B3 c4 => ?_
        walk_at "go"
        refine bldIS B2 hD b c4 B3 ?_ (by omega)
        by_cases e : z = 0
        · rw [if_pos e]; omega
        · rw [if_neg e]; omega
      · rintro H' ⟨c4, B4, ms, em, wm, hm⟩
        have e4 := c4 _ _ nx e2
        walk_at "go"
        rename_i t2 ht2
        have s2 := same_new ht2 (o := .lst [.ref x, .ref D])
        exact q t2 x D ns ms _ upd_same (s2 _ _ e4) (s2 _ _ hm) nx (bag_apart B2 hD).1 W1 ⟨by rw [em, List.length_map, len1], wm⟩ (bag_sm B4 s2) ((c3.trans c4).trans (Same.chg s2))
    walk_at "go"
    refine g_iteD (fun h4 => ?_) (fun h4 => ?_)
    · walk_at "go"
      rename_i t1 ht1
      refine g_drawB (bag_new B2 ht1) ⟨by omega, by omega⟩ fun r3 H3 r3a r3b B3 c4 => ?_
      have nt := (bag_apart B2 ht1).1
      have e3 : H3 t1 = some (.lst (ns.map V.int)) := c4 _ _ nt upd_same
      have e4 : H3 x = some (.lst (ns.map V.int)) := c4 _ _ nx (same_new ht1 _ _ e2)
      have hi : r3.toNat < ns.length := by omega
      have e : atI (ns.map V.int) r3 = some (.int (ns[r3.toNat])) := by
        have z := atI_nat (xs := ns.map V.int) (j := r3.toNat) (v := .int (ns[r3.toNat])) (by rw [List.getElem?_map, List.getElem?_eq_getElem hi]; rfl)
        rwa [Int.toNat_of_nonneg r3a] at z
      have wz := w1 _ (List.getElem_mem hi)
      generalize ns[r3.toNat] = z at e wz
      walk_at "go"
      refine g_setL (j := r3.toNat) e3 (by rw [List.length_map]; unfold ixN; rw [if_pos r3a, if_pos (by omega)]) ?_
      have nt2 : x ≠ t1 := ne_of_none e2 ht1
      have B4 := bag_chg (o := .lst ((ns.map V.int).set r3.toNat (.int (if z + 1 < 999999999 then z + 1 else 999999999)))) B3 nt (bag_apart B2 ht1).2
      have e5 := h_ne (o := .lst ((ns.map V.int).set r3.toNat (.int (if z + 1 < 999999999 then z + 1 else 999999999)))) nt2 e4
      rw [show (ns.map V.int).set r3.toNat (.int (if z + 1 < 999999999 then z + 1 else 999999999)) = (ns.set r3.toNat (if z + 1 < 999999999 then z + 1 else 999999999)).map V.int from List.map_set.symm] at *
      walk_at "go"
      rename_i t2 ht2
      have s2 := same_new ht2 (o := .lst [.ref x, .ref t1])
      refine q t2 x t1 ns _ _ upd_same (s2 _ _ e5) (h_ne (ne_of_none upd_same ht2) upd_same) nx nt W1 ⟨by rw [List.length_set, len1], ?_⟩ (bag_sm B4 s2) ?_
      · intro y hy
        rcases List.mem_or_eq_of_mem_set hy with hy | hy
        · exact w1 y hy
        · rw [hy]; split <;> omega
      · intro c o n1 hc
        have n3 : c ≠ t1 := ne_of_none (c3 _ _ n1 hc) ht1
        exact s2 _ _ (h_ne n3 (c4 _ _ n1 (same_new ht1 _ _ (c3 _ _ n1 hc))))
    walk_at "go"
    refine ⟨a, l, n, rfl, B2, n1, n2, fun y ms H3 hy e3 len3 w3 B3 c4 => ?_⟩
    have e4 := c4 _ _ nx e2
    walk_at "go"
    rename_i t2 ht2
    have s2 := same_new ht2 (o := .lst [.ref x, .ref y])
    exact q t2 x y ns ms _ upd_same (s2 _ _ e4) (s2 _ _ e3) nx (ne_bag B2 hy) W1 ⟨len3, w3⟩ (bag_sm B3 s2) ((c3.trans c4).trans (Same.chg s2))
theorem c_pair (T : Top K mg) : Cal P w K mg base "_law_pair_of" 5 P__law_pair_of spPair := cal_mk T.f__law_pair_of (ok_pair T) (fun F => F.bindsN fun _ _ _ _ _ _ us hl => match us, hl with | [_, _], _ => rfl)
end

set_option Elab.async false
set_option linter.all false
set_option maxRecDepth 100000
set_option maxHeartbeats 4000000
set_option exponentiation.threshold 5000
open PySem PySem.Spec L2



local macro_rules | `(tactic| walk_at "s") => `(tactic| first
  | with_reducible refine' g_v16 ?_
  | with_reducible refine' g_n16 ?_
  | with_reducible refine' g_v17 ?_
  | with_reducible refine' g_n17 ?_
  | with_reducible refine' g_v18 ?_
  | with_reducible refine' g_n18 ?_
  | with_reducible refine' g_v19 ?_
  | with_reducible refine' g_n19 ?_
  | with_reducible refine' g_v20 ?_
  | with_reducible refine' g_n20 ?_
  | with_reducible refine' g_v21 ?_
  | with_reducible refine' g_n21 ?_
  | with_reducible refine' g_v22 ?_
  | with_reducible refine' g_n22 ?_
  | with_reducible refine' g_v23 ?_
  | with_reducible refine' g_n23 ?_
  | with_reducible refine' g_v24 ?_
  | with_reducible refine' g_n24 ?_
  | with_reducible refine' g_v25 ?_
  | with_reducible refine' g_n25 ?_
  | with_reducible refine' g_v26 ?_
  | with_reducible refine' g_n26 ?_
  | with_reducible refine' g_v27 ?_
  | with_reducible refine' g_n27 ?_
  | with_reducible refine' g_v28 ?_
  | with_reducible refine' g_n28 ?_
  | with_reducible refine' g_v29 ?_
  | with_reducible refine' g_n29 ?_
  | with_reducible refine' g_v30 ?_
  | with_reducible refine' g_n30 ?_
  | with_reducible refine' g_v31 ?_
  | with_reducible refine' g_n31 ?_)

section
variable {P : Program} {w : World} {K : PySem.W.Frag} {mg : Str → Option Value} {base : Heap}
theorem ok_kept_share (T : Top K mg) {f : Addr} {fd : FuncData} (F : FnP K "kept_share" s_kept_share f fd) : FnOk P w K mg base CX0 5 f fd P_kept_share (spKept K) := ok_kept T F
theorem ok_rest_shares (T : Top K mg) {f : Addr} {fd : FuncData} (F : FnP K "rest_shares" s_rest_shares f fd) : FnOk P w K mg base CX0 6 f fd P_rest_shares (spRest K) := ok_rest T F
theorem ok_guessed_shares (T : Top K mg) {f : Addr} {fd : FuncData} (F : FnP K "guessed_shares" s_guessed_shares f fd) : FnOk P w K mg base CX0 8 f fd P_guessed_shares (spGs K) := ok_gs T F
theorem ok_shares_of (T : Top K mg) {f : Addr} {fd : FuncData} (F : FnP K "shares_of" s_shares_of f fd) : FnOk P w K mg base CX0 3 f fd P_shares_of (spShares K) := ok_shares T F
theorem kc_kept_share_0_q_p (T : Top K mg) : KCal P w K mg base "kept_share" 5 0 ["q", "p"] (fun vs zs => pick [(2, 1), (2, 0)] vs [] zs) (spKept K) := kcal_mk (ps := P_kept_share) T.f_kept_share (ok_kept_share T) (fun F => kbindsN F 0 ["q", "p"] [(2, 1), (2, 0)] fun _ _ _ _ _ _ us ws l1 l2 => match us, ws, l1, l2 with | [], [_, _], _, _ => rfl)
theorem kc_rest_shares_0_q_p (T : Top K mg) : KCal P w K mg base "rest_shares" 6 0 ["q", "p"] (fun vs zs => pick [(2, 1), (2, 0)] vs [] zs) (spRest K) := kcal_mk (ps := P_rest_shares) T.f_rest_shares (ok_rest_shares T) (fun F => kbindsN F 0 ["q", "p"] [(2, 1), (2, 0)] fun _ _ _ _ _ _ us ws l1 l2 => match us, ws, l1, l2 with | [], [_, _], _, _ => rfl)
theorem kc_guessed_shares_0_q_p (T : Top K mg) : KCal P w K mg base "guessed_shares" 8 0 ["q", "p"] (fun vs zs => pick [(2, 1), (2, 0)] vs [] zs) (spGs K) := kcal_mk (ps := P_guessed_shares) T.f_guessed_shares (ok_guessed_shares T) (fun F => kbindsN F 0 ["q", "p"] [(2, 1), (2, 0)] fun _ _ _ _ _ _ us ws l1 l2 => match us, ws, l1, l2 with | [], [_, _], _, _ => rfl)
theorem kc_shares_of_0_weights (T : Top K mg) : KCal P w K mg base "shares_of" 3 0 ["weights"] (fun vs zs => pick [(2, 0)] vs [] zs) (spShares K) := kcal_mk (ps := P_shares_of) T.f_shares_of (ok_shares_of T) (fun F => kbindsN F 0 ["weights"] [(2, 0)] fun _ _ _ _ _ _ us ws l1 l2 => match us, ws, l1, l2 with | [], [_], _, _ => rfl)
theorem g_neF {H : Hp} {Q : VK} {p q : Addr} {n d n' d' : Int} (i : InsK K (CS K)) (c : Cls K (CS K)) (nf : PySem.W.notFirst K (CS K) (.ref (CS K)) = true) (f : Fq K H p n d) (f' : Fq K H q n' d') (k : Q (.bl (!decide (n * d' = n' * d))) H) : rOwnNe K (CS K) (spEqS K) (.ref p) (.ref q) H Q := by
  obtain ⟨dx, hp⟩ := f.sh
  obtain ⟨dy, hq⟩ := f'.sh
  exact g_ownNe hp (i.ty c hq) nf ⟨p, .ref q, _, _, rfl, f.sh, .inl ⟨q, _, _, rfl, f'.sh, _, rfl, by rw [eqF f f']; exact k⟩⟩
structure Onf (K : PySem.W.Frag) (H : Hp) (a l s m F G fn gn : Addr) (ns ms : List Int) (D E : Int) : Prop where
  bg : Bag H a l
  hs : ShH true K H s ns D
  hm : ShH true K H m ms E
  hF : H F = some (.lst [.ref fn, .int D])
  hf : H fn = some (.lst (ns.map V.int))
  hG : H G = some (.lst [.ref gn, .int E])
  hg : H gn = some (.lst (ms.map V.int))
  ne : s ≠ a ∧ m ≠ a ∧ F ≠ a ∧ G ≠ a ∧ fn ≠ a ∧ gn ≠ a
section
variable {H H' : Hp} {a l s m F G fn gn : Addr} {ns ms : List Int} {D E : Int}
theorem Onf.sm (h : Onf K H a l s m F G fn gn ns ms D E) (c : Same H H') : Onf K H' a l s m F G fn gn ns ms D E :=
  ⟨bag_sm h.bg c, h.hs.sm c, h.hm.sm c, c _ _ h.hF, c _ _ h.hf, c _ _ h.hG, c _ _ h.hg, h.ne⟩
theorem Onf.chg (h : Onf K H a l s m F G fn gn ns ms D E) (B : Bag H' a l) (c : Chg a H H') : Onf K H' a l s m F G fn gn ns ms D E := by
  obtain ⟨_, _, _, _, _, hB, _⟩ := h.bg
  obtain ⟨n1, n2, n3, n4, n5, n6⟩ := h.ne
  exact ⟨B, h.hs.chg n1 hB c, h.hm.chg n2 hB c, c _ _ n3 h.hF, c _ _ n5 h.hf, c _ _ n4 h.hG, c _ _ n6 h.hg, h.ne⟩
theorem ShH.bag {b : Bool} {x : Addr} (h : ShH b K H x ns D) (B : Bag H a l) (ne : x ≠ a) (c : Chg a H H') : ShH b K H' x ns D := by
  obtain ⟨_, _, _, _, _, hB, _⟩ := B
  exact h.chg ne hB c
end
/-- whole numbers from two lists of whole numbers -/
theorem g_zmI {g : TG} {tt : TT} {te : TE} {vs : List Nat} {σ σ0 : L2.St} {H : Hp} {Q : VK} {a e : Addr} {ns ms : List Int} {f : Int → Int → Int} (h1 : H a = some (.lst (ns.map V.int))) (h2 : H e = some (.lst (ms.map V.int))) (len : ns.length = ms.length) (le : ns.length ≤ 1000) (hw : wipe σ vs = σ0)
    (st : ∀ (T Dd : Addr) (n m : Int) (H' : Hp) (N : Hp → Prop), n ∈ ns → m ∈ ms → H' T = some (.tup [.int n, .int m]) → TurnD Dd N (.int (f n m)) H' → Turn1 g tt te vs σ0 Dd (.ref T) H' N)
    (fin : ∀ Dd H', H Dd = none → Same H H' → H' Dd = some (.lst ((List.zipWith f ns ms).map V.int)) → Q (.ref Dd) H') : ZipR K [.ref a, .ref e] (fun J H1 => LcG J g tt te vs σ Q H1) H := by
  refine g_zipL (SqL.of h1) (SqL.of h2) (lcZ (xs := ns.map V.int) (ys := ms.map V.int) (by rw [List.length_map, List.length_map]; exact len) hw fun Dd hD =>
    ⟨fun i H' => Same H H' ∧ H' Dd = some (.lst (((List.zipWith f ns ms).take i).map V.int)), ⟨same_new hD, upd_same⟩, fun i H' b => ⟨SqL.of (b.1 _ _ h1), SqL.of (b.1 _ _ h2)⟩, ?_, ?_⟩)
  · intro i x y T H' hx hy b hT
    rw [List.getElem?_map, Option.map_eq_some_iff] at hx hy
    obtain ⟨n, hn, rfl⟩ := hx
    obtain ⟨m, hm, rfl⟩ := hy
    have hi := (List.getElem?_eq_some_iff.mp hn).1
    have s3 : Same H' (upd H' T (.tup [.int n, .int m])) := same_new hT
    refine st T Dd n m _ _ (List.mem_of_getElem? hn) (List.mem_of_getElem? hm) upd_same ?_
    refine g_turnD (s3 _ _ b.2) (by rw [List.length_map, List.length_take]; omega) ⟨fun c o hc => ?_, ?_⟩
    · rw [upd_ne (ne_of_none hc hD)]
      exact s3 _ _ (b.1 _ _ hc)
    · rw [List.take_succ, List.getElem?_zipWith, hn, hm, List.map_append]
      exact upd_same
  · intro H' b
    refine fin Dd H' hD b.1 ?_
    have := b.2
    rwa [List.take_of_length_le (by rw [List.length_zipWith, List.length_map]; omega)] at this
theorem el_of {ns : List Int} {D n : Int} (p : Prt ns D) (h : n ∈ ns) : 0 ≤ n ∧ n.natAbs < 2 ^ 100 := by
  obtain ⟨i, hi, e⟩ := List.getElem_of_mem h
  exact p.el (i := i) (by rw [List.getElem?_eq_getElem hi, e])
theorem rest_of {D E : Int} : ∀ {ns ms : List Int}, ns.length = ms.length → List.zipWith (fun n u => n * E - u) ns (minL ns ms D E) = restL ns ms D E
  | [], [], _ => rfl
  | a :: ns, b :: ms, h => by
    have e1 : minL (a :: ns) (b :: ms) D E = min (a * E) (b * D) :: minL ns ms D E := rfl
    have e2 : restL (a :: ns) (b :: ms) D E = (a * E - min (a * E) (b * D)) :: restL ns ms D E := rfl
    rw [e1, e2, List.zipWith_cons_cons, rest_of (by simpa using h)]
  | [], _ :: _, h => by simp at h
  | _ :: _, [], h => by simp at h
def spOne (K : PySem.W.Frag) : Sp := fun vs H Q _ => ∃ (a l s m F G fn gn : Addr) (ns ms : List Int) (D E : Int), vs = [.ref a, .ref s, .ref m, .ref F, .ref G] ∧ Onf K H a l s m F G fn gn ns ms D E ∧ ns.length = ms.length ∧ ns.length ≤ 1000 ∧ Prt ns D ∧ Prt ms E ∧
  ∀ r H', Bag H' a l → Chg a H H' → ((restL ns ms D E).sum = 0 → H' r = some (.lst [.bl true, .non])) →
    ((restL ns ms D E).sum ≠ 0 → ∃ y f n, H' r = some (.lst [.bl true, .ref y]) ∧ H' y = some (.lst [.ref f, .ref n]) ∧ ShH true K H' f (restL ns ms D E) (restL ns ms D E).sum ∧ H' n = some (.lst ((restL ns ms D E).map V.int)) ∧
      H r = none ∧ H y = none ∧ H f = none ∧ H n = none ∧ f ≠ y ∧ f ≠ n) → Q (.ref r) H'
theorem ok_one (T : Top K mg) {f : Addr} {fd : FuncData} (F : FnP K "_law_one_place" s__law_one_place f fd) : FnOk P w K mg base CX0 9 f fd P__law_one_place (spOne K) := by
  have cl_Share := T.cl_Share; have na_Share_top := T.na_Share_top; have na_Share_bottom := T.na_Share_bottom; have in_Share := T.in_Share; have ki_o_Share_o_Share := T.ki_o_Share_o_Share; have ki_int_o_Share := T.ki_int_o_Share; have ki_bool_o_Share := T.ki_bool_o_Share; have ki_NoneType_o_Share := T.ki_NoneType_o_Share; have ki_str_o_Share := T.ki_str_o_Share; have ki_list_o_Share := T.ki_list_o_Share; have ki_tuple_o_Share := T.ki_tuple_o_Share; have nf_Share_o_Share := T.nf_Share_o_Share; have nf_Share_int := T.nf_Share_int; have nf_Share_bool := T.nf_Share_bool; have nf_Share_NoneType := T.nf_Share_NoneType; have nf_Share_str := T.nf_Share_str; have nf_Share_list := T.nf_Share_list; have nf_Share_tuple := T.nf_Share_tuple; have ne_Share := T.ne_Share
  have C__law_draw : Cal P w K mg base "_law_draw" 2 P__law_draw (spDraw 100000000000) := c_draw2 T
  have C__law_is_share := c_is_share (P := P) (w := w) (base := base) T
  have C__law_are := c_are (P := P) (w := w) (base := base) T
  have C__law_together := c_tog (P := P) (w := w) (base := base) T
  have C_guessed_shares := c_gs (P := P) (w := w) (base := base) T
  have KC_kept_share_0_q_p := kc_kept_share_0_q_p (P := P) (w := w) (base := base) T
  have KC_rest_shares_0_q_p := kc_rest_shares_0_q_p (P := P) (w := w) (base := base) T
  have KC_guessed_shares_0_q_p := kc_guessed_shares_0_q_p (P := P) (w := w) (base := base) T
  have KK_Share_1_ := kk_Share_1_ (P := P) (w := w) (base := base) T
  have MC_Share___eq__ := mc_Share___eq__ (P := P) (w := w) (base := base) T
  refine F.ok sc__law_one_place (fun vs H Q E h => ?_) (fun cdv A outer s H vs Q E hr h => ?_)
  · obtain ⟨a, l, s, m, F, G, fn, gn, ns, ms, D, E, rfl, _⟩ := h
    rfl
  · obtain ⟨a, l, s, m, F, G, fn, gn, ns, ms, D, E, rfl, W, len, le, p1, p2, k⟩ := h
    refine ⟨_, PSs.nox (pss_cons (ps_asg (pe_tup (pa_cons (pv 3) (pa_cons (pv 4) pa_nil))) (k_pgt (K := K) (n := 2) (by rfl) (by rfl) (pgs_cons (k_pgl (K := K) (n := 2) (by rfl) (by rfl) (pgs_cons (pg_name (i := 5) sc__law_one_place.nd rfl (by first | exact Or.inl rfl | exact Or.inr rfl)) (pgs_cons (pg_name (i := 6) sc__law_one_place.nd rfl (by first | exact Or.inl rfl | exact Or.inr rfl)) pgs_nil)) (by rfl) (by rfl)) (pgs_cons (k_pgl (K := K) (n := 2) (by rfl) (by rfl) (pgs_cons (pg_name (i := 7) sc__law_one_place.nd rfl (by first | exact Or.inl rfl | exact Or.inr rfl)) (pgs_cons (pg_name (i := 8) sc__law_one_place.nd rfl (by first | exact Or.inl rfl | exact Or.inr rfl)) pgs_nil)) (by rfl) (by rfl)) pgs_nil)) (by rfl) (by rfl)))
    (pss_cons (ps_par (i := 9) (j := 10) (by rfl) sc__law_one_place.nd rfl rfl (by decide) rfl rfl (pa_cons (pe_callTy (k_list (K := K) (by rfl)) (by rfl) T.z_list (by decide +kernel) (pa_cons (pv 1) pa_nil)) (pa_cons (pe_callTy (k_list (K := K) (by rfl)) (by rfl) T.z_list (by decide +kernel) (pa_cons (pv 2) pa_nil)) pa_nil)) (by rfl))
    (C8.pss_cut (ps_if (pt_cmpR op_eq (pe_cal C__law_draw (hr.mono (by first | decide | omega)) (by rfl) (pa_cons (pv 0) (pa_cons pe_int pa_nil))) pe_int (nomark _))
    (pss_one (ps_set (i := 9) sc__law_one_place.nd rfl (by first | exact Or.inl rfl | exact Or.inr rfl) (pe_callTy (k_tuple (K := K) (by rfl)) (by rfl) T.z_tuple (by decide +kernel) (pa_cons (pv 1) pa_nil))))
    pss_nil)
    (C8.pss_cut (ps_if (pt_cmpR op_eq (pe_cal C__law_draw (hr.mono (by first | decide | omega)) (by rfl) (pa_cons (pv 0) (pa_cons pe_int pa_nil))) pe_int (nomark _))
    (pss_one (ps_set (i := 10) sc__law_one_place.nd rfl (by first | exact Or.inl rfl | exact Or.inr rfl) (pe_callTy (k_tuple (K := K) (by rfl)) (by rfl) T.z_tuple (by decide +kernel) (pa_cons (pv 2) pa_nil))))
    pss_nil)
    (pss_cons (ps_setLc (i := 11) (own := [("one", 12), ("two", 13)]) (g := gTup K 2 (gCons (gName 12) (gCons (gName 13) gNil))) (by rfl) sc__law_one_place.nd rfl rfl (sw_true rfl rfl rfl (by decide +kernel)) (k_zip (K := K) (by rfl) (by rfl) T.z_zip (pa_cons (pv 5) (pa_cons (pv 7) pa_nil))) (blkOk_by (own := [("one", 12), ("two", 13)]) (N := N__law_one_place) (sc := defScope s__law_one_place) (by decide +kernel)) (fun _ _ _ _ _ => (k_pgt (K := K) (n := 2) (by rfl) (by rfl) (pgs_cons (pg_name (i := 12) sc__law_one_place.nd rfl (Or.inl rfl)) (pgs_cons (pg_name (i := 13) sc__law_one_place.nd rfl (Or.inl rfl)) pgs_nil)) (by rfl) (by rfl))) (fun _ _ _ _ _ => pts_nil) (fun _ _ _ _ _ => (pe_callB (c_min2 (by rfl)) (by rfl) T.z_min (by decide +kernel) (pa_cons (pe_callTy c_int (by rfl) T.z_int (by decide +kernel) (pa_cons (pe_op op_mulW (pv 12) (pv 8)) pa_nil)) (pa_cons (pe_callTy c_int (by rfl) T.z_int (by decide +kernel) (pa_cons (pe_op op_mulW (pv 13) (pv 6)) pa_nil)) pa_nil)))))
    (pss_cons (ps_setLc (i := 14) (own := [("one", 12), ("two", 13)]) (g := gTup K 2 (gCons (gName 12) (gCons (gName 13) gNil))) (by rfl) sc__law_one_place.nd rfl rfl (sw_true rfl rfl rfl (by decide +kernel)) (k_zip (K := K) (by rfl) (by rfl) T.z_zip (pa_cons (pv 5) (pa_cons (pv 11) pa_nil))) (blkOk_by (own := [("one", 12), ("two", 13)]) (N := N__law_one_place) (sc := defScope s__law_one_place) (by decide +kernel)) (fun _ _ _ _ _ => (k_pgt (K := K) (n := 2) (by rfl) (by rfl) (pgs_cons (pg_name (i := 12) sc__law_one_place.nd rfl (Or.inl rfl)) (pgs_cons (pg_name (i := 13) sc__law_one_place.nd rfl (Or.inl rfl)) pgs_nil)) (by rfl) (by rfl))) (fun _ _ _ _ _ => pts_nil) (fun _ _ _ _ _ => (pe_op op_sub (pe_op op_mulW (pv 12) (pv 8)) (pv 13))))
    (pss_cons (ps_if (pt_not (pt_val (pe_cal C__law_is_share (hr.mono (by first | decide | omega)) (by rfl) (pa_cons (pe_kcal0 KC_kept_share_0_q_p (hr.mono (by first | decide | omega)) (by rfl) (pk_cons (pv 10) (pk_cons (pv 9) pk_nil)) ) (pa_cons (pe_callB (k_sum (K := K) (by rfl) (by rfl)) (by rfl) T.z_sum (by decide +kernel) (pa_cons (pv 11) pa_nil)) (pa_cons (pe_op op_mulW (pv 6) (pv 8)) pa_nil))))))
    (pss_one (ps_ret (pe_lst (pa_cons pe_bl (pa_cons pe_non pa_nil)))))
    pss_nil)
    (C8.pss_cut (ps_set (i := 15) sc__law_one_place.nd rfl (by first | exact Or.inl rfl | exact Or.inr rfl) (pe_kcal0 KC_rest_shares_0_q_p (hr.mono (by first | decide | omega)) (by rfl) (pk_cons (pv 10) (pk_cons (pv 9) pk_nil)) ))
    (C8.pss_cut (ps_if (pt_cmpR op_eq (pe_callB (k_sum (K := K) (by rfl) (by rfl)) (by rfl) T.z_sum (by decide +kernel) (pa_cons (pv 14) pa_nil)) pe_int (nomark _))
    (pss_one (ps_if (pt_cmpR op_notN (pv 15) pe_non (nomark _))
    (pss_one (ps_ret (pe_lst (pa_cons pe_bl (pa_cons pe_non pa_nil)))))
    pss_nil))
    (pss_one (ps_if (PW.pt (pw_or (pt_not (pt_val (pe_cal C__law_are (hr.mono (by first | decide | omega)) (by rfl) (pa_cons (pv 15) (pa_cons (pv 14) (pa_cons (pe_callB (k_sum (K := K) (by rfl) (by rfl)) (by rfl) T.z_sum (by decide +kernel) (pa_cons (pv 14) pa_nil)) pa_nil)))))) (pw_or1 (pt_cmpR (k_ownNe (K := K) (by rfl) T.ne_Share MC_Share___eq__ (hr.mono (by first | decide | omega))) (pe_cal C__law_together (hr.mono (by first | decide | omega)) (by rfl) (pa_cons (pv 15) pa_nil)) (pe_mkk T.g_Share KK_Share_1_ (hr.mono (by first | decide | omega)) (by rfl) (pa_cons pe_int pa_nil) pk_nil) (nomark _)))))
    (pss_one (ps_ret (pe_lst (pa_cons pe_bl (pa_cons pe_non pa_nil)))))
    pss_nil)))
    (pss_cons (ps_set (i := 16) sc__law_one_place.nd rfl (by first | exact Or.inl rfl | exact Or.inr rfl) (pe_cal C_guessed_shares (hr.mono (by first | decide | omega)) (by rfl) (pa_cons (pv 9) (pa_cons (pv 10) pa_nil))))
    (pss_cons (ps_if (PW.pt (pw_or (pt_not (pt_val (pe_cal C__law_are (hr.mono (by first | decide | omega)) (by rfl) (pa_cons (pv 16) (pa_cons (pv 5) (pa_cons (pv 6) pa_nil)))))) (pw_or1 (pt_not (pt_val (pe_cal C__law_are (hr.mono (by first | decide | omega)) (by rfl) (pa_cons (pe_kcal0 KC_guessed_shares_0_q_p (hr.mono (by first | decide | omega)) (by rfl) (pk_cons (pv 10) (pk_cons (pv 9) pk_nil)) ) (pa_cons (pv 5) (pa_cons (pv 6) pa_nil)))))))))
    (pss_one (ps_ret (pe_lst (pa_cons pe_bl (pa_cons pe_non pa_nil)))))
    pss_nil)
    (pss_cons (ps_set (i := 17) sc__law_one_place.nd rfl (by first | exact Or.inl rfl | exact Or.inr rfl) (pe_and (pe_cal C__law_are (hr.mono (by first | decide | omega)) (by rfl) (pa_cons (pe_callTy (k_list (K := K) (by rfl)) (by rfl) T.z_list (by decide +kernel) (pa_cons (pv 9) pa_nil)) (pa_cons (pv 5) (pa_cons (pv 6) pa_nil)))) (pe_one (pe_cal C__law_are (hr.mono (by first | decide | omega)) (by rfl) (pa_cons (pe_callTy (k_list (K := K) (by rfl)) (by rfl) T.z_list (by decide +kernel) (pa_cons (pv 10) pa_nil)) (pa_cons (pv 7) (pa_cons (pv 8) pa_nil)))))))
    (pss_one (ps_ret (pe_lst (pa_cons (pe_and (pv 17) (pe_one (pe_cmpR op_eq (pe_callB (k_len (K := K) (by rfl)) (by rfl) T.z_len (by decide +kernel) (pa_cons (pv 9) pa_nil)) (pe_callB (k_len (K := K) (by rfl)) (by rfl) T.z_len (by decide +kernel) (pa_cons (pv 5) pa_nil)) (nomark _)))) (pa_cons (pe_ifExp (pt_cmpR op_gt (pe_callB (k_sum (K := K) (by rfl) (by rfl)) (by rfl) T.z_sum (by decide +kernel) (pa_cons (pv 14) pa_nil)) pe_int (nomark _)) (pe_lst (pa_cons (pv 15) (pa_cons (pv 14) pa_nil))) pe_non) pa_nil))))))))))))))))), ?_⟩
    try simp only [cxK]
    rw [show L2.start N__law_one_place [.ref a, .ref s, .ref m, .ref F, .ref G] = [some (.ref a), some (.ref s), some (.ref m), some (.ref F), some (.ref G), none, none, none, none, none, none, none, none, none, none, none, none, none] from rfl]
    have rr := p1.mul p2
    have mm := p1.mins p2 len
    have hF := W.hF
    have hG := W.hG
    walk_at "go"
    rename_i t0 ht0
    have s0 := same_new ht0 (o := .tup [.ref F, .ref G])
    have W := W.sm s0
    have c0 : Chg a H (upd H t0 (.tup [.ref F, .ref G])) := Same.chg s0
    generalize upd H t0 (.tup [.ref F, .ref G]) = H0 at W c0 ⊢
    clear s0 ht0 hF hG
    obtain ⟨ps, e1, q1, f1⟩ := W.hs
    have q1 : H0 s = some (.lst (ps.map V.ref)) := q1
    refine g_list (.inl (SqL.of q1)) fun x1 hx1 => ?_
    have s1 := same_new hx1 (o := .lst (ps.map V.ref))
    have W1 := W.sm s1
    have S1 : ShH true K (upd H0 x1 (.lst (ps.map V.ref))) x1 ns D := ⟨ps, e1, upd_same, fun i p n g1 g2 => (f1 i p n g1 g2).sm s1⟩
    have nx1 := (bag_apart W.bg hx1).1
    have c1 := c0.trans (Same.chg s1)
    have fx1 := chg_free c0 nx1 hx1
    generalize upd H0 x1 (.lst (ps.map V.ref)) = H1 at W1 S1 c1 ⊢
    clear s1 q1 f1 W c0 hx1
    walk_at "go"
    obtain ⟨qs, e2, q2, f2⟩ := W1.hm
    have q2 : H1 m = some (.lst (qs.map V.ref)) := q2
    refine g_list (.inl (SqL.of q2)) fun x2 hx2 => ?_
    have s2 := same_new hx2 (o := .lst (qs.map V.ref))
    have W2 := W1.sm s2
    have S1 := S1.sm s2
    have S2 : ShH true K (upd H1 x2 (.lst (qs.map V.ref))) x2 ms E := ⟨qs, e2, upd_same, fun i p n g1 g2 => (f2 i p n g1 g2).sm s2⟩
    have nx2 := (bag_apart W1.bg hx2).1
    have c2 := c1.trans (Same.chg s2)
    generalize upd H1 x2 (.lst (qs.map V.ref)) = H2 at W2 S1 S2 c2 ⊢
    clear s2 q2 f2 W1 c1 hx2
    walk_at "go"
    refine g_cut (fun σ' H' => ∃ b y1, σ' = [some (.ref a), some (.ref s), some (.ref m), some (.ref F), some (.ref G), some (.ref fn), some (.int D), some (.ref gn), some (.int E), some (.ref y1), some (.ref x2), none, none, none, none, none, none, none] ∧
      Onf K H' a l s m F G fn gn ns ms D E ∧ ShH b K H' y1 ns D ∧ ShH true K H' x2 ms E ∧ Chg a H H' ∧ y1 ≠ a) ?_ ?_
    · walk_at "go"
      refine g_drawB W2.bg ⟨by omega, by omega⟩ fun r3 H3 r3a r3b B3 c3 => ?_
      have W3 := W2.chg B3 c3
      have S1 := S1.bag W2.bg nx1 c3
      have S2 := S2.bag W2.bg nx2 c3
      walk_at "go"
      refine g_iteD (fun h1 => ?_) (fun h1 => ?_)
      · obtain ⟨ps, e1, q1, f1⟩ := W3.hs
        have q1 : H3 s = some (.lst (ps.map V.ref)) := q1
        walk_at "go"
        rename_i x3 hx3
        have s3 := same_new hx3 (o := .tup (ps.map V.ref))
        exact ⟨false, x3, rfl, W3.sm s3, ⟨ps, e1, upd_same, fun i p n g1 g2 => (f1 i p n g1 g2).sm s3⟩, S2.sm s3, (c2.trans c3).trans (Same.chg s3), (bag_apart W3.bg hx3).1⟩
      · walk_at "go"
        exact ⟨true, x1, rfl, W3, S1, S2, c2.trans c3, nx1⟩
    clear S1 S2 W2 c2
    rintro σ' H3 ⟨b, y1, rfl, W3, S1, S2, c3, ny1⟩
    walk_at "go"
    refine g_cut (fun σ' H' => ∃ c y2, σ' = [some (.ref a), some (.ref s), some (.ref m), some (.ref F), some (.ref G), some (.ref fn), some (.int D), some (.ref gn), some (.int E), some (.ref y1), some (.ref y2), none, none, none, none, none, none, none] ∧
      Onf K H' a l s m F G fn gn ns ms D E ∧ ShH b K H' y1 ns D ∧ ShH c K H' y2 ms E ∧ Chg a H H') ?_ ?_
    · walk_at "go"
      refine g_drawB W3.bg ⟨by omega, by omega⟩ fun r4 H4 r4a r4b B4 c4 => ?_
      have W4 := W3.chg B4 c4
      have S1 := S1.bag W3.bg ny1 c4
      have S2 := S2.bag W3.bg nx2 c4
      walk_at "go"
      refine g_iteD (fun h1 => ?_) (fun h1 => ?_)
      · obtain ⟨ps, e1, q1, f1⟩ := W4.hm
        have q1 : H4 m = some (.lst (ps.map V.ref)) := q1
        walk_at "go"
        rename_i x3 hx3
        have s3 := same_new hx3 (o := .tup (ps.map V.ref))
        exact ⟨false, x3, rfl, W4.sm s3, S1.sm s3, ⟨ps, e1, upd_same, fun i p n g1 g2 => (f1 i p n g1 g2).sm s3⟩, (c3.trans c4).trans (Same.chg s3)⟩
      · walk_at "go"
        exact ⟨true, x2, rfl, W4, S1, S2, c3.trans c4⟩
    clear S1 S2 W3 c3
    rintro σ' H4 ⟨c, y2, rfl, W4, S1, S2, c4⟩
    have hf := W4.hf
    have hg := W4.hg
    walk_at "go"
    refine g_zmI (f := fun n m => min (n * E) (m * D)) (σ0 := [some (.ref a), some (.ref s), some (.ref m), some (.ref F), some (.ref G), some (.ref fn), some (.int D), some (.ref gn), some (.int E), some (.ref y1), some (.ref y2), none, none, none, none, none, none, none]) hf hg len le rfl ?_ ?_
    · intro T' Dd n m' H' N hn hm hT' nx
      have bn := el_of p1 hn
      have bm := el_of p2 hm
      have m1 : CMulW n E := mul_c bn.2 p2.lt (by decide) (by decide)
      have m2 : CMulW m' D := mul_c bm.2 p1.lt (by decide) (by decide)
      walk_at "go"
      rw [show (if m' * D < n * E then m' * D else n * E) = min (n * E) (m' * D) by rw [Int.min_def]; split <;> split <;> omega]
      exact nx
    intro z1 H5 hz1 s5 e5
    have e5 : H5 z1 = some (.lst ((minL ns ms D E).map V.int)) := e5
    have hf := s5 _ _ hf
    walk_at "go"
    refine g_zmI (f := fun n u => n * E - u) (σ0 := [some (.ref a), some (.ref s), some (.ref m), some (.ref F), some (.ref G), some (.ref fn), some (.int D), some (.ref gn), some (.int E), some (.ref y1), some (.ref y2), some (.ref z1), none, none, none, none, none, none]) hf e5 (minL_len len).symm le rfl ?_ ?_
    · intro T' Dd n u H' N hn hm hT' nx
      have bn := el_of p1 hn
      have m1 : CMulW n E := mul_c bn.2 p2.lt (by decide) (by decide)
      walk_at "go"
      exact nx
    intro z2 H6 hz2 s6 e6
    rw [rest_of len] at e6
    have e5 := s6 _ _ e5
    have hz1 : H4 z1 = none := hz1
    have hz2 : H4 z2 = none := s5.free hz2
    have s6 := s5.trans s6
    have W6 := W4.sm s6
    have S1 := S1.sm s6
    have S2 := S2.sm s6
    have m1 : CMulW D E := mul_c p1.lt p2.lt (by decide) (by decide)
    have c6 := c4.trans (Same.chg s6)
    have fz2 : H z2 = none := chg_free c4 (ne_bag W4.bg hz2) hz2
    clear s5 W4 c4 hf hg hz1 hz2 s6
    walk_at "go"
    show spKept K [.ref y1, .ref y2] H6 _ _
    refine g_kept ⟨S1.l, S2.l, len, le, p1, p2⟩ fun r1 H7 s7 f7 => ?_
    have W7 := W6.sm s7
    have S1 := S1.sm s7
    have S2 := S2.sm s7
    have e5 := s7 _ _ e5
    have e6 := s7 _ _ e6
    have fz : ∀ f, H7 f = none → f ≠ z2 := fun f h => Ne.symm (ne_of_none e6 h)
    have c7 := c6.trans (Same.chg s7)
    clear c6 s7 W6
    walk_at "go"
    refine g_isF f7 rfl rfl ⟨lt_pow mm.2.2.2.2.1 (by decide), lt_pow rr.2 (by decide)⟩ ?_
    clear f7
    walk_at "go"
    refine g_cut (fun σ' H' => ∃ v, σ' = [some (.ref a), some (.ref s), some (.ref m), some (.ref F), some (.ref G), some (.ref fn), some (.int D), some (.ref gn), some (.int E), some (.ref y1), some (.ref y2), some (.ref z1), none, none, some (.ref z2), some v, none, none] ∧ Same H7 H' ∧
      (((restL ns ms D E).sum = 0 ∧ v = .non) ∨ ((restL ns ms D E).sum ≠ 0 ∧ ∃ f, v = .ref f ∧ H7 f = none ∧ ShH true K H' f (restL ns ms D E) (restL ns ms D E).sum))) ?_ ?_
    · walk_at "go"
      show spRest K [.ref y1, .ref y2] H7 _ _
      refine ⟨b, c, y1, y2, ns, ms, D, E, rfl, ⟨S1.l, S2.l, len, le, p1, p2⟩, fun z H8 s8 => ?_, fun z r H8 hn s8 sl => ?_⟩
      · walk_at "go"
        exact ⟨_, rfl, s8, .inl ⟨z, rfl⟩⟩
      · walk_at "go"
        exact ⟨_, rfl, s8, .inr ⟨z, r, rfl, hn, sl⟩⟩
    rintro σ' H8 ⟨v, rfl, s8, hv⟩
    have e6' := s8 _ _ e6
    refine g_cut (fun σ' H' => σ' = [some (.ref a), some (.ref s), some (.ref m), some (.ref F), some (.ref G), some (.ref fn), some (.int D), some (.ref gn), some (.int E), some (.ref y1), some (.ref y2), some (.ref z1), none, none, some (.ref z2), some v, none, none] ∧ Same H7 H' ∧
      (((restL ns ms D E).sum = 0 ∧ v = .non) ∨ ((restL ns ms D E).sum ≠ 0 ∧ ∃ f, v = .ref f ∧ H7 f = none ∧ ShH true K H' f (restL ns ms D E) (restL ns ms D E).sum))) ?_ ?_
    · walk_at "go"
      refine g_iteD (fun h1 => ?_) (fun h1 => ?_)
      · rcases hv with ⟨z, rfl⟩ | ⟨z, _⟩
        · walk_at "go"
          refine ⟨rfl, _, rfl, ?_⟩
          rw [if_neg (by simp)]
          exact ⟨rfl, s8, .inl ⟨z, rfl⟩⟩
        · exact absurd h1 z
      · rcases hv with ⟨z, _⟩ | ⟨z, f, rfl, hn, sl⟩
        · exact absurd z h1
        have bR : (restL ns ms D E).sum.natAbs < 2 ^ 200 := mm.2.2.2.2.2
        have bE : ∀ n ∈ restL ns ms D E, n.natAbs < 2 ^ 1000 := fun n hn => by
          obtain ⟨i, hi, e⟩ := List.getElem_of_mem hn
          have := el_le restL_nn (i := i) (n := n) (by rw [List.getElem?_eq_getElem hi, e])
          exact lt_pow (Nat.lt_of_le_of_lt (by omega) bR) (by decide)
        walk_at "go"
        refine g_are sl.l (SqL.of e6') (by rw [restL_len len]; exact le) bE (lt_pow bR (by decide)) fun H9 s9 => ?_
        have sl := sl.sm s9
        walk_at "go"
        refine ⟨f, _, _, rfl, sl.l, restL_nn, lt_pow bR (by decide), lt_pow bR (by decide), z, fun r3 H10 s10 f10 => ?_⟩
        have sl := sl.sm s10
        walk_at "go"
        refine g_share (t := 1) (b := 1) rfl rfl (fun _ => rfl) (by decide) (by decide) fun r4 H11 _ s11 g11 => ?_
        have sl := sl.sm s11
        refine g_neF in_Share cl_Share nf_Share_o_Share (f10.sm s11) (fq_one g11) ?_
        rw [decide_eq_true (show (restL ns ms D E).sum * 1 = 1 * (restL ns ms D E).sum by omega)]
        walk_at "go"
        exact ⟨rfl, ((s8.trans s9).trans s10).trans s11, .inr ⟨z, f, rfl, hn, sl⟩⟩
    clear hv s8 e6' 
    rintro σ' H9 ⟨rfl, s9, hv⟩
    have W9 := W7.sm s9
    have S1 := S1.sm s9
    have S2 := S2.sm s9
    have hf := W9.hf
    have hg := W9.hg
    have hF := W9.hF
    have hG := W9.hG
    have e6 := s9 _ _ e6
    have bn : ∀ n ∈ ns, n.natAbs < 2 ^ 1000 := fun n hn => lt_pow (el_of p1 hn).2 (by decide)
    have bm : ∀ n ∈ ms, n.natAbs < 2 ^ 1000 := fun n hn => lt_pow (el_of p2 hn).2 (by decide)
    walk_at "go"
    refine ⟨b, c, y1, y2, ns, ms, D, E, rfl, ⟨S1.l, S2.l, len, le, p1, p2⟩, fun r H10 hn s10 sl => ?_⟩
    walk_at "go"
    refine g_are sl (SqL.of (s10 _ _ hf)) le bn (lt_pow p1.lt (by decide)) fun H11 s11 => ?_
    have s12 := s10.trans s11
    walk_at "go"
    show spGs K [.ref y1, .ref y2] H11 _ _
    refine ⟨b, c, y1, y2, ns, ms, D, E, rfl, ⟨(S1.sm s12).l, (S2.sm s12).l, len, le, p1, p2⟩, fun r2 H13 hn2 s13 sl2 => ?_⟩
    have s14 := s12.trans s13
    walk_at "go"
    refine g_are sl2 (SqL.of (s14 _ _ hf)) le bn (lt_pow p1.lt (by decide)) fun H15 s15 => ?_
    have s16 := s14.trans s15
    walk_at "go"
    obtain ⟨ps, e1, q1, f1⟩ := (S1.sm s16).l
    refine g_list (sqB_lt q1) fun u1 hu1 => ?_
    have s17 := same_new hu1 (o := .lst (ps.map V.ref))
    have s18 := s16.trans s17
    walk_at "go"
    refine g_are (⟨ps, e1, SqL.of upd_same, fun i p n g1 g2 => (f1 i p n g1 g2).sm s17⟩ : ShL true K _ u1 ns D) (SqL.of (s18 _ _ hf)) le bn (lt_pow p1.lt (by decide)) fun H19 s19 => ?_
    have s20 := s18.trans s19
    refine ⟨true, rfl, ?_⟩
    rw [if_pos rfl]
    walk_at "go"
    obtain ⟨qs, e2, q2, f2⟩ := (S2.sm s20).l
    refine g_list (sqB_lt q2) fun u2 hu2 => ?_
    have s21 := same_new hu2 (o := .lst (qs.map V.ref))
    have s22 := s20.trans s21
    walk_at "go"
    refine g_are (⟨qs, e2, SqL.of upd_same, fun i p n g1 g2 => (f2 i p n g1 g2).sm s21⟩ : ShL true K _ u2 ms E) (SqL.of (s22 _ _ hg)) (by rw [← len]; exact le) bm (lt_pow p2.lt (by decide)) fun H23 s23 => ?_
    have s24 := s22.trans s23
    obtain ⟨ps', e1', q1', f1'⟩ := (S1.sm s24).l
    have hf := s24 _ _ hf
    have e6 := s24 _ _ e6
    walk_at "go"
    refine g_len (sqB_lt q1') ?_
    rw [List.length_map, e1']
    walk_at "go"
    have ed : decide ((ns.length : Int) = ((ns.map V.int).length : Int)) = true := by rw [List.length_map]; exact decide_eq_true rfl
    have cF : Chg a H H23 := c7.trans (Same.chg (s9.trans s24))
    have B23 := (W9.sm s24).bg
    have fr : ∀ p, H23 p = none → H p = none := fun p hp => chg_free cF (ne_bag B23 hp) hp
    refine g_iteD (fun h1 => ?_) (fun h1 => ?_)
    · rcases hv with ⟨z, rfl⟩ | ⟨z, f, rfl, hn7, sl⟩
      · omega
      have ff : H f = none := chg_free c7 (ne_bag W7.bg hn7) hn7
      have sl := sl.sm s24
      walk_at "go"
      rename_i t1 ht1 t2 ht2
      have s25 := same_new ht1 (o := .lst [V.ref f, V.ref z2])
      have s26 := Same.lay s25 ht2 (o := .lst [V.bl true, V.ref t1])
      have nt : f ≠ t1 := by
        obtain ⟨_, _, q, _⟩ := sl
        exact ne_of_none q ht1
      rw [ed]
      exact k t2 _ (bag_sm B23 s26) (cF.trans (Same.chg s26)) (fun z0 => absurd z0 z) fun _ => ⟨t1, f, z2, upd_same, h_ne (ne_of_none upd_same ht2) upd_same, sl.sm s26, s26 _ _ e6, fr t2 (s25.free ht2), fr t1 ht1, ff, fz2, nt, fz f hn7⟩
    · walk_at "go"
      rename_i t1 ht1
      have s25 := same_new ht1 (o := .lst [V.bl true, V.non])
      rw [ed]
      exact k t1 _ (bag_sm B23 s25) (cF.trans (Same.chg s25)) (fun _ => upd_same) fun z => absurd (show (restL ns ms D E).sum = 0 by omega) z
theorem c_one (T : Top K mg) : Cal P w K mg base "_law_one_place" 9 P__law_one_place (spOne K) := cal_mk T.f__law_one_place (ok_one T) (fun F => F.bindsN fun _ _ _ _ _ _ us hl => match us, hl with | [_, _, _, _, _], _ => rfl)
end

set_option Elab.async false
set_option linter.all false
set_option maxRecDepth 100000
set_option maxHeartbeats 4000000
set_option exponentiation.threshold 5000
open PySem PySem.Spec L2




section
variable {P : Program} {w : World} {K : PySem.W.Frag} {mg : Str → Option Value} {base : Heap}
theorem wts_sum {M : Int} : ∀ {ns : List Int}, (∀ x ∈ ns, 0 ≤ x ∧ x ≤ M) → 0 ≤ ns.sum ∧ ns.sum ≤ M * ns.length
  | [], _ => by simp
  | n :: ns, h => by
    have h1 := h n List.mem_cons_self
    have h2 := wts_sum (ns := ns) fun m hm => h m (List.mem_cons_of_mem _ hm)
    rw [List.sum_cons, List.length_cons, Int.natCast_add, Int.mul_add]
    omega
theorem wts_lt {ns : List Int} {n : Nat} (h : Wts ns n) (hn : n ≤ 6) : 0 ≤ ns.sum ∧ ns.sum ≤ 5999999994 := by
  have := wts_sum h.2
  have := h.1
  omega
theorem partN_len {ns : List Int} : (partN ns).length = ns.length := by unfold partN; split <;> simp
theorem repl_sum (k : Nat) : (List.replicate k (0 : Int)).sum = 0 := by
  induction k with
  | zero => rfl
  | succ k ih => rw [List.replicate_succ, List.sum_cons, ih]; rfl
theorem part_prt {ns : List Int} {n : Nat} (h : Wts ns n) (h1 : 1 ≤ n) (hn : n ≤ 6) : Prt (partN ns) (partD ns) ∧ (partD ns).natAbs < 2 ^ 33 := by
  have h2 := wts_lt h hn
  by_cases z : ns.sum = 0
  · have e : partD ns = 1 := if_pos z
    have e2 := part_cons z (by rw [h.1]; exact h1)
    refine ⟨⟨?_, ?_, by rw [e]; decide, by rw [e]; decide⟩, by rw [e]; decide⟩
    · intro m hm
      rw [e2] at hm
      rcases List.mem_cons.mp hm with hm | hm
      · rw [hm]; decide
      · rw [List.eq_of_mem_replicate hm]; decide
    · rw [e2, e, List.sum_cons, repl_sum]; rfl
  · have e : partD ns = ns.sum := if_neg z
    have e2 : partN ns = ns := if_neg z
    have lt : ns.sum.natAbs < 2 ^ 33 := Nat.lt_of_le_of_lt (m := 5999999994) (by omega) (by decide)
    exact ⟨⟨by rw [e2]; exact fun m hm => (h.2 m hm).1, by rw [e2, e], by rw [e]; omega, by rw [e]; exact lt_pow lt (by decide)⟩, by rw [e]; exact lt⟩
structure Lw (K : PySem.W.Frag) (H : Hp) (a l x h s m F G fn gn : Addr) (ns N M : List Int) (D E : Int) : Prop where
  o : Onf K H a l s m F G fn gn N M D E
  hx : H x = some (.lst (ns.map V.int))
  hh : H h = some (.lst (ns.map V.int))
  na : x ≠ a ∧ h ≠ a ∧ h ≠ l ∧ s ≠ l
  dh : x ≠ h ∧ s ≠ h ∧ m ≠ h ∧ F ≠ h ∧ G ≠ h ∧ fn ≠ h ∧ gn ≠ h
  ds : x ≠ s ∧ m ≠ s ∧ F ≠ s ∧ G ≠ s ∧ fn ≠ s ∧ gn ≠ s
section
variable {H H' : Hp} {a l x h s m F G fn gn f : Addr} {ns N M : List Int} {D E : Int}
theorem Lw.sm (w : Lw K H a l x h s m F G fn gn ns N M D E) (c : Same H H') : Lw K H' a l x h s m F G fn gn ns N M D E :=
  ⟨w.o.sm c, c _ _ w.hx, c _ _ w.hh, w.na, w.dh, w.ds⟩
theorem Lw.chg (w : Lw K H a l x h s m F G fn gn ns N M D E) (B : Bag H' a l) (c : Chg a H H') : Lw K H' a l x h s m F G fn gn ns N M D E :=
  ⟨w.o.chg B c, c _ _ w.na.1 w.hx, c _ _ w.na.2.1 w.hh, w.na, w.dh, w.ds⟩
theorem ShH.ne {b : Bool} {p : Addr} (w : ShH b K H p N D) (hf : H f = none) : p ≠ f := by
  obtain ⟨_, _, q, _⟩ := w
  exact ne_of_none q hf
theorem ShH.upd {b : Bool} {p : Addr} {zs ys : List V} (w : ShH b K H p N D) (n : p ≠ f) (hf : H f = some (.lst zs)) : ShH b K (L2.upd H f (.lst ys)) p N D := by
  refine w.chg n hf fun c o n e => ?_
  rw [upd_ne n]
  exact e
theorem Lw.clr {zs ys : List V} (w0 : Lw K H a l x h s m F G fn gn ns N M D E) (w : Lw K H' a l x h s m F G fn gn ns N M D E) (hf : H f = none) (hf' : H' f = some (.lst zs)) : Lw K (upd H' f (.lst ys)) a l x h s m F G fn gn ns N M D E := by
  have nb := bag_apart w0.o.bg hf
  exact ⟨⟨bag_chg w.o.bg nb.1 nb.2, w.o.hs.upd (w0.o.hs.ne hf) hf', w.o.hm.upd (w0.o.hm.ne hf) hf', h_ne (ne_of_none w0.o.hF hf) w.o.hF, h_ne (ne_of_none w0.o.hf hf) w.o.hf, h_ne (ne_of_none w0.o.hG hf) w.o.hG, h_ne (ne_of_none w0.o.hg hf) w.o.hg, w.o.ne⟩,
    h_ne (ne_of_none w0.hx hf) w.hx, h_ne (ne_of_none w0.hh hf) w.hh, w.na, w.dh, w.ds⟩
end
theorem cut_app {xs : List V} {y : V} {n : Nat} (h : xs.length = n) : cutV (xs ++ [y]) none (some (n : Int)) = xs := by
  unfold cutV
  rw [HT.sIx_none, HT.sIx_nat]
  rw [List.drop_zero, Nat.sub_zero, List.length_append]
  rw [Nat.min_eq_left (by omega), List.take_append_of_le_length (by omega), List.take_of_length_le (by omega)]
def spLaw (K : PySem.W.Frag) : Sp := fun vs H Q _ => ∃ (a : Addr) (ns : List Int), vs = [.ref a] ∧ SqL K H a (ns.map V.int) ∧ ns.length ≤ 63 ∧ ∀ H', Q (.bl true) H'
theorem ok_law (T : Top K mg) {f : Addr} {fd : FuncData} (F : FnP K "law" s_law f fd) : FnOk P w K mg base CX0 10 f fd P_law (spLaw K) := by
  have cl_Share := T.cl_Share; have na_Share_top := T.na_Share_top; have na_Share_bottom := T.na_Share_bottom; have in_Share := T.in_Share; have ki_o_Share_o_Share := T.ki_o_Share_o_Share; have ki_int_o_Share := T.ki_int_o_Share; have ki_bool_o_Share := T.ki_bool_o_Share; have ki_NoneType_o_Share := T.ki_NoneType_o_Share; have ki_str_o_Share := T.ki_str_o_Share; have ki_list_o_Share := T.ki_list_o_Share; have ki_tuple_o_Share := T.ki_tuple_o_Share; have nf_Share_o_Share := T.nf_Share_o_Share; have nf_Share_int := T.nf_Share_int; have nf_Share_bool := T.nf_Share_bool; have nf_Share_NoneType := T.nf_Share_NoneType; have nf_Share_str := T.nf_Share_str; have nf_Share_list := T.nf_Share_list; have nf_Share_tuple := T.nf_Share_tuple; have ne_Share := T.ne_Share
  have C__law_bag := c_bag (P := P) (w := w) (base := base) T
  have C__law_draw : Cal P w K mg base "_law_draw" 2 P__law_draw (spDraw 100000000000) := c_draw2 T
  have C__law_pair_of := c_pair (P := P) (w := w) (base := base) T
  have C__law_parts := c_parts (P := P) (w := w) (base := base) T
  have C__law_are := c_are (P := P) (w := w) (base := base) T
  have C__law_together := c_tog (P := P) (w := w) (base := base) T
  have C__law_one_place := c_one (P := P) (w := w) (base := base) T
  have C_shares_of := c_shares (P := P) (w := w) (base := base) T
  have C_rest_shares := c_rest (P := P) (w := w) (base := base) T
  have KC_shares_of_0_weights := kc_shares_of_0_weights (P := P) (w := w) (base := base) T
  have KK_Share_1_ := kk_Share_1_ (P := P) (w := w) (base := base) T
  have MC_Share___eq__ := mc_Share___eq__ (P := P) (w := w) (base := base) T
  refine F.ok sc_law (fun vs H Q E h => ?_) (fun cdv A outer s H vs Q E hr h => ?_)
  · obtain ⟨a, ns, rfl, _⟩ := h
    rfl
  · obtain ⟨s0, ns0, rfl, hS, hlen, q⟩ := h
    refine ⟨_, PSs.nox (pss_cons (ps_set (i := 1) sc_law.nd rfl (by first | exact Or.inl rfl | exact Or.inr rfl) (pe_cal C__law_bag (hr.mono (by first | decide | omega)) (by rfl) (pa_cons (pv 0) pa_nil)))
    (pss_cons (ps_for PassesOwn.never rfl (pi_range1 (by rfl) T.z_range (pa_cons (pe_op op_add pe_int (pe_cal C__law_draw (hr.mono (by first | decide | omega)) (by rfl) (pa_cons (pv 1) (pa_cons pe_int pa_nil)))) pa_nil)) (pg_name (i := 2) sc_law.nd rfl (by first | exact Or.inl rfl | exact Or.inr rfl))
    (pss_cons (ps_asg (pe_cal C__law_pair_of (hr.mono (by first | decide | omega)) (by rfl) (pa_cons (pv 1) (pa_cons (pe_op op_add pe_int (pe_cal C__law_draw (hr.mono (by first | decide | omega)) (by rfl) (pa_cons (pv 1) (pa_cons pe_int pa_nil)))) pa_nil))) (k_pgl (K := K) (n := 2) (by rfl) (by rfl) (pgs_cons (pg_name (i := 3) sc_law.nd rfl (by first | exact Or.inl rfl | exact Or.inr rfl)) (pgs_cons (pg_name (i := 4) sc_law.nd rfl (by first | exact Or.inl rfl | exact Or.inr rfl)) pgs_nil)) (by rfl) (by rfl)))
    (pss_cons (ps_set (i := 5) sc_law.nd rfl (by first | exact Or.inl rfl | exact Or.inr rfl) (pe_callTy (k_list (K := K) (by rfl)) (by rfl) T.z_list (by decide +kernel) (pa_cons (pv 3) pa_nil)))
    (pss_cons (ps_par (i := 6) (j := 7) (by rfl) sc_law.nd rfl rfl (by decide) rfl rfl (pa_cons (pe_kcal0 KC_shares_of_0_weights (hr.mono (by first | decide | omega)) (by rfl) (pk_cons (pv 5) pk_nil) ) (pa_cons (pe_cal C_shares_of (hr.mono (by first | decide | omega)) (by rfl) (pa_cons (pe_callTy (k_tuple (K := K) (by rfl)) (by rfl) T.z_tuple (by decide +kernel) (pa_cons (pv 4) pa_nil)) pa_nil)) pa_nil)) (by rfl))
    (pss_cons (ps_par (i := 8) (j := 9) (by rfl) sc_law.nd rfl rfl (by decide) rfl rfl (pa_cons (pe_cal C__law_parts (hr.mono (by first | decide | omega)) (by rfl) (pa_cons (pv 3) pa_nil)) (pa_cons (pe_cal C__law_parts (hr.mono (by first | decide | omega)) (by rfl) (pa_cons (pv 4) pa_nil)) pa_nil)) (by rfl))
    (pss_cons (ps_if (PW.pt (pw_or (pt_not (pt_val (pe_cal C__law_are (hr.mono (by first | decide | omega)) (by rfl) (pa_cons (pv 6) (pa_cons (pe_ix (k_ix (K := K) (by rfl)) (pv 8) pe_int (fun _ _ => rfl)) (pa_cons (pe_ix (k_ix (K := K) (by rfl)) (pv 8) pe_int (fun _ _ => rfl)) pa_nil)))))) (pw_or (pt_not (pt_val (pe_cal C__law_are (hr.mono (by first | decide | omega)) (by rfl) (pa_cons (pv 7) (pa_cons (pe_ix (k_ix (K := K) (by rfl)) (pv 9) pe_int (fun _ _ => rfl)) (pa_cons (pe_ix (k_ix (K := K) (by rfl)) (pv 9) pe_int (fun _ _ => rfl)) pa_nil)))))) (pw_or1 (pt_cmpR (k_neD (K := K) (by rfl) hr.units) (pv 5) (pv 3) (nomark _))))))
    (pss_one (ps_ret pe_bl))
    pss_nil)
    (pss_cons (ps_if (pt_cmpR (k_ownNe (K := K) (by rfl) T.ne_Share MC_Share___eq__ (hr.mono (by first | decide | omega))) (pe_cal C__law_together (hr.mono (by first | decide | omega)) (by rfl) (pa_cons (pv 6) pa_nil)) (pe_mkk T.g_Share KK_Share_1_ (hr.mono (by first | decide | omega)) (by rfl) (pa_cons pe_int pa_nil) pk_nil) (nomark _))
    (pss_one (ps_ret pe_bl))
    pss_nil)
    (C8.pss_cut (ps_asg (pe_cal C__law_one_place (hr.mono (by first | decide | omega)) (by rfl) (pa_cons (pv 1) (pa_cons (pv 6) (pa_cons (pv 7) (pa_cons (pv 8) (pa_cons (pv 9) pa_nil)))))) (k_pgl (K := K) (n := 2) (by rfl) (by rfl) (pgs_cons (pg_name (i := 10) sc_law.nd rfl (by first | exact Or.inl rfl | exact Or.inr rfl)) (pgs_cons (pg_name (i := 11) sc_law.nd rfl (by first | exact Or.inl rfl | exact Or.inr rfl)) pgs_nil)) (by rfl) (by rfl)))
    (pss_cons (ps_if (pt_not (pt_val (pv 10)))
    (pss_one (ps_ret pe_bl))
    pss_nil)
    (C8.pss_cut (ps_if (pt_cmpR op_notN (pv 11) pe_non (nomark _))
    (pss_cons (ps_par (i := 12) (j := 13) (by rfl) sc_law.nd rfl rfl (by decide) rfl rfl (pa_cons (pe_ix (k_ix (K := K) (by rfl)) (pv 11) pe_int (fun _ _ => rfl)) (pa_cons (pe_ix (k_ix (K := K) (by rfl)) (pv 11) pe_int (fun _ _ => rfl)) pa_nil)) (by rfl))
    (pss_cons (ps_if (pt_not (pt_truth (pe_ix (k_ix (K := K) (by rfl)) (pe_cal C__law_one_place (hr.mono (by first | decide | omega)) (by rfl) (pa_cons (pv 1) (pa_cons (pv 13) (pa_cons (pv 7) (pa_cons (pe_lst (pa_cons (pv 12) (pa_cons (pe_callB (k_sum (K := K) (by rfl) (by rfl)) (by rfl) T.z_sum (by decide +kernel) (pa_cons (pv 12) pa_nil)) pa_nil))) (pa_cons (pv 9) pa_nil)))))) pe_int (fun _ _ => rfl)) (by intro _; rfl)))
    (pss_one (ps_ret pe_bl))
    pss_nil)
    (pss_cons (ps_if (pt_not (pt_truth (pe_ix (k_ix (K := K) (by rfl)) (pe_cal C__law_one_place (hr.mono (by first | decide | omega)) (by rfl) (pa_cons (pv 1) (pa_cons (pv 6) (pa_cons (pv 13) (pa_cons (pv 8) (pa_cons (pe_lst (pa_cons (pv 12) (pa_cons (pe_callB (k_sum (K := K) (by rfl) (by rfl)) (by rfl) T.z_sum (by decide +kernel) (pa_cons (pv 12) pa_nil)) pa_nil))) pa_nil)))))) pe_int (fun _ _ => rfl)) (by intro _; rfl)))
    (pss_one (ps_ret pe_bl))
    pss_nil)
    (pss_one (ps_expr (pe_bm0 PySem.F.plainAttrs_list PySem.F.slot_list_clear PySem.F.type_list_clear mt_clear (pv 13)))))))
    pss_nil)
    (pss_cons (ps_expr (pe_bm PySem.F.plainAttrs_list PySem.F.slot_list_append PySem.F.type_list_append mt_append (pv 5) (pa_cons pe_int pa_nil)))
    (pss_cons (ps_expr (pe_bm PySem.F.plainAttrs_list PySem.F.slot_list_append PySem.F.type_list_append mt_append (pv 6) (pa_cons (pe_mkk T.g_Share KK_Share_1_ (hr.mono (by first | decide | omega)) (by rfl) (pa_cons pe_int pa_nil) pk_nil) pa_nil)))
    (pss_cons (ps_if (pt_not (pt_val (pe_cal C__law_are (hr.mono (by first | decide | omega)) (by rfl) (pa_cons (pe_cal C_shares_of (hr.mono (by first | decide | omega)) (by rfl) (pa_cons (pv 3) pa_nil)) (pa_cons (pe_ix (k_ix (K := K) (by rfl)) (pv 8) pe_int (fun _ _ => rfl)) (pa_cons (pe_ix (k_ix (K := K) (by rfl)) (pv 8) pe_int (fun _ _ => rfl)) pa_nil))))))
    (pss_one (ps_ret pe_bl))
    pss_nil)
    (pss_one (ps_if (PW.pt (pw_and (pt_cmpR op_notN (pv 11) pe_non (nomark _)) (pw_and1 (pt_not (pt_val (pe_cal C__law_are (hr.mono (by first | decide | omega)) (by rfl) (pa_cons (pe_cal C_rest_shares (hr.mono (by first | decide | omega)) (by rfl) (pa_cons (pe_slice (k_sl (K := K) (by rfl)) (pv 6) po_none (po_some (pe_callB (k_len (K := K) (by rfl)) (by rfl) T.z_len (by decide +kernel) (pa_cons (pv 3) pa_nil)))) (pa_cons (pv 7) pa_nil))) (pa_cons (pe_ix (k_ix (K := K) (by rfl)) (pv 11) pe_int (fun _ _ => rfl)) (pa_cons (pe_callB (k_sum (K := K) (by rfl) (by rfl)) (by rfl) T.z_sum (by decide +kernel) (pa_cons (pe_ix (k_ix (K := K) (by rfl)) (pv 11) pe_int (fun _ _ => rfl)) pa_nil)) pa_nil)))))))))
    (pss_one (ps_ret pe_bl))
    pss_nil)))))))))))))))
    (pss_one (ps_ret pe_bl)))), ?_⟩
    try simp only [cxK]
    rw [show L2.start N_law [V.ref s0] = [some (.ref s0), none, none, none, none, none, none, none, none, none, none, none, none, none] from rfl]
    walk_at "go"
    refine ⟨s0, ns0, rfl, hS, fun a l H1 B1 hp s1 => ?_⟩
    clear hS s1 hp
    walk_at "go"
    refine g_drawB B1 ⟨by omega, by omega⟩ fun r1 H2 r1a r1b B2 c2 => ?_
    clear c2 B1 H1
    walk_at "go"
    refine forR ⟨fun i σ' H' => ∃ y2 y3 y4 y5 y6 y7 y8 y9 y10 y11 y12 y13, σ' = [some (.ref s0), some (.ref a), y2, y3, y4, y5, y6, y7, y8, y9, y10, y11, y12, y13] ∧ Bag H' a l, ⟨_, _, _, _, _, _, _, _, _, _, _, _, rfl, B2⟩, ?_, ?_⟩
    rotate_left
    · rintro σ' H3 ⟨y2, y3, y4, y5, y6, y7, y8, y9, y10, y11, y12, y13, rfl, B3⟩
      walk_at "go"
      exact q H3
    · rintro i σ' H3 hi ⟨y2, y3, y4, y5, y6, y7, y8, y9, y10, y11, y12, y13, rfl, B3⟩
      have done : ∀ H' z2 z3 z4 z5 z6 z7 z8 z9 z10 z11 z12 z13, Bag H' a l → ∃ y2 y3 y4 y5 y6 y7 y8 y9 y10 y11 y12 y13, [some (V.ref s0), some (.ref a), z2, z3, z4, z5, z6, z7, z8, z9, z10, z11, z12, z13] = [some (V.ref s0), some (.ref a), y2, y3, y4, y5, y6, y7, y8, y9, y10, y11, y12, y13] ∧ Bag H' a l := fun H' z2 z3 z4 z5 z6 z7 z8 z9 z10 z11 z12 z13 B => ⟨_, _, _, _, _, _, _, _, _, _, _, _, rfl, B⟩
      clear B2
      walk_at "go"
      refine g_drawB B3 ⟨by omega, by omega⟩ fun r2 H4 r2a r2b B4 c4 => ?_
      clear c4
      walk_at "go"
      refine ⟨a, l, 1 + r2, rfl, B4, by omega, by omega, fun r x y ns ms H5 e5 ex ey nx ny wn wm B5 c5 => ?_⟩
      clear c5 B4 B3
      have k6 : (1 + r2).toNat ≤ 6 := by omega
      have k1 : 1 ≤ (1 + r2).toNat := by omega
      obtain ⟨pn, ld⟩ := part_prt wn k1 k6
      obtain ⟨pm, le⟩ := part_prt wm k1 k6
      walk_at "go"
      rename_i h hh
      obtain ⟨nha, nhl⟩ := bag_apart B5 hh
      have dxh : x ≠ h := ne_of_none ex hh
      have sh := same_new hh (o := .lst (ns.map V.int))
      have B6 := bag_sm B5 sh
      have ex := sh _ _ ex
      have ey := sh _ _ ey
      have eh : upd H5 h (.lst (ns.map V.int)) h = some (.lst (ns.map V.int)) := upd_same
      generalize upd H5 h (.lst (ns.map V.int)) = H6 at B6 ex ey eh ⊢
      clear sh hh B5 e5
      have wn1 := wn.1
      have wm1 := wm.1
      have bs1 : ns.sum.natAbs < 2 ^ 400 := Nat.lt_of_le_of_lt (m := 5999999994) (by have := wts_lt wn k6; omega) (by decide)
      have bs2 : ms.sum.natAbs < 2 ^ 400 := Nat.lt_of_le_of_lt (m := 5999999994) (by have := wts_lt wm k6; omega) (by decide)
      show spShares K [.ref h] H6 _ _
      refine ⟨true, h, ns, rfl, SqL.of eh, by omega, bs1, fun s H7 hs s7 ss => ?_⟩
      obtain ⟨nsa, nsl⟩ := bag_apart B6 hs
      have dsh : s ≠ h := Ne.symm (ne_of_none eh hs)
      have dxs : x ≠ s := ne_of_none ex hs
      have ey7 := s7 _ _ ey
      walk_at "go"
      rename_i t ht
      have s8 := Same.lay s7 ht (o := .tup (ms.map V.int))
      have ss8 := ss.sm (same_new ht (o := .tup (ms.map V.int)))
      refine ⟨false, t, ms, rfl, SqT.of upd_same, by omega, bs2, fun m H9 hm s9 sm => ?_⟩
      have s9 := s8.trans s9
      have ss9 : ShH true K H9 s (partN ns) (partD ns) := ss8.sm (by assumption)
      have dmh : m ≠ h := Ne.symm (ne_of_none (s8 _ _ eh) hm)
      have dms : m ≠ s := Ne.symm (by obtain ⟨_, _, u, _⟩ := ss8; exact ne_of_none u hm)
      have nma : m ≠ a := (bag_apart (bag_sm B6 s8) hm).1
      have ex9 := s9 _ _ ex
      have eh9 := s9 _ _ eh
      have ey9 := s9 _ _ ey
      have B9 := bag_sm B6 s9
      clear ss8 ey7
      walk_at "go"
      refine ⟨x, ns, rfl, SqL.of ex9, by omega, by omega, fun F fn H10 hF hfn s10 eF efn => ?_⟩
      have dF : F ≠ h ∧ F ≠ s ∧ F ≠ a := ⟨Ne.symm (ne_of_none eh9 hF), Ne.symm (ss9.ne hF), ne_bag B9 hF⟩
      have dfn : fn ≠ h ∧ fn ≠ s ∧ fn ≠ a := ⟨Ne.symm (ne_of_none eh9 hfn), Ne.symm (ss9.ne hfn), ne_bag B9 hfn⟩
      have eh := s10 _ _ eh9
      have B10 := bag_sm B9 s10
      have ss := ss9.sm s10
      walk_at "go"
      refine ⟨y, ms, rfl, SqL.of (s10 _ _ ey9), by omega, by omega, fun G gn H11 hG hgn s11 eG egn => ?_⟩
      have dG : G ≠ h ∧ G ≠ s ∧ G ≠ a := ⟨Ne.symm (ne_of_none eh hG), Ne.symm (ss.ne hG), ne_bag B10 hG⟩
      have dgn : gn ≠ h ∧ gn ≠ s ∧ gn ≠ a := ⟨Ne.symm (ne_of_none eh hgn), Ne.symm (ss.ne hgn), ne_bag B10 hgn⟩
      have W : Lw K H11 a l x h s m F G fn gn ns (partN ns) (partN ms) (partD ns) (partD ms) :=
        ⟨⟨bag_sm B10 s11, ss.sm s11, (sm.sm s10).sm s11, s11 _ _ eF, s11 _ _ efn, eG, egn, nsa, nma, dF.2.2, dG.2.2, dfn.2.2, dgn.2.2⟩, s11 _ _ (s10 _ _ ex9), s11 _ _ eh, ⟨nx, nha, nhl, nsl⟩,
          ⟨dxh, dsh, dmh, dF.1, dG.1, dfn.1, dgn.1⟩, ⟨dxs, dms, dF.2.1, dG.2.1, dfn.2.1, dgn.2.1⟩⟩
      clear hF hG hfn hgn eF efn eG egn
      have lN : (partN ns).length = (partN ms).length := by rw [partN_len, partN_len]; omega
      have lN2 : (partN ns).length ≤ 1000 := by rw [partN_len]; omega
      have lM2 : (partN ms).length ≤ 1000 := by rw [partN_len]; omega
      have bN : ∀ n ∈ partN ns, n.natAbs < 2 ^ 1000 := fun n hn => lt_pow (el_of pn hn).2 (by decide)
      have bM : ∀ n ∈ partN ms, n.natAbs < 2 ^ 1000 := fun n hn => lt_pow (el_of pm hn).2 (by decide)
      have hF := W.o.hF
      have hG := W.o.hG
      walk_at "go"
      refine g_are W.o.hs.l (SqL.of W.o.hf) lN2 bN (lt_pow ld (by decide)) fun H12 s12 => ?_
      have W := W.sm s12
      have hG := s12 _ _ hG
      clear hF
      walk_at "go"
      refine g_are W.o.hm.l (SqL.of W.o.hg) lM2 bM (lt_pow le (by decide)) fun H13 s13 => ?_
      have W := W.sm s13
      have hx := W.hx
      have hh := W.hh
      walk_at "go"
      refine g_iteNX rfl ?_
      walk_at "go"
      refine ⟨s, _, _, rfl, W.o.hs.l, pn.nn, by rw [pn.sm]; exact lt_pow ld (by decide), lt_pow ld (by decide), by have := pn.ps; omega, fun r3 H14 s14 f14 => ?_⟩
      walk_at "go"
      refine g_share (t := 1) (b := 1) rfl rfl (fun _ => rfl) (by decide) (by decide) fun r4 H15 _ s15 g15 => ?_
      refine g_neF in_Share cl_Share nf_Share_o_Share (f14.sm s15) (fq_one g15) ?_
      rw [decide_eq_true (show (partN ns).sum * 1 = 1 * partD ns by rw [pn.sm]; omega)]
      have W := W.sm (s14.trans s15)
      clear hx hh hG f14 g15
      walk_at "go"
      refine g_cut (fun σ' H' => ∃ v, σ' = [some (.ref s0), some (.ref a), some (.int (0 + i)), some (.ref x), some (.ref y), some (.ref h), some (.ref s), some (.ref m), some (.ref F), some (.ref G), some (.bl true), some v, y12, y13] ∧ Lw K H' a l x h s m F G fn gn ns (partN ns) (partN ms) (partD ns) (partD ms) ∧
        (((restL (partN ns) (partN ms) (partD ns) (partD ms)).sum = 0 ∧ v = .non) ∨ ((restL (partN ns) (partN ms) (partD ns) (partD ms)).sum ≠ 0 ∧ ∃ u f n, v = .ref u ∧ H' u = some (.lst [.ref f, .ref n]) ∧
          ShH true K H' f (restL (partN ns) (partN ms) (partD ns) (partD ms)) (restL (partN ns) (partN ms) (partD ns) (partD ms)).sum ∧ H' n = some (.lst ((restL (partN ns) (partN ms) (partD ns) (partD ms)).map V.int)) ∧ H15 u = none ∧ H15 f = none ∧ H15 n = none ∧ f ≠ u ∧ f ≠ n))) ?_ ?_
      · walk_at "go"
        refine ⟨a, l, s, m, F, G, fn, gn, _, _, _, _, rfl, W.o, lN, lN2, pn, pm, fun r H16 B16 c16 k0 k1 => ?_⟩
        have W2 := W.chg B16 c16
        rcases Decidable.em ((restL (partN ns) (partN ms) (partD ns) (partD ms)).sum = 0) with z | z
        · have er := k0 z
          walk_at "go"
          exact ⟨_, rfl, W2, .inl ⟨z, rfl⟩⟩
        · obtain ⟨u, f, n, er, eu, ef, en, hr0, hu0, hf0, hn0, d1, d2⟩ := k1 z
          walk_at "go"
          exact ⟨_, rfl, W2, .inr ⟨z, u, f, n, rfl, eu, ef, en, hu0, hf0, hn0, d1, d2⟩⟩
      rintro σ' H16 ⟨v, rfl, W16, hv⟩
      walk_at "go"
      refine g_cut (fun σ' H' => ∃ z12 z13, σ' = [some (.ref s0), some (.ref a), some (.int (0 + i)), some (.ref x), some (.ref y), some (.ref h), some (.ref s), some (.ref m), some (.ref F), some (.ref G), some (.bl true), some v, z12, z13] ∧ Lw K H' a l x h s m F G fn gn ns (partN ns) (partN ms) (partD ns) (partD ms) ∧
        (((restL (partN ns) (partN ms) (partD ns) (partD ms)).sum = 0 ∧ v = .non) ∨ ((restL (partN ns) (partN ms) (partD ns) (partD ms)).sum ≠ 0 ∧ ∃ u f n, v = .ref u ∧ H' u = some (.lst [.ref f, .ref n]) ∧
          H' n = some (.lst ((restL (partN ns) (partN ms) (partD ns) (partD ms)).map V.int)) ∧ u ≠ h ∧ u ≠ s ∧ n ≠ h ∧ n ≠ s))) ?_ ?_
      · rcases hv with ⟨z, rfl⟩ | ⟨z, u, f, n, rfl, eu, ef, en, hu0, hf0, hn0, d1, d2⟩
        · walk_at "go"
          refine ⟨rfl, _, rfl, ?_⟩
          rw [if_neg (by simp)]
          exact ⟨_, _, rfl, W16, .inl ⟨z, rfl⟩⟩
        · have lR : (restL (partN ns) (partN ms) (partD ns) (partD ms)).length = (partN ns).length := restL_len lN
          have mm := pn.mins pm lN
          have bR : (restL (partN ns) (partN ms) (partD ns) (partD ms)).sum.natAbs < 2 ^ 100 := lt_pow (a := 66) (Nat.lt_of_le_of_lt (by omega) (mul_lt ld le)) (by decide)
          have pR : Prt (restL (partN ns) (partN ms) (partD ns) (partD ms)) (restL (partN ns) (partN ms) (partD ns) (partD ms)).sum := ⟨restL_nn, rfl, by omega, bR⟩
          have nfa := ne_bag W.o.bg hf0
          have nna := ne_bag W.o.bg hn0
          have nua := ne_bag W.o.bg hu0
          have duh : u ≠ h := Ne.symm (ne_of_none W.hh hu0)
          have dus : u ≠ s := Ne.symm (W.o.hs.ne hu0)
          have dnh : n ≠ h := Ne.symm (ne_of_none W.hh hn0)
          have dns : n ≠ s := Ne.symm (W.o.hs.ne hn0)
          generalize restL (partN ns) (partN ms) (partD ns) (partD ms) = RL at *
          walk_at "go"
          refine ⟨rfl, _, rfl, ?_⟩
          rw [if_pos (by simp)]
          walk_at "go"
          rename_i L1 hL1
          have sL := same_new hL1 (o := .lst [V.ref n, V.int RL.sum])
          have WL := W16.sm sL
          have nL := (bag_apart W16.o.bg hL1).1
          refine ⟨a, l, f, m, L1, G, n, gn, RL, partN ms, RL.sum, partD ms, rfl, ⟨WL.o.bg, ef.sm sL, WL.o.hm, upd_same, sL _ _ en, WL.o.hG, WL.o.hg, nfa, WL.o.ne.2.1, nL, WL.o.ne.2.2.2.1, nna, WL.o.ne.2.2.2.2.2⟩, by omega, by omega, pR, pm, fun r H18 B18 c18 k0 k1 => ?_⟩
          have er : ∃ v', H18 r = some (.lst [.bl true, v']) := by
            rcases Decidable.em ((restL RL (partN ms) RL.sum (partD ms)).sum = 0) with z2 | z2
            · exact ⟨_, k0 z2⟩
            · obtain ⟨u2, f2, n2, e, _⟩ := k1 z2
              exact ⟨_, e⟩
          obtain ⟨v2, er⟩ := er
          have cA : Chg a H16 H18 := (Same.chg sL).trans c18
          have W18 := W16.chg B18 cA
          have ef18 : ShH true K H18 f RL RL.sum := ef.bag W16.o.bg nfa cA
          have en18 := cA _ _ nna en
          have eu18 := cA _ _ nua eu
          clear k0 k1 WL sL c18 cA en eu ef
          walk_at "go"
          refine ⟨true, rfl, ?_⟩
          walk_at "go"
          rename_i L2 hL2
          have sL := same_new hL2 (o := .lst [V.ref n, V.int RL.sum])
          have WL := W18.sm sL
          have nL2 := (bag_apart W18.o.bg hL2).1
          refine ⟨a, l, s, f, F, L2, fn, n, partN ns, RL, partD ns, RL.sum, rfl, ⟨WL.o.bg, WL.o.hs, ef18.sm sL, WL.o.hF, WL.o.hf, upd_same, sL _ _ en18, WL.o.ne.1, nfa, WL.o.ne.2.2.1, nL2, WL.o.ne.2.2.2.2.1, nna⟩, by omega, by omega, pn, pR, fun r' H20 B20 c20 k0 k1 => ?_⟩
          have er' : ∃ v', H20 r' = some (.lst [.bl true, v']) := by
            rcases Decidable.em ((restL (partN ns) RL (partD ns) RL.sum).sum = 0) with z2 | z2
            · exact ⟨_, k0 z2⟩
            · obtain ⟨u2, f2, n2, e, _⟩ := k1 z2
              exact ⟨_, e⟩
          obtain ⟨v3, er'⟩ := er'
          have cA : Chg a H18 H20 := (Same.chg sL).trans c20
          have W20 := W18.chg B20 cA
          have ef20 : ShH true K H20 f RL RL.sum := ef18.bag W18.o.bg nfa cA
          have en20 := cA _ _ nna en18
          have eu20 := cA _ _ nua eu18
          clear k0 k1 WL sL c20 cA en18 eu18 ef18
          obtain ⟨pf, epf, qf, ff⟩ := ef20
          have qf : H20 f = some (.lst (pf.map V.ref)) := qf
          walk_at "go"
          refine ⟨true, rfl, ?_⟩
          walk_at "go"
          show tVar 13 _ H20 (fun x H1 => tyV K "list" x H1 ∧ rClear x [] H1 _)
          refine g_v13 ?_
          refine ⟨.inl ⟨rfl, _, SqL.of qf⟩, f, _, rfl, rfl, qf, ?_⟩
          exact ⟨_, _, rfl, Lw.clr W W20 hf0 qf, .inr ⟨z, u, f, n, rfl, h_ne (Ne.symm d1) eu20, h_ne (Ne.symm d2) en20, duh, dus, dnh, dns⟩⟩
      clear W
      rintro σ' H17 ⟨z12, z13, rfl, W17, hv⟩
      have hh := W17.hh
      have hs17 := W17.o.hs
      walk_at "go"
      refine g_app hh (by rw [List.length_map]; omega) ?_
      have Wx : ShH true K (L2.upd H17 h (.lst (ns.map V.int ++ [V.int 1]))) s (partN ns) (partD ns) := hs17.upd W17.dh.2.1 hh
      have Wm : ShH true K (L2.upd H17 h (.lst (ns.map V.int ++ [V.int 1]))) m (partN ms) (partD ms) := W17.o.hm.upd W17.dh.2.2.1 hh
      have ex := h_ne (o := .lst (ns.map V.int ++ [V.int 1])) W17.dh.1 W17.hx
      have eF := h_ne (o := .lst (ns.map V.int ++ [V.int 1])) W17.dh.2.2.2.1 W17.o.hF
      have efn := h_ne (o := .lst (ns.map V.int ++ [V.int 1])) W17.dh.2.2.2.2.2.1 W17.o.hf
      have B18 := bag_chg (o := .lst (ns.map V.int ++ [V.int 1])) W17.o.bg W17.na.2.1 W17.na.2.2.1
      have hv : ((restL (partN ns) (partN ms) (partD ns) (partD ms)).sum = 0 ∧ v = .non) ∨ ((restL (partN ns) (partN ms) (partD ns) (partD ms)).sum ≠ 0 ∧ ∃ u f n, v = .ref u ∧ L2.upd H17 h (.lst (ns.map V.int ++ [V.int 1])) u = some (.lst [.ref f, .ref n]) ∧
          L2.upd H17 h (.lst (ns.map V.int ++ [V.int 1])) n = some (.lst ((restL (partN ns) (partN ms) (partD ns) (partD ms)).map V.int)) ∧ u ≠ s ∧ n ≠ s) := by
        rcases hv with hv | ⟨z, u, f, n, e1, e2, e3, e4, e5, e6, e7⟩
        · exact .inl hv
        · exact .inr ⟨z, u, f, n, e1, h_ne e4 e2, h_ne e6 e3, e5, e7⟩
      have ds := W17.ds
      have nsa := W17.o.ne.1
      have nsl := W17.na.2.2.2
      clear hh hs17
      clear W17
      generalize L2.upd H17 h (.lst (ns.map V.int ++ [V.int 1])) = H18 at Wx Wm ex eF efn B18 hv ⊢
      obtain ⟨ps, eps, qs, fs⟩ := Wx
      have qs : H18 s = some (.lst (ps.map V.ref)) := qs
      have l6 : (partN ns).length ≤ 6 := by rw [partN_len]; omega
      walk_at "go"
      refine g_share (t := 5) (b := 1) rfl rfl (fun _ => rfl) (by decide) (by decide) fun p5 H19 _ s19 _ => ?_
      have ex := s19 _ _ ex
      have eF := s19 _ _ eF
      have efn := s19 _ _ efn
      have qs := s19 _ _ qs
      have Wm := Wm.sm s19
      have B19 := bag_sm B18 s19
      have hv : ((restL (partN ns) (partN ms) (partD ns) (partD ms)).sum = 0 ∧ v = .non) ∨ ((restL (partN ns) (partN ms) (partD ns) (partD ms)).sum ≠ 0 ∧ ∃ u f n, v = .ref u ∧ H19 u = some (.lst [.ref f, .ref n]) ∧
          H19 n = some (.lst ((restL (partN ns) (partN ms) (partD ns) (partD ms)).map V.int)) ∧ u ≠ s ∧ n ≠ s) := by
        rcases hv with hv | ⟨z, u, f, n, e1, e2, e3, e4, e5⟩
        · exact .inl hv
        · exact .inr ⟨z, u, f, n, e1, s19 _ _ e2, s19 _ _ e3, e4, e5⟩
      walk_at "go"
      refine g_app qs (by rw [List.length_map]; omega) ?_
      have ex := h_ne (o := .lst (ps.map V.ref ++ [.ref p5])) ds.1 ex
      have eF := h_ne (o := .lst (ps.map V.ref ++ [.ref p5])) ds.2.2.1 eF
      have efn := h_ne (o := .lst (ps.map V.ref ++ [.ref p5])) ds.2.2.2.2.1 efn
      have Wm := ShH.upd (ys := ps.map V.ref ++ [.ref p5]) Wm ds.2.1 qs
      have B20 := bag_chg (o := .lst (ps.map V.ref ++ [.ref p5])) B19 nsa nsl
      have fs : ∀ (i : Nat) (p : Addr) (n : Int), ps[i]? = some p → (partN ns)[i]? = some n → Fq K (upd H19 s (.lst (ps.map V.ref ++ [.ref p5]))) p n (partD ns) := fun i p n e1 e2 => by
        have g := (fs i p n e1 e2).sm s19
        have gn := g.ne qs
        obtain ⟨⟨dx, hp⟩, nz⟩ := g
        exact ⟨⟨dx, h_ne gn hp⟩, nz⟩
      have hv : ((restL (partN ns) (partN ms) (partD ns) (partD ms)).sum = 0 ∧ v = .non) ∨ ((restL (partN ns) (partN ms) (partD ns) (partD ms)).sum ≠ 0 ∧ ∃ u f n, v = .ref u ∧ upd H19 s (.lst (ps.map V.ref ++ [.ref p5])) u = some (.lst [.ref f, .ref n]) ∧
          upd H19 s (.lst (ps.map V.ref ++ [.ref p5])) n = some (.lst ((restL (partN ns) (partN ms) (partD ns) (partD ms)).map V.int))) := by
        rcases hv with hv | ⟨z, u, f, n, e1, e2, e3, e4, e5⟩
        · exact .inl hv
        · exact .inr ⟨z, u, f, n, e1, h_ne e4 e2, h_ne e5 e3⟩
      have qs : upd H19 s (.lst (ps.map V.ref ++ [.ref p5])) s = some (.lst (ps.map V.ref ++ [.ref p5])) := upd_same
      generalize upd H19 s (.lst (ps.map V.ref ++ [.ref p5])) = H20 at ex eF efn Wm B20 fs hv qs ⊢
      walk_at "go"
      refine ⟨true, x, ns, rfl, SqL.of ex, by omega, bs1, fun r6 H21 hr6 s21 ss21 => ?_⟩
      have eF21 := s21 _ _ eF
      walk_at "go"
      refine g_are ss21.l (SqL.of (s21 _ _ efn)) lN2 bN (lt_pow ld (by decide)) fun H22 s22 => ?_
      have s22 := s21.trans s22
      have ex := s22 _ _ ex
      have Wm := Wm.sm s22
      have B22 := bag_sm B20 s22
      have qs := s22 _ _ qs
      rcases hv with ⟨z, rfl⟩ | ⟨z, u, f, n, rfl, eu, en⟩
      · walk_at "go"
        refine ⟨rfl, _, rfl, ?_⟩
        rw [if_neg (by simp)]
        walk_at "go"
        exact done _ _ _ _ _ _ _ _ _ _ _ _ _ B22
      · have eu := s22 _ _ eu
        have en := s22 _ _ en
        have mm := pn.mins pm lN
        have bE : ∀ k ∈ restL (partN ns) (partN ms) (partD ns) (partD ms), k.natAbs < 2 ^ 1000 := fun k hk => by
          obtain ⟨j, hj, e⟩ := List.getElem_of_mem hk
          have := el_le restL_nn (i := j) (n := k) (by rw [List.getElem?_eq_getElem hj, e])
          exact lt_pow (Nat.lt_of_le_of_lt (by omega) mm.2.2.2.2.2) (by decide)
        walk_at "go"
        refine ⟨rfl, _, rfl, ?_⟩
        rw [if_pos (by simp)]
        walk_at "go"
        rename_i t2 ht2
        rw [List.length_map, show cutV (ps.map V.ref ++ [.ref p5]) none (some (ns.length : Int)) = ps.map V.ref from cut_app (by rw [List.length_map, eps, partN_len])] at *
        have st := same_new ht2 (o := .lst (ps.map V.ref))
        refine ⟨true, true, t2, m, partN ns, partN ms, partD ns, partD ms, rfl, ⟨⟨ps, eps, SqL.of upd_same, fun i p n e1 e2 => ((fs i p n e1 e2).sm s22).sm st⟩, (Wm.sm st).l, lN, lN2, pn, pm⟩, fun z0 => absurd z0 z, fun _ r7 H24 hr7 s24 sr => ?_⟩
        have s25 := st.trans s24
        have eu := s25 _ _ eu
        have en := s25 _ _ en
        have B25 := bag_sm B22 s25
        walk_at "go"
        refine g_are sr.l (SqL.of en) (by rw [restL_len lN]; exact lN2) bE (lt_pow mm.2.2.2.2.2 (by decide)) fun H26 s26 => ?_
        walk_at "go"
        exact done _ _ _ _ _ _ _ _ _ _ _ _ _ (bag_sm B25 s26)
theorem c_law (T : Top K mg) : Cal P w K mg base "law" 10 P_law (spLaw K) := cal_mk T.f_law (ok_law T) (fun F => F.bindsN fun _ _ _ _ _ _ us hl => match us, hl with | [_], _ => rfl)
end

set_option Elab.async false
set_option linter.all false
set_option maxRecDepth 100000
set_option maxHeartbeats 4000000
open PySem PySem.Spec L2

def d_number_word : He.DefD := ⟨("number_word", none), "number_word", "number_word", defArgs s_number_word, defBody s_number_word, defScope s_number_word, [], []⟩
def d_shares_of : He.DefD := ⟨("shares_of", none), "shares_of", "shares_of", defArgs s_shares_of, defBody s_shares_of, defScope s_shares_of, [], []⟩
def d_kept_share : He.DefD := ⟨("kept_share", none), "kept_share", "kept_share", defArgs s_kept_share, defBody s_kept_share, defScope s_kept_share, [], []⟩
def d_rest_shares : He.DefD := ⟨("rest_shares", none), "rest_shares", "rest_shares", defArgs s_rest_shares, defBody s_rest_shares, defScope s_rest_shares, [], []⟩
def d_guessed_shares : He.DefD := ⟨("guessed_shares", none), "guessed_shares", "guessed_shares", defArgs s_guessed_shares, defBody s_guessed_shares, defScope s_guessed_shares, [], []⟩
def d__sum_of : He.DefD := ⟨("_sum_of", none), "_sum_of", "_sum_of", defArgs s__sum_of, defBody s__sum_of, defScope s__sum_of, [], []⟩
def d__lesser : He.DefD := ⟨("_lesser", none), "_lesser", "_lesser", defArgs s__lesser, defBody s__lesser, defScope s__lesser, [], []⟩
def d__kept_chance : He.DefD := ⟨("_kept_chance", none), "_kept_chance", "_kept_chance", defArgs s__kept_chance, defBody s__kept_chance, defScope s__kept_chance, [], []⟩
def d__kept_chances_of : He.DefD := ⟨("_kept_chances_of", none), "_kept_chances_of", "_kept_chances_of", defArgs s__kept_chances_of, defBody s__kept_chances_of, defScope s__kept_chances_of, [], []⟩
def d__instead_chances_of : He.DefD := ⟨("_instead_chances_of", none), "_instead_chances_of", "_instead_chances_of", defArgs s__instead_chances_of, defBody s__instead_chances_of, defScope s__instead_chances_of, [], []⟩
def d__law_bag : He.DefD := ⟨("_law_bag", none), "_law_bag", "_law_bag", defArgs s__law_bag, defBody s__law_bag, defScope s__law_bag, [], []⟩
def d__law_draw : He.DefD := ⟨("_law_draw", none), "_law_draw", "_law_draw", defArgs s__law_draw, defBody s__law_draw, defScope s__law_draw, [], []⟩
def d__law_of : He.DefD := ⟨("_law_of", none), "_law_of", "_law_of", defArgs s__law_of, defBody s__law_of, defScope s__law_of, [], []⟩
def d__law_common : He.DefD := ⟨("_law_common", none), "_law_common", "_law_common", defArgs s__law_common, defBody s__law_common, defScope s__law_common, [], []⟩
def d__law_is_share : He.DefD := ⟨("_law_is_share", none), "_law_is_share", "_law_is_share", defArgs s__law_is_share, defBody s__law_is_share, defScope s__law_is_share, [], []⟩
def d__law_amounts : He.DefD := ⟨("_law_amounts", none), "_law_amounts", "_law_amounts", defArgs s__law_amounts, defBody s__law_amounts, defScope s__law_amounts, [], []⟩
def d__law_parts : He.DefD := ⟨("_law_parts", none), "_law_parts", "_law_parts", defArgs s__law_parts, defBody s__law_parts, defScope s__law_parts, [], []⟩
def d__law_are : He.DefD := ⟨("_law_are", none), "_law_are", "_law_are", defArgs s__law_are, defBody s__law_are, defScope s__law_are, [], []⟩
def d__law_together : He.DefD := ⟨("_law_together", none), "_law_together", "_law_together", defArgs s__law_together, defBody s__law_together, defScope s__law_together, [], []⟩
def d__law_pair_of : He.DefD := ⟨("_law_pair_of", none), "_law_pair_of", "_law_pair_of", defArgs s__law_pair_of, defBody s__law_pair_of, defScope s__law_pair_of, [], []⟩
def d__law_one_place : He.DefD := ⟨("_law_one_place", none), "_law_one_place", "_law_one_place", defArgs s__law_one_place, defBody s__law_one_place, defScope s__law_one_place, [], []⟩
def d_law : He.DefD := ⟨("law", none), "law", "law", defArgs s_law, defBody s_law, defScope s_law, [], []⟩
def d_Share___init__ : He.DefD := ⟨("Share", some "__init__"), "__init__", "Share.__init__", defArgs s_Share___init__, defBody s_Share___init__, defScope s_Share___init__, [.int 1], []⟩
def d_Share_below : He.DefD := ⟨("Share", some "below"), "below", "Share.below", defArgs s_Share_below, defBody s_Share_below, defScope s_Share_below, [], []⟩
def d_Share_over : He.DefD := ⟨("Share", some "over"), "over", "Share.over", defArgs s_Share_over, defBody s_Share_over, defScope s_Share_over, [], []⟩
def d_Share___add__ : He.DefD := ⟨("Share", some "__add__"), "__add__", "Share.__add__", defArgs s_Share___add__, defBody s_Share___add__, defScope s_Share___add__, [], []⟩
def d_Share___sub__ : He.DefD := ⟨("Share", some "__sub__"), "__sub__", "Share.__sub__", defArgs s_Share___sub__, defBody s_Share___sub__, defScope s_Share___sub__, [], []⟩
def d_Share___mul__ : He.DefD := ⟨("Share", some "__mul__"), "__mul__", "Share.__mul__", defArgs s_Share___mul__, defBody s_Share___mul__, defScope s_Share___mul__, [], []⟩
def d_Share___neg__ : He.DefD := ⟨("Share", some "__neg__"), "__neg__", "Share.__neg__", defArgs s_Share___neg__, defBody s_Share___neg__, defScope s_Share___neg__, [], []⟩
def d_Share___eq__ : He.DefD := ⟨("Share", some "__eq__"), "__eq__", "Share.__eq__", defArgs s_Share___eq__, defBody s_Share___eq__, defScope s_Share___eq__, [], []⟩
def d_Share___bool__ : He.DefD := ⟨("Share", some "__bool__"), "__bool__", "Share.__bool__", defArgs s_Share___bool__, defBody s_Share___bool__, defScope s_Share___bool__, [], []⟩
def d_Share___str__ : He.DefD := ⟨("Share", some "__str__"), "__str__", "Share.__str__", defArgs s_Share___str__, defBody s_Share___str__, defScope s_Share___str__, [], []⟩
def d_Share___repr__ : He.DefD := ⟨("Share", some "__repr__"), "__repr__", "Share.__repr__", defArgs s_Share___repr__, defBody s_Share___repr__, defScope s_Share___repr__, [], []⟩
def fnL : List He.DefD := [d_number_word, d_shares_of, d_kept_share, d_rest_shares, d_guessed_shares, d__sum_of, d__lesser, d__kept_chance, d__kept_chances_of, d__instead_chances_of, d__law_bag, d__law_draw, d__law_of, d__law_common, d__law_is_share, d__law_amounts, d__law_parts, d__law_are, d__law_together, d__law_pair_of, d__law_one_place, d_law, d_Share___init__, d_Share_below, d_Share_over, d_Share___add__, d_Share___sub__, d_Share___mul__, d_Share___neg__, d_Share___eq__, d_Share___bool__, d_Share___str__, d_Share___repr__]
def tsL : List (PySem.W.Frag → Bool) := [fun K => insB K "Share", fun K => decide (PySem.W.kitOne K (.ref (He.ga K "Share")) (.ref (He.ga K "Share")) = some true), fun K => decide (PySem.W.kitOne K (.type "int") (.ref (He.ga K "Share")) = some false), fun K => decide (PySem.W.kitOne K (.type "bool") (.ref (He.ga K "Share")) = some false), fun K => decide (PySem.W.kitOne K (.type "NoneType") (.ref (He.ga K "Share")) = some false), fun K => decide (PySem.W.kitOne K (.type "str") (.ref (He.ga K "Share")) = some false), fun K => decide (PySem.W.kitOne K (.type "list") (.ref (He.ga K "Share")) = some false), fun K => decide (PySem.W.kitOne K (.type "tuple") (.ref (He.ga K "Share")) = some false), fun K => PySem.W.notFirst K (He.ga K "Share") (.ref (He.ga K "Share")), fun K => PySem.W.notFirst K (He.ga K "Share") (.type "int"), fun K => PySem.W.notFirst K (He.ga K "Share") (.type "bool"), fun K => PySem.W.notFirst K (He.ga K "Share") (.type "NoneType"), fun K => PySem.W.notFirst K (He.ga K "Share") (.type "str"), fun K => PySem.W.notFirst K (He.ga K "Share") (.type "list"), fun K => PySem.W.notFirst K (He.ga K "Share") (.type "tuple"), fun K => bltB K "gcd" "math.gcd", fun K => He.Fa.ok K (.glo "InvalidWeights"), fun K => He.Fa.ok K (.glo "InvalidError"), fun K => excB K "InvalidWeights", fun K => decide (PySem.W.kitOne K (.ref (He.ga K "InvalidWeights")) (.ref (He.ga K "InvalidError")) = some true), fun K => decide (PySem.W.kitOne K (.ref (He.ga K "InvalidWeights")) (.type "ValueError") = some true), fun K => neB K "Share"]
def prL : List PrpD := []
def faL : List He.Fa := [.glo "number_word", .glo "shares_of", .glo "kept_share", .glo "rest_shares", .glo "guessed_shares", .glo "_sum_of", .glo "_lesser", .glo "_kept_chance", .glo "_kept_chances_of", .glo "_instead_chances_of", .glo "_law_bag", .glo "_law_draw", .glo "_law_of", .glo "_law_common", .glo "_law_is_share", .glo "_law_amounts", .glo "_law_parts", .glo "_law_are", .glo "_law_together", .glo "_law_pair_of", .glo "_law_one_place", .glo "law", .free "ValueError", .free "abs", .free "divmod", .free "str", .free "bool", .free "isinstance", .free "sum", .free "range", .free "len", .free "zip", .free "list", .free "int", .free "all", .free "min", .free "tuple", .glo "Share", .cls "Share", .noat "Share" "top", .noat "Share" "bottom", .mkr "Share", .meth "Share" "below", .meth "Share" "over", .meth "Share" "__add__", .meth "Share" "__sub__", .meth "Share" "__mul__", .meth "Share" "__neg__", .meth "Share" "__eq__", .meth "Share" "__bool__", .meth "Share" "__str__", .meth "Share" "__repr__", .int "END" 0, .int "GROUP_DIGITS" 9, .int "GROUP" 1000000000]
abbrev rowR : PySem.W.OpenRow := PySem.W.OpenLaw.row PySem.Challenge.rw_answersalone_k26_shares_of_weights_and_o
abbrev hkR : PySem.W.Hook := hookX 6 faL fnL prL tsL
def obR (s : PySem.W.SharedT) : AlX := obsXG 6 faL fnL prL tsL (HandSHeadRun.getT s)
theorem obR_eq (s : PySem.W.SharedT) : obR s = hkR.obs s.abs := obsXG_eq (HandSHeadRun.getT_eq s)
abbrev looseR : List PySem.Str := ["END", "GROUP_DIGITS", "GROUP", "InvalidError", "InvalidWeights", "number_word", "Share", "shares_of", "kept_share", "rest_shares", "guessed_shares", "_sum_of", "_lesser", "_kept_chance", "_kept_chances_of", "_instead_chances_of", "_law_bag", "_law_draw", "_law_of", "_law_common", "_law_is_share", "_law_amounts", "_law_parts", "_law_are", "_law_together", "_law_pair_of", "_law_one_place"]
theorem runR (w : World) : HandSHeadRun.RunEqI rowR (PySem.W.view rowR.prog [0, 33]) hkR obR 6000 looseR w := by
  unfold HandSHeadRun.RunEqI
  kernel_rfl
theorem factsR {P : Program} {w : World} {K : PySem.W.Frag} {h : Heap} {mg : Str → Option Value} {f : Addr} (X : K.In h) (G : h.Ns mainGlobals mg) (hfa : mg ("law" : Str) = some (.ref f)) (c : SaysX faL fnL prL tsL K) :
    ∃ fd : FuncData, (∀ (s : Shared) (v : Value), BindsTo s fd ⟨[v], []⟩ [("script", v)]) ∧ ∀ base : Heap, K.In base → base.Ns mainGlobals mg → FnOk P w K mg base CX0 10 f fd ["script"] (spLaw K) := by
  obtain ⟨fd_number_word, F_number_word⟩ := c.p.d.def_ 0 (d := d_number_word) rfl
  obtain ⟨fd_shares_of, F_shares_of⟩ := c.p.d.def_ 1 (d := d_shares_of) rfl
  obtain ⟨fd_kept_share, F_kept_share⟩ := c.p.d.def_ 2 (d := d_kept_share) rfl
  obtain ⟨fd_rest_shares, F_rest_shares⟩ := c.p.d.def_ 3 (d := d_rest_shares) rfl
  obtain ⟨fd_guessed_shares, F_guessed_shares⟩ := c.p.d.def_ 4 (d := d_guessed_shares) rfl
  obtain ⟨fd__sum_of, F__sum_of⟩ := c.p.d.def_ 5 (d := d__sum_of) rfl
  obtain ⟨fd__lesser, F__lesser⟩ := c.p.d.def_ 6 (d := d__lesser) rfl
  obtain ⟨fd__kept_chance, F__kept_chance⟩ := c.p.d.def_ 7 (d := d__kept_chance) rfl
  obtain ⟨fd__kept_chances_of, F__kept_chances_of⟩ := c.p.d.def_ 8 (d := d__kept_chances_of) rfl
  obtain ⟨fd__instead_chances_of, F__instead_chances_of⟩ := c.p.d.def_ 9 (d := d__instead_chances_of) rfl
  obtain ⟨fd__law_bag, F__law_bag⟩ := c.p.d.def_ 10 (d := d__law_bag) rfl
  obtain ⟨fd__law_draw, F__law_draw⟩ := c.p.d.def_ 11 (d := d__law_draw) rfl
  obtain ⟨fd__law_of, F__law_of⟩ := c.p.d.def_ 12 (d := d__law_of) rfl
  obtain ⟨fd__law_common, F__law_common⟩ := c.p.d.def_ 13 (d := d__law_common) rfl
  obtain ⟨fd__law_is_share, F__law_is_share⟩ := c.p.d.def_ 14 (d := d__law_is_share) rfl
  obtain ⟨fd__law_amounts, F__law_amounts⟩ := c.p.d.def_ 15 (d := d__law_amounts) rfl
  obtain ⟨fd__law_parts, F__law_parts⟩ := c.p.d.def_ 16 (d := d__law_parts) rfl
  obtain ⟨fd__law_are, F__law_are⟩ := c.p.d.def_ 17 (d := d__law_are) rfl
  obtain ⟨fd__law_together, F__law_together⟩ := c.p.d.def_ 18 (d := d__law_together) rfl
  obtain ⟨fd__law_pair_of, F__law_pair_of⟩ := c.p.d.def_ 19 (d := d__law_pair_of) rfl
  obtain ⟨fd__law_one_place, F__law_one_place⟩ := c.p.d.def_ 20 (d := d__law_one_place) rfl
  obtain ⟨fd_law, F_law⟩ := c.p.d.def_ 21 (d := d_law) rfl
  obtain ⟨fd_Share___init__, F_Share___init__⟩ := c.p.d.def_ 22 (d := d_Share___init__) rfl
  obtain ⟨fd_Share_below, F_Share_below⟩ := c.p.d.def_ 23 (d := d_Share_below) rfl
  obtain ⟨fd_Share_over, F_Share_over⟩ := c.p.d.def_ 24 (d := d_Share_over) rfl
  obtain ⟨fd_Share___add__, F_Share___add__⟩ := c.p.d.def_ 25 (d := d_Share___add__) rfl
  obtain ⟨fd_Share___sub__, F_Share___sub__⟩ := c.p.d.def_ 26 (d := d_Share___sub__) rfl
  obtain ⟨fd_Share___mul__, F_Share___mul__⟩ := c.p.d.def_ 27 (d := d_Share___mul__) rfl
  obtain ⟨fd_Share___neg__, F_Share___neg__⟩ := c.p.d.def_ 28 (d := d_Share___neg__) rfl
  obtain ⟨fd_Share___eq__, F_Share___eq__⟩ := c.p.d.def_ 29 (d := d_Share___eq__) rfl
  obtain ⟨fd_Share___bool__, F_Share___bool__⟩ := c.p.d.def_ 30 (d := d_Share___bool__) rfl
  obtain ⟨fd_Share___str__, F_Share___str__⟩ := c.p.d.def_ 31 (d := d_Share___str__) rfl
  obtain ⟨fd_Share___repr__, F_Share___repr__⟩ := c.p.d.def_ 32 (d := d_Share___repr__) rfl
  have T : Top K mg := ⟨⟨_, _, F_number_word, He.glo_ok X G (c.p.d.fact 0 (f := .glo "number_word") rfl)⟩,
    ⟨_, _, F_shares_of, He.glo_ok X G (c.p.d.fact 1 (f := .glo "shares_of") rfl)⟩,
    ⟨_, _, F_kept_share, He.glo_ok X G (c.p.d.fact 2 (f := .glo "kept_share") rfl)⟩,
    ⟨_, _, F_rest_shares, He.glo_ok X G (c.p.d.fact 3 (f := .glo "rest_shares") rfl)⟩,
    ⟨_, _, F_guessed_shares, He.glo_ok X G (c.p.d.fact 4 (f := .glo "guessed_shares") rfl)⟩,
    ⟨_, _, F__sum_of, He.glo_ok X G (c.p.d.fact 5 (f := .glo "_sum_of") rfl)⟩,
    ⟨_, _, F__lesser, He.glo_ok X G (c.p.d.fact 6 (f := .glo "_lesser") rfl)⟩,
    ⟨_, _, F__kept_chance, He.glo_ok X G (c.p.d.fact 7 (f := .glo "_kept_chance") rfl)⟩,
    ⟨_, _, F__kept_chances_of, He.glo_ok X G (c.p.d.fact 8 (f := .glo "_kept_chances_of") rfl)⟩,
    ⟨_, _, F__instead_chances_of, He.glo_ok X G (c.p.d.fact 9 (f := .glo "_instead_chances_of") rfl)⟩,
    ⟨_, _, F__law_bag, He.glo_ok X G (c.p.d.fact 10 (f := .glo "_law_bag") rfl)⟩,
    ⟨_, _, F__law_draw, He.glo_ok X G (c.p.d.fact 11 (f := .glo "_law_draw") rfl)⟩,
    ⟨_, _, F__law_of, He.glo_ok X G (c.p.d.fact 12 (f := .glo "_law_of") rfl)⟩,
    ⟨_, _, F__law_common, He.glo_ok X G (c.p.d.fact 13 (f := .glo "_law_common") rfl)⟩,
    ⟨_, _, F__law_is_share, He.glo_ok X G (c.p.d.fact 14 (f := .glo "_law_is_share") rfl)⟩,
    ⟨_, _, F__law_amounts, He.glo_ok X G (c.p.d.fact 15 (f := .glo "_law_amounts") rfl)⟩,
    ⟨_, _, F__law_parts, He.glo_ok X G (c.p.d.fact 16 (f := .glo "_law_parts") rfl)⟩,
    ⟨_, _, F__law_are, He.glo_ok X G (c.p.d.fact 17 (f := .glo "_law_are") rfl)⟩,
    ⟨_, _, F__law_together, He.glo_ok X G (c.p.d.fact 18 (f := .glo "_law_together") rfl)⟩,
    ⟨_, _, F__law_pair_of, He.glo_ok X G (c.p.d.fact 19 (f := .glo "_law_pair_of") rfl)⟩,
    ⟨_, _, F__law_one_place, He.glo_ok X G (c.p.d.fact 20 (f := .glo "_law_one_place") rfl)⟩,
    ⟨_, _, F_law, He.glo_ok X G (c.p.d.fact 21 (f := .glo "law") rfl)⟩,
    He.glo_ok X G (c.p.d.fact 37 (f := .glo "Share") rfl),
    He.cls_ok (c.p.d.fact 38 (f := .cls "Share") rfl),
    He.noat_ok (c.p.d.fact 39 (f := .noat "Share" "top") rfl),
    He.noat_ok (c.p.d.fact 40 (f := .noat "Share" "bottom") rfl),
    He.mkr_ok (c.p.d.fact 41 (f := .mkr "Share") rfl),
    ⟨_, F_Share___init__⟩,
    He.meth_ok (c.p.d.fact 42 (f := .meth "Share" "below") rfl),
    ⟨_, F_Share_below⟩,
    He.meth_ok (c.p.d.fact 43 (f := .meth "Share" "over") rfl),
    ⟨_, F_Share_over⟩,
    He.meth_ok (c.p.d.fact 44 (f := .meth "Share" "__add__") rfl),
    ⟨_, F_Share___add__⟩,
    He.meth_ok (c.p.d.fact 45 (f := .meth "Share" "__sub__") rfl),
    ⟨_, F_Share___sub__⟩,
    He.meth_ok (c.p.d.fact 46 (f := .meth "Share" "__mul__") rfl),
    ⟨_, F_Share___mul__⟩,
    He.meth_ok (c.p.d.fact 47 (f := .meth "Share" "__neg__") rfl),
    ⟨_, F_Share___neg__⟩,
    He.meth_ok (c.p.d.fact 48 (f := .meth "Share" "__eq__") rfl),
    ⟨_, F_Share___eq__⟩,
    He.meth_ok (c.p.d.fact 49 (f := .meth "Share" "__bool__") rfl),
    ⟨_, F_Share___bool__⟩,
    He.meth_ok (c.p.d.fact 50 (f := .meth "Share" "__str__") rfl),
    ⟨_, F_Share___str__⟩,
    He.meth_ok (c.p.d.fact 51 (f := .meth "Share" "__repr__") rfl),
    ⟨_, F_Share___repr__⟩,
    (match He.int_ok X G (c.p.d.fact 52 (f := .int "END" 0) rfl) with | ⟨t, e⟩ => ⟨_, e, t, rfl⟩),
    (match He.int_ok X G (c.p.d.fact 53 (f := .int "GROUP_DIGITS" 9) rfl) with | ⟨t, e⟩ => ⟨_, e, t, rfl⟩),
    (match He.int_ok X G (c.p.d.fact 54 (f := .int "GROUP" 1000000000) rfl) with | ⟨t, e⟩ => ⟨_, e, t, rfl⟩),
    He.free_ok X G (c.p.d.fact 22 (f := .free "ValueError") rfl),
    He.free_ok X G (c.p.d.fact 23 (f := .free "abs") rfl),
    He.free_ok X G (c.p.d.fact 24 (f := .free "divmod") rfl),
    He.free_ok X G (c.p.d.fact 25 (f := .free "str") rfl),
    He.free_ok X G (c.p.d.fact 26 (f := .free "bool") rfl),
    He.free_ok X G (c.p.d.fact 27 (f := .free "isinstance") rfl),
    He.free_ok X G (c.p.d.fact 28 (f := .free "sum") rfl),
    He.free_ok X G (c.p.d.fact 29 (f := .free "range") rfl),
    He.free_ok X G (c.p.d.fact 30 (f := .free "len") rfl),
    He.free_ok X G (c.p.d.fact 31 (f := .free "zip") rfl),
    He.free_ok X G (c.p.d.fact 32 (f := .free "list") rfl),
    He.free_ok X G (c.p.d.fact 33 (f := .free "int") rfl),
    He.free_ok X G (c.p.d.fact 34 (f := .free "all") rfl),
    He.free_ok X G (c.p.d.fact 35 (f := .free "min") rfl),
    He.free_ok X G (c.p.d.fact 36 (f := .free "tuple") rfl),
    insB_ok (c.test 0 rfl),
    of_decide_eq_true (c.test 1 rfl),
    of_decide_eq_true (c.test 2 rfl),
    of_decide_eq_true (c.test 3 rfl),
    of_decide_eq_true (c.test 4 rfl),
    of_decide_eq_true (c.test 5 rfl),
    of_decide_eq_true (c.test 6 rfl),
    of_decide_eq_true (c.test 7 rfl),
    (c.test 8 rfl),
    (c.test 9 rfl),
    (c.test 10 rfl),
    (c.test 11 rfl),
    (c.test 12 rfl),
    (c.test 13 rfl),
    (c.test 14 rfl),
    bltB_ok X G (c.test 15 rfl),
    He.glo_ok X G (c.test 16 rfl),
    He.glo_ok X G (c.test 17 rfl),
    excB_ok (c.test 18 rfl),
    of_decide_eq_true (c.test 19 rfl),
    of_decide_eq_true (c.test 20 rfl),
    neB_ok (c.test 21 rfl)⟩
  have e := hfa.symm.trans (He.glo_ok X G (c.p.d.fact 21 (f := .glo "law") rfl))
  cases e
  have b := FunD.bindsA (ps := ["script"]) F_law fun _ _ _ _ _ _ us hl => match us, hl with | [_], _ => rfl
  exact ⟨fd_law, fun s v => b s [v] rfl, fun base _ _ => ok_law T F_law⟩
end Q
open PySem PySem.W PySem.Calls PyProof.Rows
set_option maxRecDepth 100000 in
set_option maxHeartbeats 0 in
theorem PySem.Challenge.cw_answersalone_k26_shares_of_weights_and_o_holds : PySem.Challenge.rw_answersalone_k26_shares_of_weights_and_o.Holds := by
  w_on; o_law
  refine HandSHeadRun.head_imp (r := OpenLaw.row PySem.Challenge.rw_answersalone_k26_shares_of_weights_and_o) (q := view (OpenLaw.row PySem.Challenge.rw_answersalone_k26_shares_of_weights_and_o).prog [0, 33]) (H := Q.hkR) (ob := Q.obR) (M := 6000) (loose := Q.looseR)
    (d := HandSHeadRun.topDef (OpenLaw.row PySem.Challenge.rw_answersalone_k26_shares_of_weights_and_o).prog 33) (kwd := []) Q.obR_eq
    Q.runR (by kernel_rfl) (by kernel_rfl) (by kernel_rfl) (by rfl) (by first | assumption | decide +kernel) (by decide +kernel) ⟨rfl, rfl, rfl, rfl, rfl, by decide +kernel⟩ ?hw ?hc
  case hw => w_witness2
  case hc =>
    refine L2.walk_ofE (l := PySem.Challenge.rw_answersalone_k26_shares_of_weights_and_o) (n := 63) (k := 10) (x := "script") (CX := L2.CX0) rfl (by decide) (by kernel_rfl) ⟨rfl, by decide, by decide⟩ ?F (fun _ _ _ _ z => z)
    intro w mg fa h Y G hmg0
    obtain ⟨K, KX, c⟩ := Y
    have hmg : mg ("law" : PySem.Str) = some (.ref fa) := by
      have e : (HandSHeadRun.topDef (OpenLaw.row PySem.Challenge.rw_answersalone_k26_shares_of_weights_and_o).prog 33).name = ("law" : PySem.Str) := by kernel_rfl
      rw [← e]
      exact hmg0
    obtain ⟨fd, hb, hF⟩ := Q.factsR (P := (PySem.Challenge.rw_answersalone_k26_shares_of_weights_and_o).prog) (w := w) KX G hmg c
    exact ⟨K, fd, Q.spLaw K, KX, hb, fun H a ns hl _ hS => ⟨a, ns, rfl, hS, hl, fun _ => rfl⟩, hF⟩
