import PyProof.Rows.All
import Wide.All
import OpenK.AllK
import Wide.FinOn
import HandS.Wide
import HandS.ForMost
import HandS.Defaults
import HandS.MakeKwOnly
import HandS.IsInst
import HandS.Conv
import HandS.Style
import HandS.Flow
import HandS.Codes
import HandS.Head0
import HandS.Head1
import HandS.Head2
import HandS.HeadEnd
import HandS.HeadHook1
import HandS.HeadHook2
import KE.GoesMore
import HandS.Zip
import KE.GoesEnum
import PySem.Challenge.RW_answersalone_k01_tables_by_hand
set_option Elab.async false
set_option linter.all false
set_option maxRecDepth 100000
namespace Q
open PySem PySem.Spec L2

/-- what a caller needs of a def that has no defaults -/
structure Cal (P : Program) (w : World) (K : PySem.W.Frag) (mg : Str → Option Value) (base : Heap)
    (x : Str) (k : Nat) (ps : List Str) (sp : Sp) : Prop where
  ex : ∃ (f : Addr) (fd : FuncData), FnOk P w K mg base CX0 k f fd ps sp ∧
    mg x = some (.ref f) ∧ PySem.W.keepIn K (.ref f) = true ∧ Binds K fd ps []

section
variable {X : Cx} {x : Str} {k : Nat} {ps : List Str} {sp : Sp} {e : Expr} {es : List Expr} {t : TA} {p pos : Pos}
theorem pe_cal (C : Cal X.prog X.w X.K X.mg X.base x k ps sp) (hr : Room k X.A) (hg : Gl X x) (ha : PA X (e :: es) t)
    (hd : (x == ("__debug__" : Str)) = false := by decide)
    (he : starEach (e :: es) X.env = (false, eval e X.env) :: starEach es X.env := by rfl)
    (hl : (backTo pos (starEach es X.env)).any (·.1) = false := by rfl) :
    PE X (.Call (.Name x p) (e :: es) [] pos) (tCall sp [] E0 t) := by
  obtain ⟨f, fd, F, hm, hk, hb⟩ := C.ex
  exact pe_call F hr hg hm hk hb .nil pass0 ha hd he hl
end

theorem cal_mk {P : Program} {w : World} {K : PySem.W.Frag} {mg : Str → Option Value} {base : Heap} {x q : Str} {pa : Arguments} {bd : List Stmt} {sc : Scope} {dv : List V} {kw : List (Str × V)} {k : Nat} {ps : List Str} {sp : Sp}
    (h : ∃ (f : Addr) (fd : FuncData), FunD K x q pa bd sc dv kw f fd ∧ mg x = some (.ref f))
    (ok : ∀ {f : Addr} {fd : FuncData}, FunD K x q pa bd sc dv kw f fd → FnOk P w K mg base CX0 k f fd ps sp)
    (b : ∀ {f : Addr} {fd : FuncData}, FunD K x q pa bd sc dv kw f fd → Binds K fd ps []) : Cal P w K mg base x k ps sp := by
  obtain ⟨f, fd, F, m⟩ := h
  exact ⟨f, fd, ok F, m, F.kp, b F⟩
theorem cal_mono {P : Program} {w : World} {K : PySem.W.Frag} {mg : Str → Option Value} {base : Heap} {x : Str} {j k : Nat} {ps : List Str} {sp : Sp} (C : Cal P w K mg base x j ps sp) (h : j ≤ k) : Cal P w K mg base x k ps sp := by
  obtain ⟨f, fd, F, m, kp, b⟩ := C.ex
  exact ⟨f, fd, F.mono h, m, kp, b⟩
/-- what a caller with keywords needs of a def: n values by position, the keywords ks; gV puts them (and the defaults) in the parameters' order -/
structure KCal (P : Program) (w : World) (K : PySem.W.Frag) (mg : Str → Option Value) (base : Heap) (x : Str) (k n : Nat) (ks : List Str) (gV : List V → List V → List V) (sp : Sp) : Prop where
  ex : ∃ (f : Addr) (fd : FuncData) (ps : List Str) (g : List Value → List Value → List Value), FnOk P w K mg base CX0 k f fd ps sp ∧ mg x = some (.ref f) ∧ PySem.W.keepIn K (.ref f) = true ∧ KBn K fd ps n ks g gV
theorem kcal_mk {P : Program} {w : World} {K : PySem.W.Frag} {mg : Str → Option Value} {base : Heap} {x q : Str} {pa : Arguments} {bd : List Stmt} {sc : Scope} {dv : List V} {kw : List (Str × V)} {k n : Nat} {ks ps : List Str} {sp : Sp} {gV : List V → List V → List V}
    (h : ∃ (f : Addr) (fd : FuncData), FunD K x q pa bd sc dv kw f fd ∧ mg x = some (.ref f))
    (ok : ∀ {f : Addr} {fd : FuncData}, FunD K x q pa bd sc dv kw f fd → FnOk P w K mg base CX0 k f fd ps sp)
    (b : ∀ {f : Addr} {fd : FuncData}, FunD K x q pa bd sc dv kw f fd → ∃ g, KBn K fd ps n ks g gV) : KCal P w K mg base x k n ks gV sp := by
  obtain ⟨f, fd, F, m⟩ := h
  obtain ⟨g, kb⟩ := b F
  exact ⟨f, fd, ps, g, ok F, m, F.kp, kb⟩
section
variable {X : Cx} {x : Str} {k n : Nat} {ks : List Str} {gV : List V → List V → List V} {sp : Sp} {e : Expr} {es : List Expr} {kws : List Keyword} {t tk : TA} {p pos : Pos}
theorem pe_kcal (C : KCal X.prog X.w X.K X.mg X.base x k n ks gV sp) (hr : Room k X.A) (hg : Gl X x) (ha : PA X (e :: es) t) (hkw : PK X kws tk)
    (hall : (backToKw pos (keywordEach kws X.env)).all (·.1.isSome) = true := by rfl) (hks : (backToKw pos (keywordEach kws X.env)).filterMap (·.1) = ks := by rfl)
    (hd : (x == ("__debug__" : Str)) = false := by decide) (he : starEach (e :: es) X.env = (false, eval e X.env) :: starEach es X.env := by rfl)
    (hl : ((backTo pos (starEach (e :: es) X.env)).any (·.1) || (backToKw pos (keywordEach kws X.env)).any (·.1.isNone)) = false := by rfl) :
    PE X (.Call (.Name x p) (e :: es) kws pos) (tCallN n ks.length sp gV E0 t tk) := by
  obtain ⟨f, fd, ps, g, F, hm, hk, hb⟩ := C.ex
  exact pe_callN F hr hg hm hk hb pass0 ha hkw hall hks hd he hl
theorem pe_kcal0 (C : KCal X.prog X.w X.K X.mg X.base x k 0 ks gV sp) (hr : Room k X.A) (hg : Gl X x) (hkw : PK X kws tk)
    (hall : (backToKw pos (keywordEach kws X.env)).all (·.1.isSome) = true := by rfl) (hks : (backToKw pos (keywordEach kws X.env)).filterMap (·.1) = ks := by rfl)
    (hd : (x == ("__debug__" : Str)) = false := by decide)
    (hl : ((backTo pos (starEach [] X.env)).any (·.1) || (backToKw pos (keywordEach kws X.env)).any (·.1.isNone)) = false := by rfl) :
    PE X (.Call (.Name x p) [] kws pos) (tCallN 0 ks.length sp gV E0 tNil tk) := by
  obtain ⟨f, fd, ps, g, F, hm, hk, hb⟩ := C.ex
  refine ⟨fun pins s σ H Q I h => ?_⟩
  refine wpAny_Call_Name_kw (ld_glob I hg hm ?_ hd)
  refine PySem.W.callWith_KW0 (h₀ := X.base) I.ok.mod.kin hk hall ?_ hl
  refine thn (hkw.run pos pins s σ H _ I h) fun ws s2 ⟨zs, H2, I2, rz, l1, l2, q2⟩ => ⟨I2.kIn, ?_⟩
  rw [hks]
  exact run_fnN (us := []) (vs := []) F hr hb pass0 I2 .nil rz l1 l2 q2
end
/-- what a caller needs of a method of the class at C -/
structure MCal (P : Program) (w : World) (K : PySem.W.Frag) (mg : Str → Option Value) (base : Heap) (C : Addr) (m : Str) (k : Nat) (ps : List Str) (sp : Sp) : Prop where
  ex : ∃ (f : Addr) (fd : FuncData), Meth K C m f ∧ FnOk P w K mg base CX0 k f fd ps sp ∧ Binds K fd ps []
theorem mcal_mk {P : Program} {w : World} {K : PySem.W.Frag} {mg : Str → Option Value} {base : Heap} {C : Addr} {m : Str} {x q : Str} {pa : Arguments} {bd : List Stmt} {sc : Scope} {dv : List V} {kw : List (Str × V)} {k : Nat} {ps : List Str} {sp : Sp} {f : Addr}
    (me : Meth K C m f) (h : ∃ (fd : FuncData), FunD K x q pa bd sc dv kw f fd)
    (ok : ∀ {f : Addr} {fd : FuncData}, FunD K x q pa bd sc dv kw f fd → FnOk P w K mg base CX0 k f fd ps sp)
    (b : ∀ {f : Addr} {fd : FuncData}, FunD K x q pa bd sc dv kw f fd → Binds K fd ps []) : MCal P w K mg base C m k ps sp := by
  obtain ⟨fd, F⟩ := h
  exact ⟨f, fd, me, ok F, b F⟩
/-- what a caller needs of a class that is made by its __init__ -/
structure MkC (P : Program) (w : World) (K : PySem.W.Frag) (mg : Str → Option Value) (base : Heap) (C : Addr) (k : Nat) (ps : List Str) (sp : Sp) : Prop where
  ex : ∃ (f : Addr) (fd : FuncData), Mk K C f ∧ FnOk P w K mg base CX0 k f fd ps sp ∧ Binds K fd ps []
section
variable {X : Cx} {K : PySem.W.Frag} {C : Addr} {k : Nat} {ps : List Str} {sp : Sp} {e o value : Expr} {es : List Expr} {t : TA} {ta tv : TE} {x m f : Str} {p pos pos' apos : Pos}
theorem pe_mcal {pl : Sem Bool} (he : PE X o ta) (c : Cls X.K C) (M : MCal X.prog X.w X.K X.mg X.base C m k ps sp) (hr : Room k X.A) (ha : PA X (e :: es) t)
    (hst : starEach (e :: es) X.env = (false, eval e X.env) :: starEach es X.env := by rfl) (hl : (backTo pos (starEach es X.env)).any (·.1) = false := by rfl)
    (ht : eval (.Call (.Attribute o m apos) (e :: es) [] pos) X.env = (do
      let self_ ← eval o X.env
      standAt apos.atName
      let (fn, first) ← holding [self_] (getMethod self_ m pl)
      callWith pos fn first (backTo pos (starEach (e :: es) X.env)) (backToKw pos (keywordEach [] X.env))) := by rfl) :
    PE X (.Call (.Attribute o m apos) (e :: es) [] pos) (tMeth C m sp [] E0 ta t) := by
  obtain ⟨f, fd, hm, F, hb⟩ := M.ex
  exact pe_meth he c hm F hr hb .nil pass0 ha hst hl ht
theorem pe_mcal0 {pl : Sem Bool} (he : PE X o ta) (c : Cls X.K C) (M : MCal X.prog X.w X.K X.mg X.base C m k ps sp) (hr : Room k X.A)
    (ht : eval (.Call (.Attribute o m apos) [] [] pos) X.env = (do
      let self_ ← eval o X.env
      standAt apos.atName
      let (fn, first) ← holding [self_] (getMethod self_ m pl)
      callWith pos fn first (backTo pos (starEach [] X.env)) (backToKw pos (keywordEach [] X.env))) := by rfl) :
    PE X (.Call (.Attribute o m apos) [] [] pos) (tMeth C m sp [] E0 ta tNil) := by
  obtain ⟨f, fd, hm, F, hb⟩ := M.ex
  exact pe_meth0 he c hm F hr hb .nil pass0 ht
theorem pe_mk (hm : X.mg x = some (.ref C)) (M : MkC X.prog X.w X.K X.mg X.base C k ps sp) (hr : Room (k + 1) X.A) (hg : Gl X x) (ha : PA X (e :: es) t)
    (hd : (x == ("__debug__" : Str)) = false := by decide) (he : starEach (e :: es) X.env = (false, eval e X.env) :: starEach es X.env := by rfl) (hl : (backTo pos (starEach es X.env)).any (·.1) = false := by rfl) :
    PE X (.Call (.Name x p) (e :: es) [] pos) (tMake C sp [] E0 t) := by
  obtain ⟨f, fd, hmk, F, hb⟩ := M.ex
  exact pe_make hmk F hr hg hm hb .nil pass0 ha hd he hl
theorem k_fld (ek : X.K = K) (he : PE X e ta) (hb : attributeBase e f X.env (eval e X.env) = eval e X.env) : PE X (.Attribute e f pos) (tFld K ta f) := by subst ek; exact pe_fld he hb
theorem k_sfld (ek : X.K = K) (ha : PE X o ta) (hv : PE X value tv) (hs : swapsWith value (some (.Attribute o f pos')) pos.line X.env = pure false) : PS X (.Assign [.Attribute o f pos'] value pos) (sFld K ta tv f) := by subst ek; exact ps_fld ha hv hs
end
/-- the parameters' order: the i-th of the values by position (0), of the defaults that lack (1), of the keywords (2) -/
def pick {α : Type} : List (Nat × Nat) → List α → List α → List α → List α
  | [], _, _, _ => []
  | (k, i) :: r, us, mv, ws => match (match k with | 0 => us | 1 => mv | _ => ws)[i]? with
    | some x => x :: pick r us mv ws
    | none => pick r us mv ws
theorem vals_pick : ∀ (ix : List (Nat × Nat)) {vs mz zs : List V} {us mv ws : List Value}, Vals vs us → Vals mz mv → Vals zs ws → Vals (pick ix vs mz zs) (pick ix us mv ws)
  | [], _, _, _, _, _, _, _, _, _ => .nil
  | (k, i) :: r, vs, mz, zs, us, mv, ws, h1, h2, h3 => by
    have hsel : Vals (match k with | 0 => vs | 1 => mz | _ => zs) (match k with | 0 => us | 1 => mv | _ => ws) := by
      match k with
      | 0 => exact h1
      | 1 => exact h2
      | _ + 2 => exact h3
    have ih := vals_pick r h1 h2 h3
    unfold pick
    cases e : (match k with | 0 => vs | 1 => mz | _ => zs)[i]? with
    | none =>
      rw [hsel.none_of e]
      exact ih
    | some x =>
      obtain ⟨u, hu, ru⟩ := hsel.get e
      rw [hu]
      exact .cons ru ih
theorem kbindsN {K : PySem.W.Frag} {x qual : Str} {params : Arguments} {body : List Stmt} {scope : Scope} {f : Addr} {fd : FuncData} {ps : List Str} (F : FunD K x qual params body scope [] [] f fd) (n : Nat) (ks : List Str) (ix : List (Nat × Nat))
    (h : ∀ (kV doc pm : Value) (an : Option Addr) (cdv ct : Value) (us ws : List Value), us.length = n → ws.length = ks.length →
      bindArgs (PySem.W.fnOf x qual params body scope .none kV doc pm an cdv ct) ⟨us, ks.zip ws⟩ = pure (ps.zip (pick ix us [] ws))) : ∃ g, KBn K fd ps n ks g (fun vs zs => pick ix vs [] zs) := by
  obtain ⟨oc, od, dV, kV, doc, pm, an, cdv, ct, osl, rfl, lk, hcd, hD, hK⟩ := F.ex
  rcases hD with ⟨_, rfl⟩ | ⟨e, _⟩
  · exact ⟨fun us ws => pick ix us [] ws, fun s us ws X l1 l2 => .of_eq (h kV doc pm an cdv ct us ws l1 l2), fun r1 r2 => vals_pick ix r1 .nil r2⟩
  · exact absurd rfl e
theorem kbindsK {K : PySem.W.Frag} {x qual : Str} {params : Arguments} {body : List Stmt} {scope : Scope} {kws : List (Str × V)} {f : Addr} {fd : FuncData} {ps : List Str} (F : FunD K x qual params body scope [] kws f fd) (n : Nat) (ks : List Str) (ms : List (Str × V)) (ix : List (Nat × Nat)) (hk : kws ≠ []) (hms : ∀ q ∈ ms, q ∈ kws)
    (h : ∀ (D : Addr) (doc pm : Value) (an : Option Addr) (cdv ct : Value) (us mv ws : List Value), us.length = n → mv.length = ms.length → ws.length = ks.length →
      KwChain D ((ms.map (·.1)).zip mv) (bindArgs (PySem.W.fnOf x qual params body scope .none (.ref D) doc pm an cdv ct) ⟨us, ks.zip ws⟩) (ps.zip (pick ix us mv ws))) : ∃ g, KBn K fd ps n ks g (fun vs zs => pick ix vs (ms.map (·.2)) zs) := by
  obtain ⟨mv, hb⟩ := F.kbinds0 n ks ms (fun us mv ws => pick ix us mv ws) hk hms (fun h1 h2 h3 => vals_pick ix h1 h2 h3) h
  exact ⟨_, hb⟩
/-- all but a stays -/
def Chg (a : Addr) (H H' : Hp) : Prop := ∀ b o, b ≠ a → H b = some o → H' b = some o
theorem Chg.refl {a : Addr} {H : Hp} : Chg a H H := fun _ _ _ h => h
theorem Chg.trans {a : Addr} {H H1 H2 : Hp} (x : Chg a H H1) (y : Chg a H1 H2) : Chg a H H2 := fun b o n h => y b o n (x b o n h)
theorem Chg.upd {a : Addr} {H : Hp} {o : HO} : Chg a H (upd H a o) := fun b _ n h => by rw [upd_ne n]; exact h
theorem Chg.new {a p : Addr} {H : Hp} {o : HO} (hp : H p = none) : Chg a H (L2.upd H p o) := fun b u _ h => by
  rw [upd_ne (ne_of_none h hp)]; exact h
theorem Same.chg {a : Addr} {H H' : Hp} (s : Same H H') : Chg a H H' := fun b o _ h => s b o h
theorem sm_chg {a : Addr} {H H' : Hp} (s : L2.Same H H') : Chg a H H' := fun b o _ h => s b o h
theorem same_new {H : Hp} {p : Addr} {o : HO} (hp : H p = none) : Same H (L2.upd H p o) := fun b u h => by
  rw [upd_ne (ne_of_none h hp)]; exact h

/-! ### readings, step by step: each g_.. takes one head away -/
section
variable {D : Ends} {σ : L2.St} {H : Hp} {Q : VK} {QB : Bool → Hp → Prop} {QL : List V → Hp → Prop}
theorem g_seq {t u : TS} (h : t { D with nx := u D } σ H) : tSeq t u D σ H := h
theorem g_asg {te : TE} {g : TG} (h : te σ H fun x H1 => g x σ H1 D.nx) : tAsg te g D σ H := h
def ParR (i j : Nat) (D : Ends) (σ : L2.St) (vs : List V) (H1 : Hp) : Prop := ∃ v w, vs = [v, w] ∧ D.nx ((σ.set i (some v)).set j (some w)) H1
theorem g_par {i j : Nat} {ta : TA} (h : ta σ H (ParR i j D σ)) : tPar i j ta D σ H := h
theorem g_parR {i j : Nat} {v w : V} (h : gName i v σ H fun σ1 H1 => gName j w σ1 H1 D.nx) : ParR i j D σ [v, w] H := ⟨v, w, rfl, h⟩
def ParR3 (i j l : Nat) (D : Ends) (σ : L2.St) (vs : List V) (H1 : Hp) : Prop := ∃ v w u, vs = [v, w, u] ∧ D.nx (((σ.set i (some v)).set j (some w)).set l (some u)) H1
theorem g_par3 {i j l : Nat} {ta : TA} (h : ta σ H (ParR3 i j l D σ)) : tPar3 i j l ta D σ H := h
theorem g_parR3 {i j l : Nat} {v w u : V} (h : gName i v σ H fun σ1 H1 => gName j w σ1 H1 fun σ2 H2 => gName l u σ2 H2 D.nx) : ParR3 i j l D σ [v, w, u] H := ⟨v, w, u, rfl, h⟩
theorem g_aug {i : Nat} {te : TE} {ti : TIp} (h : tVar i σ H fun x _ => te σ H fun y H1 => ti x y H1 fun z H2 => gName i z σ H2 D.nx) : tAug i te ti D σ H := h
theorem g_ipI {f : Int → Int → Int} {i j : Int} (h : Q (.int (f i j)) H) : ipI f (.int i) (.int j) H Q := ⟨i, j, rfl, rfl, h⟩
theorem g_ifS {c : TT} {t u : TS} (h : c σ H fun b H1 => if b = true then t D σ H1 else u D σ H1) : tIfS c t u D σ H := h
theorem g_ret {te : TE} (h : te σ H D.rt) : tRet te D σ H := h
theorem g_retN (h : D.rt .non H) : tRetN D σ H := h
theorem g_drop {te : TE} (h : te σ H fun _ H1 => D.nx σ H1) : tDrop te D σ H := h
theorem g_next (h : D.nx σ H) : tNext D σ H := h
theorem g_brk (h : D.bk σ H) : tBreak D σ H := h
theorem g_cont (h : D.ct σ H) : tCont D σ H := h
theorem g_c {v : V} (h : Q v H) : tC v σ H Q := h
theorem g_op {r : R2} {ta tb : TE} (h : ta σ H fun x H1 => tb σ H1 fun y H2 => r x y H2 Q) : tOp r ta tb σ H Q := h
theorem g_un {r : V → Hp → VK → Prop} {ta : TE} (h : ta σ H fun x H1 => r x H1 Q) : tUn r ta σ H Q := h
theorem g_cb {r : List V → Hp → VK → Prop} {t : TA} (h : t σ H fun vs H1 => r vs H1 Q) : tCB r t σ H Q := h
theorem g_nil (h : QL [] H) : tNil σ H QL := h
theorem g_cons {ta : TE} {t : TA} (h : ta σ H fun x H1 => t σ H1 fun xs H2 => QL (x :: xs) H2) : tCons ta t σ H QL := h
def NewL (Q : VK) (xs : List V) (H1 : Hp) : Prop := xs.length ≤ sizeLine ∧ ∀ p, H1 p = none → Q (.ref p) (upd H1 p (.lst xs))
def NewT (Q : VK) (xs : List V) (H1 : Hp) : Prop := xs.length ≤ sizeLine ∧ ∀ p, H1 p = none → Q (.ref p) (upd H1 p (.tup xs))
theorem g_lst {t : TA} (h : t σ H fun xs H1 => NewL Q xs H1) : tLst t σ H Q := h
theorem g_tup {t : TA} (h : t σ H fun xs H1 => NewT Q xs H1) : tTup t σ H Q := h
theorem g_newL {xs : List V} (l : xs.length ≤ 1000) (h : ∀ p, H p = none → Q (.ref p) (upd H p (.lst xs))) : NewL Q xs H := ⟨Nat.le_of_lt (small1000 l), h⟩
theorem g_newT {xs : List V} (l : xs.length ≤ 1000) (h : ∀ p, H p = none → Q (.ref p) (upd H p (.tup xs))) : NewT Q xs H := ⟨Nat.le_of_lt (small1000 l), h⟩
theorem g_call {sp : Sp} {E : XK} {t : TA} (h : t σ H fun vs H1 => sp vs H1 Q E) : tCall sp [] E t σ H Q := by
  show t σ H fun vs H1 => sp (vs ++ []) H1 Q E
  simp only [List.append_nil]
  exact h
theorem g_if {t : TT} {ta tb : TE} (h : t σ H fun c H1 => if c = true then ta σ H1 Q else tb σ H1 Q) : tIf t ta tb σ H Q := h
theorem g_andV {ta tb : TE} (h : ta σ H fun x H1 => ∃ c, x = .bl c ∧ if c = true then tb σ H1 Q else Q (.bl false) H1) : tAndV ta tb σ H Q := h
theorem g_orV {ta tb : TE} (h : ta σ H fun x H1 => ∃ c, x = .bl c ∧ if c = true then Q (.bl true) H1 else tb σ H1 Q) : tOrV ta tb σ H Q := h
def ChR (r : R2) (tc : TE) (σ : L2.St) (Q : VK) (y z : V) (H3 : Hp) : Prop := ∃ k, z = .bl k ∧ (if k = true then tc σ H3 fun w H4 => r y w H4 Q else Q (.bl false) H3)
theorem g_chain {r r' : R2} {ta tb tc : TE} (h : ta σ H fun x H1 => tb σ H1 fun y H2 => r x y H2 (ChR r' tc σ Q y)) : tChain r r' ta tb tc σ H Q := h
theorem g_chR {r : R2} {tc : TE} {y : V} {b : Bool} (h : if b = true then tc σ H fun w H4 => r y w H4 Q else Q (.bl false) H) : ChR r tc σ Q y (.bl b) H := ⟨b, rfl, h⟩
theorem g_notV {ta : TE} (h : ta σ H fun x H1 => ∃ c, x = .bl c ∧ Q (.bl (!c)) H1) : tNotV ta σ H Q := h
theorem g_b {t : TE} (h : t σ H fun x H1 => ∃ c, x = .bl c ∧ QB c H1) : tB t σ H QB := h
theorem g_test {t : TE} (h : t σ H fun x H1 => ∃ c, x = .bl c ∧ QB c H1) : tTest t σ H QB := h
theorem g_and {t u : TT} (h : t σ H fun c H1 => if c = true then u σ H1 QB else QB false H1) : tAnd t u σ H QB := h
theorem g_or {t u : TT} (h : t σ H fun c H1 => if c = true then QB true H1 else u σ H1 QB) : tOr t u σ H QB := h
theorem g_not {t : TT} (h : t σ H fun c H1 => QB (!c) H1) : tNot t σ H QB := h
theorem g_yes (h : QB true H) : tYes σ H QB := h
theorem g_bl {b : Bool} {R : Bool → Prop} (h : R b) : ∃ c, V.bl b = V.bl c ∧ R c := ⟨b, rfl, h⟩
theorem g_sub {to ti : TE} {t : TSet} {v : V} {N : L2.St → Hp → Prop} (h : to σ H fun o H1 => ti σ H1 fun i H2 => t o i v H2 fun H3 => N σ H3) : gSub to ti t v σ H N := h
def KArg (n m : Nat) (sp : Sp) (gV : List V → List V → List V) (E : XK) (Q : VK) (vs zs : List V) (H : Hp) : Prop := vs.length = n ∧ zs.length = m ∧ sp (gV vs zs) H Q E
theorem g_callN {n m : Nat} {sp : Sp} {gV : List V → List V → List V} {E : XK} {t tk : TA} (h : t σ H fun vs H1 => tk σ H1 fun zs H2 => KArg n m sp gV E Q vs zs H2) : tCallN n m sp gV E t tk σ H Q := h
theorem g_kArg {n m : Nat} {sp : Sp} {gV : List V → List V → List V} {E : XK} {vs zs ws : List V} (h1 : vs.length = n) (h2 : zs.length = m) (e : gV vs zs = ws) (h : sp ws H Q E) : KArg n m sp gV E Q vs zs H := ⟨h1, h2, by rw [e]; exact h⟩
def BmR (K : PySem.W.Frag) (T : String) (r : V → List V → Hp → VK → Prop) (t : TA) (σ : L2.St) (Q : VK) (x : V) (H1 : Hp) : Prop := tyV K T x H1 ∧ t σ H1 fun xs H2 => r x xs H2 Q
theorem g_bm {K : PySem.W.Frag} {T : String} {r : V → List V → Hp → VK → Prop} {to : TE} {t : TA} (h : to σ H (BmR K T r t σ Q)) : tBM K T r to t σ H Q := h
theorem g_bmL {K : PySem.W.Frag} {r : V → List V → Hp → VK → Prop} {t : TA} {p : Addr} {xs : List V} (h : SqL K H p xs) (q : t σ H fun ys H2 => r (.ref p) ys H2 Q) : BmR K "list" r t σ Q (.ref p) H := ⟨.inl ⟨rfl, xs, h⟩, q⟩
def FldR (K : PySem.W.Frag) (f : Str) (Q : VK) (x : V) (H1 : Hp) : Prop := ∃ a C dx fs v, x = .ref a ∧ H1 a = some (.ins C dx fs) ∧ Cls K C ∧ NoAttr K C f ∧ fs.lookup f = some v ∧ Q v H1
theorem g_fld {K : PySem.W.Frag} {ta : TE} {f : Str} (h : ta σ H (FldR K f Q)) : tFld K ta f σ H Q := h
theorem g_fldR {K : PySem.W.Frag} {f : Str} {a C dx : Addr} {fs : List (Str × V)} {v : V} (h : H a = some (.ins C dx fs)) (c : Cls K C) (n : NoAttr K C f) (l : fs.lookup f = some v) (q : Q v H) : FldR K f Q (.ref a) H := ⟨a, C, dx, fs, v, rfl, h, c, n, l, q⟩
def MethR (C : Addr) (m : Str) (sp : Sp) (E : XK) (t : TA) (σ : L2.St) (Q : VK) (x : V) (H1 : Hp) : Prop := ∃ a dx fs, x = .ref a ∧ H1 a = some (.ins C dx fs) ∧ fs.lookup m = none ∧ t σ H1 fun vs H2 => sp (x :: vs) H2 Q E
theorem g_meth {C : Addr} {m : Str} {sp : Sp} {E : XK} {ta : TE} {t : TA} (h : ta σ H (MethR C m sp E t σ Q)) : tMeth C m sp [] E ta t σ H Q := by
  show ta σ H fun x H1 => ∃ a dx fs, x = .ref a ∧ H1 a = some (.ins C dx fs) ∧ fs.lookup m = none ∧ t σ H1 fun vs H2 => sp (x :: (vs ++ [])) H2 Q E
  simp only [List.append_nil]
  exact h
theorem g_methR {C : Addr} {m : Str} {sp : Sp} {E : XK} {t : TA} {a dx : Addr} {fs : List (Str × V)} (h : H a = some (.ins C dx fs)) (l : fs.lookup m = none) (q : t σ H fun vs H2 => sp (.ref a :: vs) H2 Q E) : MethR C m sp E t σ Q (.ref a) H := ⟨a, dx, fs, rfl, h, l, q⟩
def SFldR (K : PySem.W.Frag) (f : Str) (D : Ends) (σ : L2.St) (y x : V) (H2 : Hp) : Prop := ∃ a C dx fs, x = .ref a ∧ H2 a = some (.ins C dx fs) ∧ Cls K C ∧ NoAttr K C f ∧ fs.length < 1000 ∧ D.nx σ (upd H2 a (.ins C dx (putF f y fs)))
theorem g_sfld {K : PySem.W.Frag} {ta tv : TE} {f : Str} (h : tv σ H fun y H1 => ta σ H1 (SFldR K f D σ y)) : sFld K ta tv f D σ H := h
theorem g_sfldR {K : PySem.W.Frag} {f : Str} {a C dx : Addr} {fs : List (Str × V)} {y : V} (h : H a = some (.ins C dx fs)) (c : Cls K C) (n : NoAttr K C f) (l : fs.length < 1000) (q : D.nx σ (upd H a (.ins C dx (putF f y fs)))) : SFldR K f D σ y (.ref a) H := ⟨a, C, dx, fs, rfl, h, c, n, l, q⟩
/-! values -/
theorem g_rI0 {g : Int → Int → V} {i j : Int} (h : Q (g i j) H) : rI0 g (.int i) (.int j) H Q := ⟨i, j, rfl, rfl, h⟩
theorem g_rI {C : Int → Int → Prop} {g : Int → Int → V} {i j : Int} (c : C i j) (h : Q (g i j) H) : rI C g (.int i) (.int j) H Q := ⟨i, j, rfl, rfl, c, h⟩
theorem g_rU {g : Int → V} {i : Int} (h : Q (g i) H) : rU g (.int i) H Q := ⟨i, rfl, h⟩
theorem g_eqI {i j : Int} (h : Q (.bl (decide (i = j))) H) : rEq (.int i) (.int j) H Q :=
  ⟨rfl, by rw [show decide (V.int i = V.int j) = decide (i = j) from by simp only [V.int.injEq]]; exact h⟩
theorem g_neI {i j : Int} (h : Q (.bl (!decide (i = j))) H) : rNe (.int i) (.int j) H Q :=
  ⟨rfl, by rw [show decide (V.int i = V.int j) = decide (i = j) from by simp only [V.int.injEq]]; exact h⟩
theorem g_eqS {i j : Str} (h : Q (.bl (decide (i = j))) H) : rEq (.str i) (.str j) H Q :=
  ⟨rfl, by rw [show decide (V.str i = V.str j) = decide (i = j) from by simp only [V.str.injEq]]; exact h⟩
theorem g_eqB {i j : Bool} (h : Q (.bl (decide (i = j))) H) : rEq (.bl i) (.bl j) H Q :=
  ⟨rfl, by rw [show decide (V.bl i = V.bl j) = decide (i = j) from by simp only [V.bl.injEq]]; exact h⟩
theorem g_neB {i j : Bool} (h : Q (.bl (!decide (i = j))) H) : rNe (.bl i) (.bl j) H Q :=
  ⟨rfl, by rw [show decide (V.bl i = V.bl j) = decide (i = j) from by simp only [V.bl.injEq]]; exact h⟩
theorem g_isN {x : V} (h : Q (.bl (decide (x = .non))) H) : (∃ _ : Unit, True) ∧ Q (.bl (decide (x = .non))) H := ⟨⟨(), trivial⟩, h⟩
theorem g_ixL {K : PySem.W.Frag} {p : Addr} {xs : List V} {i : Int} {v : V} (h : SqL K H p xs) (e : atI xs i = some v) (q : Q v H) : rIxL K (.ref p) (.int i) H Q := ⟨p, xs, i, v, rfl, rfl, h, e, q⟩
theorem g_setL {p : Addr} {xs : List V} {k : Int} {j : Nat} {v : V} {N : Hp → Prop} (h : H p = some (.lst xs)) (e : ixN xs.length k = some j) (q : N (upd H p (.lst (xs.set j v)))) : rSetL (.ref p) (.int k) v H N := ⟨p, xs, k, j, rfl, rfl, h, e, q⟩
theorem g_p6 (h : Q (.int 1000000) H) : rI CPow (fun i j => V.int (i ^ j.toNat)) (.int 10) (.int 6) H Q := ⟨10, 6, rfl, rfl, ⟨by decide, by decide, by decide⟩, h⟩
theorem g_p18 (h : Q (.int 1000000000000000000) H) : rI CPow (fun i j => V.int (i ^ j.toNat)) (.int 10) (.int 18) H Q := ⟨10, 18, rfl, rfl, ⟨by decide, by decide, by decide⟩, h⟩
theorem g_sl {r : V → Option Int → Option Int → Hp → VK → Prop} {te : TE} {tl th : TO} (h : te σ H fun x H1 => tl σ H1 fun l H2 => th σ H2 fun u H3 => r x l u H3 Q) : tSl r te tl th σ H Q := h
def PartR (x : V) (R : Option Int → Hp → Prop) (H : Hp) : Prop := ∃ i, x = .int i ∧ R (some i) H
theorem g_part {te : TE} {R : Option Int → Hp → Prop} (h : te σ H fun x H1 => PartR x R H1) : tPart te σ H R := h
theorem g_partI {i : Int} {R : Option Int → Hp → Prop} (h : R (some i) H) : PartR (.int i) R H := ⟨i, rfl, h⟩
theorem g_cat {l b : Addr} {xs zs : List V} (h1 : H l = some (.lst xs)) (h2 : H b = some (.lst zs)) (hl : xs.length + zs.length ≤ 1000) (q : ∀ p, H p = none → Q (.ref p) (upd H p (.lst (xs ++ zs)))) : rCat (.ref l) (.ref b) H Q :=
  ⟨l, b, xs, zs, rfl, rfl, h1, h2, Nat.le_of_lt (small1000 hl), q⟩
theorem g_ixS {K : PySem.W.Frag} {p : Addr} {xs : List V} {i : Int} {v : V} (h : SqL K H p xs) (e : atI xs i = some v) (q : Q v H) : rIxL K (.ref p) (.int i) H Q := g_ixL h e q
theorem g_noPart {R : Option Int → Hp → Prop} (h : R none H) : tNoPart σ H R := h
theorem g_slL {K : PySem.W.Frag} {a : Addr} {xs : List V} {lo hi : Option Int} (h : SqL K H a xs) (q : ∀ p, H p = none → Q (.ref p) (upd H p (.lst (cutV xs lo hi)))) : rSlL K (.ref a) lo hi H Q := ⟨a, xs, rfl, h, q⟩
theorem g_in {K : PySem.W.Frag} {p : Addr} {x : V} {xs : List V} (h : SqL K H p xs ∨ SqT K H p xs) (fx : flatV x = true) (fs : xs.all flatV = true) (q : Q (.bl (inV x xs)) H) : rIn K false x (.ref p) H Q := ⟨p, xs, rfl, h, fx, fs, q⟩
theorem g_notin {K : PySem.W.Frag} {p : Addr} {x : V} {xs : List V} (h : SqL K H p xs ∨ SqT K H p xs) (fx : flatV x = true) (fs : xs.all flatV = true) (q : Q (.bl (!inV x xs)) H) : rIn K true x (.ref p) H Q := ⟨p, xs, rfl, h, fx, fs, q⟩
theorem flat_ints (ns : List Int) : (ns.map V.int).all flatV = true := by
  induction ns with
  | nil => rfl
  | cons n r ih => rw [List.map_cons, List.all_cons, ih]; rfl
theorem in_ints (i : Int) (ns : List Int) : inV (.int i) (ns.map V.int) = decide (i ∈ ns) := by
  unfold inV
  induction ns with
  | nil => rfl
  | cons n r ih =>
    rw [List.map_cons, List.any_cons, ih]
    show (n == i || decide (i ∈ r)) = decide (i ∈ n :: r)
    by_cases e : n = i
    · subst e; simp
    · have e2 : ¬ i = n := fun z => e z.symm
      simp [e, e2]
theorem g_inI {K : PySem.W.Frag} {p : Addr} {i : Int} {ns : List Int} (h : SqL K H p (ns.map V.int) ∨ SqT K H p (ns.map V.int)) (q : Q (.bl (decide (i ∈ ns))) H) : rIn K false (.int i) (.ref p) H Q :=
  g_in h rfl (flat_ints ns) (by rw [in_ints]; exact q)
theorem g_notinI {K : PySem.W.Frag} {p : Addr} {i : Int} {ns : List Int} (h : SqL K H p (ns.map V.int) ∨ SqT K H p (ns.map V.int)) (q : Q (.bl (!decide (i ∈ ns))) H) : rIn K true (.int i) (.ref p) H Q :=
  g_notin h rfl (flat_ints ns) (by rw [in_ints]; exact q)
/-! tests known and open -/
theorem g_iteD {p A B : Prop} [Decidable p] (h1 : p → A) (h2 : ¬ p → B) : if decide p = true then A else B := by
  by_cases h : p
  · rw [if_pos (decide_eq_true h)]; exact h1 h
  · rw [if_neg (by simp [h])]; exact h2 h
theorem g_iteN {p A B : Prop} [Decidable p] (h1 : ¬ p → A) (h2 : p → B) : if (!decide p) = true then A else B := by
  by_cases h : p
  · rw [if_neg (by simp [h])]; exact h2 h
  · rw [if_pos (by simp [h])]; exact h1 h
theorem g_iteY {p A B : Prop} [Decidable p] (h : p) (h1 : A) : if decide p = true then A else B := by
  rw [if_pos (decide_eq_true h)]; exact h1
theorem g_iteX {p A B : Prop} [Decidable p] (h : ¬ p) (h1 : B) : if decide p = true then A else B := by
  rw [if_neg (by simp [h])]; exact h1
theorem g_iteNY {p A B : Prop} [Decidable p] (h : ¬ p) (h1 : A) : if (!decide p) = true then A else B := by
  rw [if_pos (by simp [h])]; exact h1
theorem g_iteNX {p A B : Prop} [Decidable p] (h : p) (h1 : B) : if (!decide p) = true then A else B := by
  rw [if_neg (by simp [h])]; exact h1
theorem g_iteCT {b : Bool} {A B : Prop} (h : b = true) (q : A) : if b = true then A else B := by rw [if_pos h]; exact q
theorem g_iteCF {b : Bool} {A B : Prop} (h : b = false) (q : B) : if b = true then A else B := by rw [h, if_neg Bool.false_ne_true]; exact q
theorem g_iteBB {b : Bool} {A B : Prop} (h1 : b = true → A) (h2 : b = false → B) : if b = true then A else B := by
  cases b
  · rw [if_neg Bool.false_ne_true]; exact h2 rfl
  · rw [if_pos rfl]; exact h1 rfl
end
/-! ### built-ins, named -/
section
variable {X : Cx} {σ : L2.St} {H : Hp} {Q : VK}
def qInt : List V → Hp → VK → Prop := fun xs H Q => ∃ i, xs = [.int i] ∧ Q (.int i) H
theorem c_int : CallR X (.type "int") qInt := fun pins s σ H xs us Q I r h => call_int1 pins s σ H xs us Q I r (.inl h)
theorem g_int {i : Int} (h : Q (.int i) H) : qInt [.int i] H Q := ⟨i, rfl, h⟩
def qLen (K : PySem.W.Frag) : List V → Hp → VK → Prop := fun xs H Q => ∃ p ys, xs = [.ref p] ∧ (SqL K H p ys ∨ SqT K H p ys) ∧ Q (.int ys.length) H
theorem c_len : CallR X (.builtin "len") (qLen X.K) := call_len_seq
theorem g_len {K : PySem.W.Frag} {p : Addr} {ys : List V} (h : SqL K H p ys ∨ SqT K H p ys) (q : Q (.int ys.length) H) : qLen K [.ref p] H Q := ⟨p, ys, rfl, h, q⟩
def qList (K : PySem.W.Frag) : List V → Hp → VK → Prop := fun xs H Q => ∃ p ys, xs = [.ref p] ∧ (SqL K H p ys ∨ SqT K H p ys) ∧ ∀ l, H l = none → Q (.ref l) (upd H l (.lst ys))
theorem c_list : CallR X (.type "list") (qList X.K) := call_list_of
theorem g_list {K : PySem.W.Frag} {p : Addr} {ys : List V} (h : SqL K H p ys ∨ SqT K H p ys) (q : ∀ l, H l = none → Q (.ref l) (upd H l (.lst ys))) : qList K [.ref p] H Q := ⟨p, ys, rfl, h, q⟩
def qTuple (K : PySem.W.Frag) : List V → Hp → VK → Prop := fun xs H Q => ∃ p ys, xs = [.ref p] ∧ SqL K H p ys ∧ ∀ l, H l = none → Q (.ref l) (upd H l (.tup ys))
theorem c_tuple : CallR X (.type "tuple") (qTuple X.K) := fun pins s σ H xs us Q I r ⟨p, ys, e, h, q⟩ => call_tuple_of pins s σ H xs us Q I r ⟨p, ys, e, .inl ⟨h, q⟩⟩
theorem g_tuple {K : PySem.W.Frag} {p : Addr} {ys : List V} (h : SqL K H p ys) (q : ∀ l, H l = none → Q (.ref l) (upd H l (.tup ys))) : qTuple K [.ref p] H Q := ⟨p, ys, rfl, h, q⟩
theorem g_sum {K : PySem.W.Frag} {a : Addr} {ns : List Int} (h : SqL K H a (ns.map V.int)) (q : Q (.int ns.sum) H) : rSum K [.ref a] H Q := ⟨a, ns, rfl, h, q⟩
theorem g_max {K : PySem.W.Frag} {a : Addr} {ns : List Int} (h : SqL K H a (ns.map V.int)) (l : 0 < ns.length) (q : ∀ m, m ∈ ns → (∀ y, y ∈ ns → y ≤ m) → Q (.int m) H) : rMax K [.ref a] H Q := ⟨a, ns, rfl, h, l, q⟩
theorem g_any {K : PySem.W.Frag} {a : Addr} {bs : List Bool} (h : SqL K H a (bs.map V.bl)) (q : Q (.bl (bs.any id)) H) : rAny K [.ref a] H Q := ⟨a, bs, rfl, h, q⟩
theorem g_all {K : PySem.W.Frag} {a : Addr} {bs : List Bool} (h : SqL K H a (bs.map V.bl)) (q : Q (.bl (bs.all id)) H) : rAll K [.ref a] H Q := ⟨a, bs, rfl, h, q⟩
def qIsN : R2 := fun x y H Q => y = .non ∧ Q (.bl (decide (x = .non))) H
theorem o_isN : OpR X (compareOp .Is) qIsN := op_isN
theorem g_isNr {r : Addr} (h : Q (.bl false) H) : qIsN (.ref r) .non H Q := ⟨rfl, by rw [decide_eq_false (by intro e; cases e)]; exact h⟩
theorem g_isNn (h : Q (.bl true) H) : qIsN .non .non H Q := ⟨rfl, h⟩
theorem g_isNb {b : Bool} (h : Q (.bl false) H) : qIsN (.bl b) .non H Q := ⟨rfl, by rw [decide_eq_false (by intro e; cases e)]; exact h⟩
theorem g_isNs {z : Str} (h : Q (.bl false) H) : qIsN (.str z) .non H Q := ⟨rfl, by rw [decide_eq_false (by intro e; cases e)]; exact h⟩
theorem g_isNi {i : Int} (h : Q (.bl false) H) : qIsN (.int i) .non H Q := ⟨rfl, by rw [decide_eq_false (by intro e; cases e)]; exact h⟩
end

theorem g_v0 {v : V} {r : L2.St} {H : Hp} {Q : VK} (h : Q v H) : tVar 0 (some v :: r) H Q := ⟨v, rfl, h⟩
theorem g_n0 {y : Option V} {v : V} {r : L2.St} {H : Hp} {N : L2.St → Hp → Prop} (h : N (some v :: r) H) : gName 0 v (y :: r) H N := h
theorem g_v1 {x0 : Option V} {v : V} {r : L2.St} {H : Hp} {Q : VK} (h : Q v H) : tVar 1 (x0 :: some v :: r) H Q := ⟨v, rfl, h⟩
theorem g_n1 {x0 y : Option V} {v : V} {r : L2.St} {H : Hp} {N : L2.St → Hp → Prop} (h : N (x0 :: some v :: r) H) : gName 1 v (x0 :: y :: r) H N := h
theorem g_v2 {x0 x1 : Option V} {v : V} {r : L2.St} {H : Hp} {Q : VK} (h : Q v H) : tVar 2 (x0 :: x1 :: some v :: r) H Q := ⟨v, rfl, h⟩
theorem g_n2 {x0 x1 y : Option V} {v : V} {r : L2.St} {H : Hp} {N : L2.St → Hp → Prop} (h : N (x0 :: x1 :: some v :: r) H) : gName 2 v (x0 :: x1 :: y :: r) H N := h
theorem g_v3 {x0 x1 x2 : Option V} {v : V} {r : L2.St} {H : Hp} {Q : VK} (h : Q v H) : tVar 3 (x0 :: x1 :: x2 :: some v :: r) H Q := ⟨v, rfl, h⟩
theorem g_n3 {x0 x1 x2 y : Option V} {v : V} {r : L2.St} {H : Hp} {N : L2.St → Hp → Prop} (h : N (x0 :: x1 :: x2 :: some v :: r) H) : gName 3 v (x0 :: x1 :: x2 :: y :: r) H N := h
theorem g_v4 {x0 x1 x2 x3 : Option V} {v : V} {r : L2.St} {H : Hp} {Q : VK} (h : Q v H) : tVar 4 (x0 :: x1 :: x2 :: x3 :: some v :: r) H Q := ⟨v, rfl, h⟩
theorem g_n4 {x0 x1 x2 x3 y : Option V} {v : V} {r : L2.St} {H : Hp} {N : L2.St → Hp → Prop} (h : N (x0 :: x1 :: x2 :: x3 :: some v :: r) H) : gName 4 v (x0 :: x1 :: x2 :: x3 :: y :: r) H N := h
theorem g_v5 {x0 x1 x2 x3 x4 : Option V} {v : V} {r : L2.St} {H : Hp} {Q : VK} (h : Q v H) : tVar 5 (x0 :: x1 :: x2 :: x3 :: x4 :: some v :: r) H Q := ⟨v, rfl, h⟩
theorem g_n5 {x0 x1 x2 x3 x4 y : Option V} {v : V} {r : L2.St} {H : Hp} {N : L2.St → Hp → Prop} (h : N (x0 :: x1 :: x2 :: x3 :: x4 :: some v :: r) H) : gName 5 v (x0 :: x1 :: x2 :: x3 :: x4 :: y :: r) H N := h
theorem g_v6 {x0 x1 x2 x3 x4 x5 : Option V} {v : V} {r : L2.St} {H : Hp} {Q : VK} (h : Q v H) : tVar 6 (x0 :: x1 :: x2 :: x3 :: x4 :: x5 :: some v :: r) H Q := ⟨v, rfl, h⟩
theorem g_n6 {x0 x1 x2 x3 x4 x5 y : Option V} {v : V} {r : L2.St} {H : Hp} {N : L2.St → Hp → Prop} (h : N (x0 :: x1 :: x2 :: x3 :: x4 :: x5 :: some v :: r) H) : gName 6 v (x0 :: x1 :: x2 :: x3 :: x4 :: x5 :: y :: r) H N := h
theorem g_v7 {x0 x1 x2 x3 x4 x5 x6 : Option V} {v : V} {r : L2.St} {H : Hp} {Q : VK} (h : Q v H) : tVar 7 (x0 :: x1 :: x2 :: x3 :: x4 :: x5 :: x6 :: some v :: r) H Q := ⟨v, rfl, h⟩
theorem g_n7 {x0 x1 x2 x3 x4 x5 x6 y : Option V} {v : V} {r : L2.St} {H : Hp} {N : L2.St → Hp → Prop} (h : N (x0 :: x1 :: x2 :: x3 :: x4 :: x5 :: x6 :: some v :: r) H) : gName 7 v (x0 :: x1 :: x2 :: x3 :: x4 :: x5 :: x6 :: y :: r) H N := h
theorem g_v8 {x0 x1 x2 x3 x4 x5 x6 x7 : Option V} {v : V} {r : L2.St} {H : Hp} {Q : VK} (h : Q v H) : tVar 8 (x0 :: x1 :: x2 :: x3 :: x4 :: x5 :: x6 :: x7 :: some v :: r) H Q := ⟨v, rfl, h⟩
theorem g_n8 {x0 x1 x2 x3 x4 x5 x6 x7 y : Option V} {v : V} {r : L2.St} {H : Hp} {N : L2.St → Hp → Prop} (h : N (x0 :: x1 :: x2 :: x3 :: x4 :: x5 :: x6 :: x7 :: some v :: r) H) : gName 8 v (x0 :: x1 :: x2 :: x3 :: x4 :: x5 :: x6 :: x7 :: y :: r) H N := h
theorem g_v9 {x0 x1 x2 x3 x4 x5 x6 x7 x8 : Option V} {v : V} {r : L2.St} {H : Hp} {Q : VK} (h : Q v H) : tVar 9 (x0 :: x1 :: x2 :: x3 :: x4 :: x5 :: x6 :: x7 :: x8 :: some v :: r) H Q := ⟨v, rfl, h⟩
theorem g_n9 {x0 x1 x2 x3 x4 x5 x6 x7 x8 y : Option V} {v : V} {r : L2.St} {H : Hp} {N : L2.St → Hp → Prop} (h : N (x0 :: x1 :: x2 :: x3 :: x4 :: x5 :: x6 :: x7 :: x8 :: some v :: r) H) : gName 9 v (x0 :: x1 :: x2 :: x3 :: x4 :: x5 :: x6 :: x7 :: x8 :: y :: r) H N := h
theorem g_v10 {x0 x1 x2 x3 x4 x5 x6 x7 x8 x9 : Option V} {v : V} {r : L2.St} {H : Hp} {Q : VK} (h : Q v H) : tVar 10 (x0 :: x1 :: x2 :: x3 :: x4 :: x5 :: x6 :: x7 :: x8 :: x9 :: some v :: r) H Q := ⟨v, rfl, h⟩
theorem g_n10 {x0 x1 x2 x3 x4 x5 x6 x7 x8 x9 y : Option V} {v : V} {r : L2.St} {H : Hp} {N : L2.St → Hp → Prop} (h : N (x0 :: x1 :: x2 :: x3 :: x4 :: x5 :: x6 :: x7 :: x8 :: x9 :: some v :: r) H) : gName 10 v (x0 :: x1 :: x2 :: x3 :: x4 :: x5 :: x6 :: x7 :: x8 :: x9 :: y :: r) H N := h
theorem g_v11 {x0 x1 x2 x3 x4 x5 x6 x7 x8 x9 x10 : Option V} {v : V} {r : L2.St} {H : Hp} {Q : VK} (h : Q v H) : tVar 11 (x0 :: x1 :: x2 :: x3 :: x4 :: x5 :: x6 :: x7 :: x8 :: x9 :: x10 :: some v :: r) H Q := ⟨v, rfl, h⟩
theorem g_n11 {x0 x1 x2 x3 x4 x5 x6 x7 x8 x9 x10 y : Option V} {v : V} {r : L2.St} {H : Hp} {N : L2.St → Hp → Prop} (h : N (x0 :: x1 :: x2 :: x3 :: x4 :: x5 :: x6 :: x7 :: x8 :: x9 :: x10 :: some v :: r) H) : gName 11 v (x0 :: x1 :: x2 :: x3 :: x4 :: x5 :: x6 :: x7 :: x8 :: x9 :: x10 :: y :: r) H N := h
theorem g_v12 {x0 x1 x2 x3 x4 x5 x6 x7 x8 x9 x10 x11 : Option V} {v : V} {r : L2.St} {H : Hp} {Q : VK} (h : Q v H) : tVar 12 (x0 :: x1 :: x2 :: x3 :: x4 :: x5 :: x6 :: x7 :: x8 :: x9 :: x10 :: x11 :: some v :: r) H Q := ⟨v, rfl, h⟩
theorem g_n12 {x0 x1 x2 x3 x4 x5 x6 x7 x8 x9 x10 x11 y : Option V} {v : V} {r : L2.St} {H : Hp} {N : L2.St → Hp → Prop} (h : N (x0 :: x1 :: x2 :: x3 :: x4 :: x5 :: x6 :: x7 :: x8 :: x9 :: x10 :: x11 :: some v :: r) H) : gName 12 v (x0 :: x1 :: x2 :: x3 :: x4 :: x5 :: x6 :: x7 :: x8 :: x9 :: x10 :: x11 :: y :: r) H N := h
theorem g_v13 {x0 x1 x2 x3 x4 x5 x6 x7 x8 x9 x10 x11 x12 : Option V} {v : V} {r : L2.St} {H : Hp} {Q : VK} (h : Q v H) : tVar 13 (x0 :: x1 :: x2 :: x3 :: x4 :: x5 :: x6 :: x7 :: x8 :: x9 :: x10 :: x11 :: x12 :: some v :: r) H Q := ⟨v, rfl, h⟩
theorem g_n13 {x0 x1 x2 x3 x4 x5 x6 x7 x8 x9 x10 x11 x12 y : Option V} {v : V} {r : L2.St} {H : Hp} {N : L2.St → Hp → Prop} (h : N (x0 :: x1 :: x2 :: x3 :: x4 :: x5 :: x6 :: x7 :: x8 :: x9 :: x10 :: x11 :: x12 :: some v :: r) H) : gName 13 v (x0 :: x1 :: x2 :: x3 :: x4 :: x5 :: x6 :: x7 :: x8 :: x9 :: x10 :: x11 :: x12 :: y :: r) H N := h
theorem g_v14 {x0 x1 x2 x3 x4 x5 x6 x7 x8 x9 x10 x11 x12 x13 : Option V} {v : V} {r : L2.St} {H : Hp} {Q : VK} (h : Q v H) : tVar 14 (x0 :: x1 :: x2 :: x3 :: x4 :: x5 :: x6 :: x7 :: x8 :: x9 :: x10 :: x11 :: x12 :: x13 :: some v :: r) H Q := ⟨v, rfl, h⟩
theorem g_n14 {x0 x1 x2 x3 x4 x5 x6 x7 x8 x9 x10 x11 x12 x13 y : Option V} {v : V} {r : L2.St} {H : Hp} {N : L2.St → Hp → Prop} (h : N (x0 :: x1 :: x2 :: x3 :: x4 :: x5 :: x6 :: x7 :: x8 :: x9 :: x10 :: x11 :: x12 :: x13 :: some v :: r) H) : gName 14 v (x0 :: x1 :: x2 :: x3 :: x4 :: x5 :: x6 :: x7 :: x8 :: x9 :: x10 :: x11 :: x12 :: x13 :: y :: r) H N := h
theorem g_v15 {x0 x1 x2 x3 x4 x5 x6 x7 x8 x9 x10 x11 x12 x13 x14 : Option V} {v : V} {r : L2.St} {H : Hp} {Q : VK} (h : Q v H) : tVar 15 (x0 :: x1 :: x2 :: x3 :: x4 :: x5 :: x6 :: x7 :: x8 :: x9 :: x10 :: x11 :: x12 :: x13 :: x14 :: some v :: r) H Q := ⟨v, rfl, h⟩
theorem g_n15 {x0 x1 x2 x3 x4 x5 x6 x7 x8 x9 x10 x11 x12 x13 x14 y : Option V} {v : V} {r : L2.St} {H : Hp} {N : L2.St → Hp → Prop} (h : N (x0 :: x1 :: x2 :: x3 :: x4 :: x5 :: x6 :: x7 :: x8 :: x9 :: x10 :: x11 :: x12 :: x13 :: x14 :: some v :: r) H) : gName 15 v (x0 :: x1 :: x2 :: x3 :: x4 :: x5 :: x6 :: x7 :: x8 :: x9 :: x10 :: x11 :: x12 :: x13 :: x14 :: y :: r) H N := h

theorem g_ixL0 {K : PySem.W.Frag} {p : Addr} {H : Hp} {Q : VK} {v : V} {r : List V} (h : SqL K H p (v :: r)) (q : Q v H) : rIxL K (.ref p) (.int 0) H Q := g_ixL h (atI_nat (j := 0) rfl) q
theorem g_setL0 {p : Addr} {H : Hp} {N : Hp → Prop} {y : V} {v : V} {r : List V} (h : H p = some (.lst (y :: r))) (q : N (upd H p (.lst (v :: r)))) : rSetL (.ref p) (.int 0) v H N :=
  ⟨p, _, 0, 0, rfl, rfl, h, by unfold ixN; rw [if_pos (by omega), if_pos (by simp only [List.length_cons]; omega)]; rfl, q⟩
theorem g_ixL1 {K : PySem.W.Frag} {p : Addr} {H : Hp} {Q : VK} {x0 : V} {v : V} {r : List V} (h : SqL K H p (x0 :: v :: r)) (q : Q v H) : rIxL K (.ref p) (.int 1) H Q := g_ixL h (atI_nat (j := 1) rfl) q
theorem g_setL1 {p : Addr} {H : Hp} {N : Hp → Prop} {x0 y : V} {v : V} {r : List V} (h : H p = some (.lst (x0 :: y :: r))) (q : N (upd H p (.lst (x0 :: v :: r)))) : rSetL (.ref p) (.int 1) v H N :=
  ⟨p, _, 1, 1, rfl, rfl, h, by unfold ixN; rw [if_pos (by omega), if_pos (by simp only [List.length_cons]; omega)]; rfl, q⟩
theorem g_ixL2 {K : PySem.W.Frag} {p : Addr} {H : Hp} {Q : VK} {x0 x1 : V} {v : V} {r : List V} (h : SqL K H p (x0 :: x1 :: v :: r)) (q : Q v H) : rIxL K (.ref p) (.int 2) H Q := g_ixL h (atI_nat (j := 2) rfl) q
theorem g_setL2 {p : Addr} {H : Hp} {N : Hp → Prop} {x0 x1 y : V} {v : V} {r : List V} (h : H p = some (.lst (x0 :: x1 :: y :: r))) (q : N (upd H p (.lst (x0 :: x1 :: v :: r)))) : rSetL (.ref p) (.int 2) v H N :=
  ⟨p, _, 2, 2, rfl, rfl, h, by unfold ixN; rw [if_pos (by omega), if_pos (by simp only [List.length_cons]; omega)]; rfl, q⟩
theorem g_ixL3 {K : PySem.W.Frag} {p : Addr} {H : Hp} {Q : VK} {x0 x1 x2 : V} {v : V} {r : List V} (h : SqL K H p (x0 :: x1 :: x2 :: v :: r)) (q : Q v H) : rIxL K (.ref p) (.int 3) H Q := g_ixL h (atI_nat (j := 3) rfl) q
theorem g_setL3 {p : Addr} {H : Hp} {N : Hp → Prop} {x0 x1 x2 y : V} {v : V} {r : List V} (h : H p = some (.lst (x0 :: x1 :: x2 :: y :: r))) (q : N (upd H p (.lst (x0 :: x1 :: x2 :: v :: r)))) : rSetL (.ref p) (.int 3) v H N :=
  ⟨p, _, 3, 3, rfl, rfl, h, by unfold ixN; rw [if_pos (by omega), if_pos (by simp only [List.length_cons]; omega)]; rfl, q⟩
theorem g_ixL4 {K : PySem.W.Frag} {p : Addr} {H : Hp} {Q : VK} {x0 x1 x2 x3 : V} {v : V} {r : List V} (h : SqL K H p (x0 :: x1 :: x2 :: x3 :: v :: r)) (q : Q v H) : rIxL K (.ref p) (.int 4) H Q := g_ixL h (atI_nat (j := 4) rfl) q
theorem g_setL4 {p : Addr} {H : Hp} {N : Hp → Prop} {x0 x1 x2 x3 y : V} {v : V} {r : List V} (h : H p = some (.lst (x0 :: x1 :: x2 :: x3 :: y :: r))) (q : N (upd H p (.lst (x0 :: x1 :: x2 :: x3 :: v :: r)))) : rSetL (.ref p) (.int 4) v H N :=
  ⟨p, _, 4, 4, rfl, rfl, h, by unfold ixN; rw [if_pos (by omega), if_pos (by simp only [List.length_cons]; omega)]; rfl, q⟩
theorem g_ixL5 {K : PySem.W.Frag} {p : Addr} {H : Hp} {Q : VK} {x0 x1 x2 x3 x4 : V} {v : V} {r : List V} (h : SqL K H p (x0 :: x1 :: x2 :: x3 :: x4 :: v :: r)) (q : Q v H) : rIxL K (.ref p) (.int 5) H Q := g_ixL h (atI_nat (j := 5) rfl) q
theorem g_setL5 {p : Addr} {H : Hp} {N : Hp → Prop} {x0 x1 x2 x3 x4 y : V} {v : V} {r : List V} (h : H p = some (.lst (x0 :: x1 :: x2 :: x3 :: x4 :: y :: r))) (q : N (upd H p (.lst (x0 :: x1 :: x2 :: x3 :: x4 :: v :: r)))) : rSetL (.ref p) (.int 5) v H N :=
  ⟨p, _, 5, 5, rfl, rfl, h, by unfold ixN; rw [if_pos (by omega), if_pos (by simp only [List.length_cons]; omega)]; rfl, q⟩
theorem g_ixL6 {K : PySem.W.Frag} {p : Addr} {H : Hp} {Q : VK} {x0 x1 x2 x3 x4 x5 : V} {v : V} {r : List V} (h : SqL K H p (x0 :: x1 :: x2 :: x3 :: x4 :: x5 :: v :: r)) (q : Q v H) : rIxL K (.ref p) (.int 6) H Q := g_ixL h (atI_nat (j := 6) rfl) q
theorem g_setL6 {p : Addr} {H : Hp} {N : Hp → Prop} {x0 x1 x2 x3 x4 x5 y : V} {v : V} {r : List V} (h : H p = some (.lst (x0 :: x1 :: x2 :: x3 :: x4 :: x5 :: y :: r))) (q : N (upd H p (.lst (x0 :: x1 :: x2 :: x3 :: x4 :: x5 :: v :: r)))) : rSetL (.ref p) (.int 6) v H N :=
  ⟨p, _, 6, 6, rfl, rfl, h, by unfold ixN; rw [if_pos (by omega), if_pos (by simp only [List.length_cons]; omega)]; rfl, q⟩
theorem g_ixL7 {K : PySem.W.Frag} {p : Addr} {H : Hp} {Q : VK} {x0 x1 x2 x3 x4 x5 x6 : V} {v : V} {r : List V} (h : SqL K H p (x0 :: x1 :: x2 :: x3 :: x4 :: x5 :: x6 :: v :: r)) (q : Q v H) : rIxL K (.ref p) (.int 7) H Q := g_ixL h (atI_nat (j := 7) rfl) q
theorem g_setL7 {p : Addr} {H : Hp} {N : Hp → Prop} {x0 x1 x2 x3 x4 x5 x6 y : V} {v : V} {r : List V} (h : H p = some (.lst (x0 :: x1 :: x2 :: x3 :: x4 :: x5 :: x6 :: y :: r))) (q : N (upd H p (.lst (x0 :: x1 :: x2 :: x3 :: x4 :: x5 :: x6 :: v :: r)))) : rSetL (.ref p) (.int 7) v H N :=
  ⟨p, _, 7, 7, rfl, rfl, h, by unfold ixN; rw [if_pos (by omega), if_pos (by simp only [List.length_cons]; omega)]; rfl, q⟩
theorem g_ixL8 {K : PySem.W.Frag} {p : Addr} {H : Hp} {Q : VK} {x0 x1 x2 x3 x4 x5 x6 x7 : V} {v : V} {r : List V} (h : SqL K H p (x0 :: x1 :: x2 :: x3 :: x4 :: x5 :: x6 :: x7 :: v :: r)) (q : Q v H) : rIxL K (.ref p) (.int 8) H Q := g_ixL h (atI_nat (j := 8) rfl) q
theorem g_setL8 {p : Addr} {H : Hp} {N : Hp → Prop} {x0 x1 x2 x3 x4 x5 x6 x7 y : V} {v : V} {r : List V} (h : H p = some (.lst (x0 :: x1 :: x2 :: x3 :: x4 :: x5 :: x6 :: x7 :: y :: r))) (q : N (upd H p (.lst (x0 :: x1 :: x2 :: x3 :: x4 :: x5 :: x6 :: x7 :: v :: r)))) : rSetL (.ref p) (.int 8) v H N :=
  ⟨p, _, 8, 8, rfl, rfl, h, by unfold ixN; rw [if_pos (by omega), if_pos (by simp only [List.length_cons]; omega)]; rfl, q⟩
theorem g_ixL9 {K : PySem.W.Frag} {p : Addr} {H : Hp} {Q : VK} {x0 x1 x2 x3 x4 x5 x6 x7 x8 : V} {v : V} {r : List V} (h : SqL K H p (x0 :: x1 :: x2 :: x3 :: x4 :: x5 :: x6 :: x7 :: x8 :: v :: r)) (q : Q v H) : rIxL K (.ref p) (.int 9) H Q := g_ixL h (atI_nat (j := 9) rfl) q
theorem g_setL9 {p : Addr} {H : Hp} {N : Hp → Prop} {x0 x1 x2 x3 x4 x5 x6 x7 x8 y : V} {v : V} {r : List V} (h : H p = some (.lst (x0 :: x1 :: x2 :: x3 :: x4 :: x5 :: x6 :: x7 :: x8 :: y :: r))) (q : N (upd H p (.lst (x0 :: x1 :: x2 :: x3 :: x4 :: x5 :: x6 :: x7 :: x8 :: v :: r)))) : rSetL (.ref p) (.int 9) v H N :=
  ⟨p, _, 9, 9, rfl, rfl, h, by unfold ixN; rw [if_pos (by omega), if_pos (by simp only [List.length_cons]; omega)]; rfl, q⟩

theorem Chg.put {a : Addr} {H H1 : Hp} {o : HO} (h : Chg a H H1) : Chg a H (L2.upd H1 a o) := h.trans Chg.upd
theorem Chg.lay {a p : Addr} {H H1 : Hp} {o : HO} (h : Chg a H H1) (hp : H1 p = none) : Chg a H (L2.upd H1 p o) := h.trans (Chg.new hp)
theorem Chg.putn {a D : Addr} {H H1 : Hp} {o : HO} (h : Chg a H H1) (hD : H D = none) : Chg a H (L2.upd H1 D o) := fun b u n e => by
  rw [upd_ne (ne_of_none e hD)]
  exact h b u n e
theorem Same.lay {p : Addr} {H H1 : Hp} {o : HO} (h : Same H H1) (hp : H1 p = none) : Same H (L2.upd H1 p o) := h.trans (same_new hp)

theorem g_cut {t u : TS} {D : Ends} {σ : L2.St} {H : Hp} (Mid : L2.St → Hp → Prop) (h1 : t { D with nx := Mid } σ H) (h2 : ∀ σ' H', Mid σ' H' → u D σ' H') : C8.tCut t u D σ H := ⟨Mid, h1, h2⟩
/-! ### heaps -/
theorem h_same {H : Hp} {a : Addr} {o u : HO} (e : o = u) : upd H a o a = some u := by rw [upd_same, e]
theorem h_ne {H : Hp} {a b : Addr} {o u : HO} (n : b ≠ a) (h : H b = some u) : upd H a o b = some u := by rw [upd_ne n]; exact h
theorem h_chg {H H' : Hp} {a b : Addr} {u : HO} (c : Chg a H H') (n : b ≠ a) (h : H b = some u) : H' b = some u := c b u n h
theorem h_sm {H H' : Hp} {b : Addr} {u : HO} (c : Same H H') (h : H b = some u) : H' b = some u := c b u h
/-! ### the rules that speak of the written part, with that part as a letter -/
section
variable {X : Cx} {K : PySem.W.Frag}
def qIx (K : PySem.W.Frag) : R2 := fun x y H Q => ∃ p xs i v, x = .ref p ∧ y = .int i ∧ (SqL K H p xs ∨ SqT K H p xs) ∧ atI xs i = some v ∧ Q v H
theorem k_ix (e : X.K = K) : IxR X (qIx K) := by
  subst e
  intro value slice pins s σ H x y v u Q I rx ry h hs
  obtain ⟨p, xs, i, z, e1, e2, h1 | h1, h2, h3⟩ := h
  · exact ix_list value slice pins s σ H x y v u Q I rx ry ⟨p, xs, i, z, e1, e2, h1, h2, h3⟩ hs
  · exact ix_tup value slice pins s σ H x y v u Q I rx ry ⟨p, xs, i, z, e1, e2, h1, h2, h3⟩ hs
theorem g_qix {H : Hp} {Q : VK} {p : Addr} {xs : List V} {i : Int} {v : V} (h : SqL K H p xs ∨ SqT K H p xs) (e : atI xs i = some v) (q : Q v H) : qIx K (.ref p) (.int i) H Q := ⟨p, xs, i, v, rfl, rfl, h, e, q⟩
theorem k_in (e : X.K = K) : OpR X (compareOp .In) (rIn K false) := by subst e; exact op_in_seq
theorem k_notin (e : X.K = K) : OpR X (compareOp .NotIn) (rIn K true) := by subst e; exact op_notIn_seq
theorem k_isi (e : X.K = K) : CallR X (.builtin "isinstance") (rIsi K) := by subst e; exact call_isi
theorem k_isiT (e : X.K = K) : CallR X (.builtin "isinstance") (rIsiT K) := by subst e; exact call_isiT
theorem k_len (e : X.K = K) : CallR X (.builtin "len") (qLen K) := by subst e; exact c_len
theorem k_list (e : X.K = K) : CallR X (.type "list") (qList K) := by subst e; exact c_list
theorem k_tuple (e : X.K = K) : CallR X (.type "tuple") (qTuple K) := by subst e; exact c_tuple
theorem k_sum (e : X.K = K) (c : X.calm = true) : CallR X (.builtin "sum") (rSum K) := by subst e; exact cr_sum c
theorem k_any (e : X.K = K) (c : X.calm = true) : CallR X (.builtin "any") (rAny K) := by subst e; exact cr_any c
theorem k_all (e : X.K = K) (c : X.calm = true) : CallR X (.builtin "all") (rAll K) := by subst e; exact cr_all c
theorem k_max (e : X.K = K) (c : X.calm = true) : CallR X (.builtin "max") (rMax K) := by subst e; exact cr_max c
theorem k_min (e : X.K = K) (c : X.calm = true) : CallR X (.builtin "min") (rMin K) := by subst e; exact cr_min c
theorem k_sl (e : X.K = K) : SlR X (rSlL K) := by subst e; exact sl_list
theorem k_index (e : X.K = K) : MtR X "list.index" (rIndex K) := by subst e; exact mt_index
theorem k_eqD (e : X.K = K) (hu : X.A.units + 64 < cLine) : OpR X (compareOp .Eq) (rEqD K) := by subst e; exact op_eqD hu
theorem k_neD (e : X.K = K) (hu : X.A.units + 64 < cLine) : OpR X (compareOp .NotEq) (rNeD K) := by subst e; exact op_neD hu
theorem k_pil {tg l : Expr} {tl : TE} (e : X.K = K) (hl : PE X l tl) : PI X tg l (iList K tl) := by subst e; exact pi_list hl
theorem k_pit {tg l : Expr} {tl : TE} (e : X.K = K) (hl : PE X l tl) : PI X tg l (iTup K tl) := by subst e; exact pi_tup hl
theorem k_pgt {es : List Expr} {k : Nat} {t : TGs} {n : Nat} {pos : Pos} (e : X.K = K) (hc : X.calm = true) (h : PGs X es t)
    (hn : (assignEach es X.env).length = n) (hst : (assignEach es X.env).findIdx? (·.1) = none) : PG X (.Tuple es k pos) (gTup K n t) := by subst e; exact pg_tup hc h hn hst
end
theorem g_qix0 {K : PySem.W.Frag} {p : Addr} {H : Hp} {Q : VK} {v : V} {r : List V} (h : SqL K H p (v :: r) ∨ SqT K H p (v :: r)) (q : Q v H) : qIx K (.ref p) (.int 0) H Q := g_qix h (atI_nat (j := 0) rfl) q
theorem g_qix1 {K : PySem.W.Frag} {p : Addr} {H : Hp} {Q : VK} {x0 : V} {v : V} {r : List V} (h : SqL K H p (x0 :: v :: r) ∨ SqT K H p (x0 :: v :: r)) (q : Q v H) : qIx K (.ref p) (.int 1) H Q := g_qix h (atI_nat (j := 1) rfl) q
theorem g_qix2 {K : PySem.W.Frag} {p : Addr} {H : Hp} {Q : VK} {x0 x1 : V} {v : V} {r : List V} (h : SqL K H p (x0 :: x1 :: v :: r) ∨ SqT K H p (x0 :: x1 :: v :: r)) (q : Q v H) : qIx K (.ref p) (.int 2) H Q := g_qix h (atI_nat (j := 2) rfl) q
theorem g_qix3 {K : PySem.W.Frag} {p : Addr} {H : Hp} {Q : VK} {x0 x1 x2 : V} {v : V} {r : List V} (h : SqL K H p (x0 :: x1 :: x2 :: v :: r) ∨ SqT K H p (x0 :: x1 :: x2 :: v :: r)) (q : Q v H) : qIx K (.ref p) (.int 3) H Q := g_qix h (atI_nat (j := 3) rfl) q
theorem g_qix4 {K : PySem.W.Frag} {p : Addr} {H : Hp} {Q : VK} {x0 x1 x2 x3 : V} {v : V} {r : List V} (h : SqL K H p (x0 :: x1 :: x2 :: x3 :: v :: r) ∨ SqT K H p (x0 :: x1 :: x2 :: x3 :: v :: r)) (q : Q v H) : qIx K (.ref p) (.int 4) H Q := g_qix h (atI_nat (j := 4) rfl) q
theorem g_qix5 {K : PySem.W.Frag} {p : Addr} {H : Hp} {Q : VK} {x0 x1 x2 x3 x4 : V} {v : V} {r : List V} (h : SqL K H p (x0 :: x1 :: x2 :: x3 :: x4 :: v :: r) ∨ SqT K H p (x0 :: x1 :: x2 :: x3 :: x4 :: v :: r)) (q : Q v H) : qIx K (.ref p) (.int 5) H Q := g_qix h (atI_nat (j := 5) rfl) q
theorem g_qix6 {K : PySem.W.Frag} {p : Addr} {H : Hp} {Q : VK} {x0 x1 x2 x3 x4 x5 : V} {v : V} {r : List V} (h : SqL K H p (x0 :: x1 :: x2 :: x3 :: x4 :: x5 :: v :: r) ∨ SqT K H p (x0 :: x1 :: x2 :: x3 :: x4 :: x5 :: v :: r)) (q : Q v H) : qIx K (.ref p) (.int 6) H Q := g_qix h (atI_nat (j := 6) rfl) q
theorem g_qix7 {K : PySem.W.Frag} {p : Addr} {H : Hp} {Q : VK} {x0 x1 x2 x3 x4 x5 x6 : V} {v : V} {r : List V} (h : SqL K H p (x0 :: x1 :: x2 :: x3 :: x4 :: x5 :: x6 :: v :: r) ∨ SqT K H p (x0 :: x1 :: x2 :: x3 :: x4 :: x5 :: x6 :: v :: r)) (q : Q v H) : qIx K (.ref p) (.int 7) H Q := g_qix h (atI_nat (j := 7) rfl) q
theorem g_qix8 {K : PySem.W.Frag} {p : Addr} {H : Hp} {Q : VK} {x0 x1 x2 x3 x4 x5 x6 x7 : V} {v : V} {r : List V} (h : SqL K H p (x0 :: x1 :: x2 :: x3 :: x4 :: x5 :: x6 :: x7 :: v :: r) ∨ SqT K H p (x0 :: x1 :: x2 :: x3 :: x4 :: x5 :: x6 :: x7 :: v :: r)) (q : Q v H) : qIx K (.ref p) (.int 8) H Q := g_qix h (atI_nat (j := 8) rfl) q
theorem g_qix9 {K : PySem.W.Frag} {p : Addr} {H : Hp} {Q : VK} {x0 x1 x2 x3 x4 x5 x6 x7 x8 : V} {v : V} {r : List V} (h : SqL K H p (x0 :: x1 :: x2 :: x3 :: x4 :: x5 :: x6 :: x7 :: x8 :: v :: r) ∨ SqT K H p (x0 :: x1 :: x2 :: x3 :: x4 :: x5 :: x6 :: x7 :: x8 :: v :: r)) (q : Q v H) : qIx K (.ref p) (.int 9) H Q := g_qix h (atI_nat (j := 9) rfl) q
theorem chg_same {H H' : Hp} {D : Addr} (c : Chg D H H') (hD : H D = none) : Same H H' := fun b o e => c b o (ne_of_none e hD) e
theorem seqT_same {K : PySem.W.Frag} {H H' : Hp} {a : Addr} {xs : List V} (s : Same H H') (h : SqT K H a xs) : SqT K H' a xs := by
  rcases h with (h | ⟨o, h⟩) | h
  · exact .inl (.inl (s _ _ h))
  · exact .inl (.inr ⟨o, s _ _ h⟩)
  · exact .inr h
theorem lt_same {K : PySem.W.Frag} {H H' : Hp} {a : Addr} {xs : List V} (s : Same H H') (h : SqL K H a xs ∨ SqT K H a xs) : SqL K H' a xs ∨ SqT K H' a xs := by
  rcases h with h | h
  · exact .inl (s.seq h)
  · exact .inr (seqT_same s h)
/-! ### a conditional expression as a test -/
def tIfT (t ta tb : TT) : TT := fun σ H Q => t σ H fun k H1 => if k = true then ta σ H1 Q else tb σ H1 Q
theorem pt_ifE {X : Cx} {c a b : Expr} {pos : Pos} {t ta tb : TT} (hc : PT X c t) (ha : PT X a ta) (hb : PT X b tb) : PT X (.IfExp c a b pos) (tIfT t ta tb) := by
  refine ⟨fun pins s σ H Q I hw => PyProof.Rows.isTrue_IfExp (thn (hc.run pins s σ H _ I hw) fun k s1 ⟨H1, I1, q1⟩ => ?_)⟩
  cases k with
  | true => exact ha.run pins s1 σ H1 Q I1 (by simpa using q1)
  | false => exact hb.run pins s1 σ H1 Q I1 (by simpa using q1)
theorem g_ifT {t ta tb : TT} {σ : L2.St} {H : Hp} {Q : Bool → Hp → Prop} (h : t σ H fun k H1 => if k = true then ta σ H1 Q else tb σ H1 Q) : tIfT t ta tb σ H Q := h
/-! ### list(range(..)) -/
section
variable {σ : L2.St} {H : Hp} {Q : VK}
def RgNew (Q : VK) (a b : Int) (H1 : Hp) : Prop := RgOk a b ∧ ∀ q, H1 q = none → Q (.ref q) (upd H1 q (.lst (rgV a b)))
theorem g_lstRg {te : L2.St → Hp → (Int → Int → Hp → Prop) → Prop} (h : te σ H (RgNew Q)) : tLstRg te σ H Q := h
def Rg1R (R : Int → Int → Hp → Prop) (x : V) (H : Hp) : Prop := ∃ n, x = .int n ∧ R 0 n H
theorem g_tRg1 {ta : TE} {R : Int → Int → Hp → Prop} (h : ta σ H (Rg1R R)) : tRg1 ta σ H R := h
theorem g_rg1R {R : Int → Int → Hp → Prop} {n : Int} (h : R 0 n H) : Rg1R R (.int n) H := ⟨n, rfl, h⟩
theorem g_rgNew {a b : Int} (c : 0 ≤ a ∧ b ≤ 16777216 ∧ a ≤ 16777216 ∧ 0 ≤ b) (h : ∀ q, H q = none → Q (.ref q) (upd H q (.lst (rgV a b)))) : RgNew Q a b H := ⟨.of_le c.1 c.2.1 c.2.2.1 c.2.2.2, h⟩
end
/-! ### lists of ints compared -/
def dInts (ns : List Int) : List PyData := ns.map PyData.int
theorem dp_ints {K : PySem.W.Frag} {H : Hp} : ∀ ns : List Int, DpAll K H (ns.map V.int) (dInts ns)
  | [] => .nil
  | n :: r => .cons (.int n) (dp_ints r)
theorem can_ints : ∀ ns : List Int, (PyData.list (dInts ns)).canLay0 = true ∧ PyData.depthAll (dInts ns) = 0
  | [] => ⟨rfl, rfl⟩
  | n :: r => by
    obtain ⟨h1, h2⟩ := can_ints r
    refine ⟨?_, ?_⟩
    · show (PyData.canLay0 (.int n) && PyData.canLayAll0 (dInts r)) = true
      rw [show PyData.canLayAll0 (dInts r) = true from h1]
      rfl
    · show max (PyData.depth (.int n)) (PyData.depthAll (dInts r)) = 0
      rw [h2]
      rfl
theorem shaped_ints (ns : List Int) : SeqAt.shaped (.list (dInts ns)) = true := by
  obtain ⟨h1, h2⟩ := can_ints ns
  unfold SeqAt.shaped
  rw [h1, Bool.true_and]
  exact decide_eq_true (by show PyData.depthAll (dInts ns) + 1 ≤ 64; rw [h2]; decide)
theorem eqv_ints : ∀ a b : List Int, PyData.eqvAll (dInts a) (dInts b) = decide (a = b)
  | [], [] => rfl
  | [], _ :: _ => rfl
  | _ :: _, [] => rfl
  | x :: a, y :: b => by
    show (x == y && PyData.eqvAll (dInts a) (dInts b)) = decide (x :: a = y :: b)
    rw [eqv_ints a b]
    by_cases e : x = y
    · subst e; simp
    · simp [e]
theorem g_eqDI {K : PySem.W.Frag} {H : Hp} {Q : VK} {p q : Addr} {a b : List Int} (h1 : SqL K H p (a.map V.int)) (h2 : SqL K H q (b.map V.int)) (h : Q (.bl (decide (a = b))) H) : rEqD K (.ref p) (.ref q) H Q :=
  ⟨.list (dInts a), .list (dInts b), .lst h1 (dp_ints a), .lst h2 (dp_ints b), shaped_ints a, shaped_ints b, by
    have e : PyData.eqv (.list (dInts a)) (.list (dInts b)) = decide (a = b) := eqv_ints a b
    rw [e]; exact h⟩
theorem g_neDI {K : PySem.W.Frag} {H : Hp} {Q : VK} {p q : Addr} {a b : List Int} (h1 : SqL K H p (a.map V.int)) (h2 : SqL K H q (b.map V.int)) (h : Q (.bl (!decide (a = b))) H) : rNeD K (.ref p) (.ref q) H Q :=
  ⟨.list (dInts a), .list (dInts b), .lst h1 (dp_ints a), .lst h2 (dp_ints b), shaped_ints a, shaped_ints b, by
    have e : PyData.eqv (.list (dInts a)) (.list (dInts b)) = decide (a = b) := eqv_ints a b
    rw [e]; exact h⟩
theorem sqL_new {K : PySem.W.Frag} {H : Hp} {p a : Addr} {o : HO} {xs : List V} (hp : H p = none) (h : SqL K H a xs) : SqL K (upd H p o) a xs := (same_new hp).seq h
theorem sqT_new {K : PySem.W.Frag} {H : Hp} {p a : Addr} {o : HO} {xs : List V} (hp : H p = none) (h : SqT K H a xs) : SqT K (upd H p o) a xs := seqT_same (same_new hp) h
theorem sqL_sm {K : PySem.W.Frag} {H H' : Hp} {a : Addr} {xs : List V} (s : L2.Same H H') (h : SqL K H a xs) : SqL K H' a xs := s.seq h
theorem tyL {K : PySem.W.Frag} {H : Hp} {a : Addr} {xs : List V} (h : SqL K H a xs) : TyX K H (.ref a) (.type "list") := by
  rcases h with (h | ⟨o, h⟩) | ⟨o, its, n, h, c, _⟩
  · exact .base (.lst h)
  · exact .base (.frz h)
  · exact .kList h c
theorem tyT {K : PySem.W.Frag} {H : Hp} {a : Addr} {xs : List V} (h : SqT K H a xs) : TyX K H (.ref a) (.type "tuple") := by
  rcases h with (h | ⟨o, h⟩) | ⟨o, its, n, h, c, _⟩
  · exact .base (.tup h)
  · exact .fTuple h
  · exact .kTuple h c
/-! ### isinstance -/
theorem kb_int_int : kitB "int" "int" = some true := by decide +kernel
theorem kb_int_str : kitB "int" "str" = some false := by decide +kernel
theorem kb_int_bool : kitB "int" "bool" = some false := by decide +kernel
theorem kb_int_list : kitB "int" "list" = some false := by decide +kernel
theorem kb_int_tuple : kitB "int" "tuple" = some false := by decide +kernel
theorem kb_str_int : kitB "str" "int" = some false := by decide +kernel
theorem kb_str_str : kitB "str" "str" = some true := by decide +kernel
theorem kb_str_bool : kitB "str" "bool" = some false := by decide +kernel
theorem kb_str_list : kitB "str" "list" = some false := by decide +kernel
theorem kb_str_tuple : kitB "str" "tuple" = some false := by decide +kernel
theorem kb_bool_int : kitB "bool" "int" = some true := by decide +kernel
theorem kb_bool_str : kitB "bool" "str" = some false := by decide +kernel
theorem kb_bool_bool : kitB "bool" "bool" = some true := by decide +kernel
theorem kb_bool_list : kitB "bool" "list" = some false := by decide +kernel
theorem kb_bool_tuple : kitB "bool" "tuple" = some false := by decide +kernel
theorem kb_NoneType_int : kitB "NoneType" "int" = some false := by decide +kernel
theorem kb_NoneType_str : kitB "NoneType" "str" = some false := by decide +kernel
theorem kb_NoneType_bool : kitB "NoneType" "bool" = some false := by decide +kernel
theorem kb_NoneType_list : kitB "NoneType" "list" = some false := by decide +kernel
theorem kb_NoneType_tuple : kitB "NoneType" "tuple" = some false := by decide +kernel
theorem kb_list_int : kitB "list" "int" = some false := by decide +kernel
theorem kb_list_str : kitB "list" "str" = some false := by decide +kernel
theorem kb_list_bool : kitB "list" "bool" = some false := by decide +kernel
theorem kb_list_list : kitB "list" "list" = some true := by decide +kernel
theorem kb_list_tuple : kitB "list" "tuple" = some false := by decide +kernel
theorem kb_tuple_int : kitB "tuple" "int" = some false := by decide +kernel
theorem kb_tuple_str : kitB "tuple" "str" = some false := by decide +kernel
theorem kb_tuple_bool : kitB "tuple" "bool" = some false := by decide +kernel
theorem kb_tuple_list : kitB "tuple" "list" = some false := by decide +kernel
theorem kb_tuple_tuple : kitB "tuple" "tuple" = some true := by decide +kernel
theorem g_isi {K : PySem.W.Frag} {H : Hp} {Q : VK} {x : V} {t T : String} {b : Bool} (ty : TyX K H x (.type t)) (hb : kitB t T = some b) (h : Q (.bl b) H) : rIsi K [x, .ty T] H Q :=
  ⟨x, .ty T, .type t, .type T, b, rfl, .ty T, ty, kit_ty hb, h⟩
theorem g_isiT2 {K : PySem.W.Frag} {H : Hp} {Q : VK} {x : V} {tp : Addr} {t T1 T2 : String} {b1 b2 : Bool} (e : H tp = some (.tup [.ty T1, .ty T2])) (ty : TyX K H x (.type t)) (h1 : kitB t T1 = some b1) (h2 : kitB t T2 = some b2)
    (h : Q (.bl (b1 || b2)) H) : rIsiT K [x, .ref tp] H Q := by
  refine ⟨x, tp, [.ty T1, .ty T2], .type t, [.type T1, .type T2], b1 || b2, rfl, e, .cons (.ty _) (.cons (.ty _) .nil), ty, ?_, h⟩
  refine kitAny_cons (kit_ty h1) (fun z => ?_) (fun z => by rw [z]; rfl)
  rw [z, Bool.false_or]
  exact kitAny_cons (kit_ty h2) (fun z => by rw [z]; exact kitAny_nil) (fun z => z)
/-! ### comprehensions and loops -/
section
variable {K : PySem.W.Frag} {g : TG} {tt : TT} {te : TE} {tb : TS} {vs : List Nat} {D0 : Ends} {σ σ0 : L2.St} {H : Hp} {Q : VK} {J : It} {a : Addr}
/-- one turn of a comprehension: the item x, the block's slots σ0, the list at D so far -/
def TurnD (D : Addr) (N : Hp → Prop) (y : V) (H4 : Hp) : Prop := ∃ acc, H4 D = some (.lst acc) ∧ acc.length < sizeLine ∧ N (upd H4 D (.lst (acc ++ [y])))
def TurnC (te : TE) (σ2 : L2.St) (D : Addr) (N : Hp → Prop) (b : Bool) (H3 : Hp) : Prop := if b = true then te σ2 H3 (TurnD D N) else N H3
def TurnB (tt : TT) (te : TE) (vs : List Nat) (σ0 : L2.St) (D : Addr) (N : Hp → Prop) (σ2 : L2.St) (H2 : Hp) : Prop := wipe σ2 vs = σ0 ∧ tt σ2 H2 (TurnC te σ2 D N)
def Turn1 (g : TG) (tt : TT) (te : TE) (vs : List Nat) (σ0 : L2.St) (D : Addr) (x : V) (H : Hp) (N : Hp → Prop) : Prop := g x σ0 H (TurnB tt te vs σ0 D N)
theorem g_turn1 {D : Addr} {x : V} {N : Hp → Prop} (h : g x σ0 H (TurnB tt te vs σ0 D N)) : Turn1 g tt te vs σ0 D x H N := h
theorem g_turnB {D : Addr} {N : Hp → Prop} (e : wipe σ vs = σ0) (h : tt σ H (TurnC te σ D N)) : TurnB tt te vs σ0 D N σ H := ⟨e, h⟩
theorem g_turnCt {D : Addr} {N : Hp → Prop} (h : te σ H (TurnD D N)) : TurnC te σ D N true H := by unfold TurnC; rw [if_pos rfl]; exact h
theorem g_turnC {D : Addr} {N : Hp → Prop} {p : Prop} [Decidable p] (h1 : p → te σ H (TurnD D N)) (h2 : ¬ p → N H) : TurnC te σ D N (decide p) H := by
  unfold TurnC
  exact g_iteD h1 h2
theorem g_turnCb {D : Addr} {N : Hp → Prop} {b : Bool} (h1 : b = true → te σ H (TurnD D N)) (h2 : b = false → N H) : TurnC te σ D N b H := by
  unfold TurnC
  exact g_iteBB h1 h2
theorem g_turnD {D : Addr} {N : Hp → Prop} {y : V} {acc : List V} (h : H D = some (.lst acc)) (l : acc.length ≤ 1000) (q : N (upd H D (.lst (acc ++ [y])))) : TurnD D N y H := ⟨acc, h, small1000 l, q⟩
def LcG (J : It) (g : TG) (tt : TT) (te : TE) (vs : List Nat) (σ : L2.St) (Q : VK) (H1 : Hp) : Prop := ∀ D, H1 D = none → ∃ W : Nat → Nat → Hp → Prop,
  (∃ m, W 0 m (upd H1 D (.lst []))) ∧ ∀ i m H, W i m H → (J.stop i H ∧ Q (.ref D) H) ∨ (J.go i H ∧ ∃ Nx : Hp → Prop,
    (∀ H', Nx H' → ∃ m', m' < m ∧ W (i + 1) m' H') ∧ ∀ x H', J.yld i H x H' → Turn1 g tt te vs (wipe σ vs) D x H' Nx)
theorem g_lc {wi : TI} (h : wi σ H fun J H1 => LcG J g tt te vs σ Q H1) : tLc wi g tt te vs σ H Q := h
def ForG (J : It) (g : TG) (tb : TS) (D : Ends) (σ : L2.St) (H1 : Hp) : Prop := ∃ W : Nat → Nat → L2.St → Hp → Prop, (∃ m, W 0 m σ H1) ∧ ∀ i m σ H, W i m σ H →
  (J.stop i H ∧ D.nx σ H) ∨ (J.go i H ∧ ∃ N : L2.St → Hp → Prop, (∀ σ' H', N σ' H' → ∃ m', m' < m ∧ W (i + 1) m' σ' H') ∧
    ∀ x H', J.yld i H x H' → g x σ H' fun σ2 H2 => tb { D with nx := N, ct := N, bk := D.nx } σ2 H2)
theorem g_for {wi : TI} (h : wi σ H fun J H1 => ForG J g tb D0 σ H1) : tFor wi g tb D0 σ H := h
variable {R : It → Hp → Prop}
def Rng1R (ws : List V) (R : It → Hp → Prop) (H : Hp) : Prop := ∃ j : Int, ws = [.int j] ∧ -(2 ^ 62) ≤ j ∧ j < 2 ^ 62 ∧ R (Itr 0 j.toNat) H
theorem g_iRng1 {ta : TA} (h : ta σ H fun ws H1 => Rng1R ws R H1) : iRng1 ta σ H R := h
theorem g_rng1 {v : Int} (c : -(2 ^ 62) ≤ v ∧ v < 2 ^ 62) (h : R (Itr 0 v.toNat) H) : Rng1R [.int v] R H := ⟨v, rfl, c.1, c.2, h⟩
def Rng2R (ws : List V) (R : It → Hp → Prop) (H : Hp) : Prop := ∃ i j : Int, ws = [.int i, .int j] ∧ (-(2 ^ 62) ≤ i ∧ i < 2 ^ 62 ∧ -(2 ^ 62) ≤ j ∧ j < 2 ^ 62) ∧ R (Itr i (j - i).toNat) H
theorem g_iRng2 {ta : TA} (h : ta σ H fun ws H1 => Rng2R ws R H1) : iRng2 ta σ H R := h
theorem g_rng2 {i j : Int} (c : -(2 ^ 62) ≤ i ∧ i < 2 ^ 62 ∧ -(2 ^ 62) ≤ j ∧ j < 2 ^ 62) (h : R (Itr i (j - i).toNat) H) : Rng2R [.int i, .int j] R H := ⟨i, j, rfl, c, h⟩
def LstR (K : PySem.W.Frag) (x : V) (R : It → Hp → Prop) (H : Hp) : Prop := ∃ a, x = .ref a ∧ (∃ xs, SqL K H a xs) ∧ R (Itl K a) H
theorem g_iList {tl : TE} (h : tl σ H fun x H1 => LstR K x R H1) : iList K tl σ H R := h
theorem g_lstR {xs : List V} (c : SqL K H a xs) (h : R (Itl K a) H) : LstR K (.ref a) R H := ⟨a, rfl, ⟨xs, c⟩, h⟩
def TupR (K : PySem.W.Frag) (x : V) (R : It → Hp → Prop) (H : Hp) : Prop := ∃ a, x = .ref a ∧ (∃ xs, SqT K H a xs) ∧ R (Itt K a) H
theorem g_iTup {tl : TE} (h : tl σ H fun x H1 => TupR K x R H1) : iTup K tl σ H R := h
theorem g_tupR {xs : List V} (c : SqT K H a xs) (h : R (Itt K a) H) : TupR K (.ref a) R H := ⟨a, rfl, ⟨xs, c⟩, h⟩
def WhB (tb : TS) (D : Ends) (W : Nat → L2.St → Hp → Prop) (m : Nat) (σ : L2.St) (b : Bool) (H1 : Hp) : Prop :=
  if b = true then ∃ N : L2.St → Hp → Prop, (∀ σ' H', N σ' H' → ∃ m', m' < m ∧ W m' σ' H') ∧ tb { D with nx := N, ct := N, bk := D.nx } σ H1 else D.nx σ H1
theorem g_while {c : TT} (W : Nat → L2.St → Hp → Prop) (h0 : ∃ m, W m σ H) (hs : ∀ m σ H, W m σ H → c σ H (WhB tb D0 W m σ)) : tWhile c tb D0 σ H := ⟨W, h0, hs⟩
theorem g_whB {W : Nat → L2.St → Hp → Prop} {m : Nat} {p : Prop} [Decidable p] (h1 : p → tb { D0 with nx := fun σ' H' => ∃ m', m' < m ∧ W m' σ' H', ct := fun σ' H' => ∃ m', m' < m ∧ W m' σ' H', bk := D0.nx } σ H)
    (h2 : ¬ p → D0.nx σ H) : WhB tb D0 W m σ (decide p) H := by
  unfold WhB
  exact g_iteD (fun h => ⟨_, fun _ _ z => z, h1 h⟩) h2
/-- a comprehension over a range: Pv by the turns done and the heap, the new list at D -/
theorem lcR {lo : Int} {n : Nat} (hw : wipe σ vs = σ0) (h : ∀ D, H D = none → ∃ Pv : Nat → Hp → Prop, Pv 0 (upd H D (.lst [])) ∧
    (∀ (i : Nat) (H' : Hp), i < n → Pv i H' → Turn1 g tt te vs σ0 D (.int (lo + i)) H' (Pv (i + 1))) ∧ ∀ H', Pv n H' → Q (.ref D) H') : LcG (Itr lo n) g tt te vs σ Q H := by
  subst hw
  intro D hD
  obtain ⟨Pv, h0, hs, hd⟩ := h D hD
  refine ⟨fun i m H => m = n - i ∧ i ≤ n ∧ Pv i H, ⟨n, by simp, Nat.zero_le _, h0⟩, ?_⟩
  rintro i m H ⟨rfl, hi, p⟩
  rcases Nat.lt_or_ge i n with hlt | hge
  · exact .inr ⟨hlt, Pv (i + 1), fun H' p' => ⟨n - (i + 1), by omega, rfl, hlt, p'⟩, fun x H' ⟨e1, e2⟩ => by subst e1 e2; exact hs i _ hlt p⟩
  · have e : i = n := by omega
    subst e
    exact .inl ⟨Nat.le_refl _, hd H p⟩
theorem lcL {xs : List V} (hw : wipe σ vs = σ0) (h : ∀ D, H D = none → ∃ Pv : Nat → Hp → Prop, Pv 0 (upd H D (.lst [])) ∧ (∀ i H', i ≤ xs.length → Pv i H' → SqL K H' a xs) ∧
    (∀ (i : Nat) (x : V) (H' : Hp), xs[i]? = some x → Pv i H' → Turn1 g tt te vs σ0 D x H' (Pv (i + 1))) ∧ ∀ H', Pv xs.length H' → Q (.ref D) H') : LcG (Itl K a) g tt te vs σ Q H := by
  subst hw
  intro D hD
  obtain ⟨Pv, h0, hl, hs, hd⟩ := h D hD
  refine ⟨fun i m H => m = xs.length - i ∧ i ≤ xs.length ∧ Pv i H, ⟨xs.length, by simp, Nat.zero_le _, h0⟩, ?_⟩
  rintro i m H ⟨rfl, hi, p⟩
  have q := hl i H hi p
  rcases Nat.lt_or_ge i xs.length with hlt | hge
  · exact .inr ⟨⟨xs, xs[i], q, by simp [hlt]⟩, Pv (i + 1), fun H' p' => ⟨xs.length - (i + 1), by omega, rfl, hlt, p'⟩, fun x H' ⟨e1, e2⟩ => by subst e1; exact hs i x _ (e2 xs q) p⟩
  · have e : i = xs.length := by omega
    subst e
    exact .inl ⟨⟨xs, q, Nat.le_refl _⟩, hd H p⟩
/-- over a list of ints, nothing changed within a turn: p tells which items are kept, f what stands for them -/
theorem lcP {S : List Int} {f : Int → V} {p : Int → Bool} (hw : wipe σ vs = σ0) (hS : SqL K H a (S.map V.int)) (hl : S.length ≤ 1000)
    (turn : ∀ (D : Addr) (acc : List V) (x : Int) (N : Hp → Prop), H D = none → x ∈ S → (p x = true → TurnD D N (f x) (upd H D (.lst acc))) → (p x = false → N (upd H D (.lst acc))) →
      Turn1 g tt te vs σ0 D (.int x) (upd H D (.lst acc)) N)
    (q : ∀ D, H D = none → Q (.ref D) (upd H D (.lst ((S.filter p).map f)))) : LcG (Itl K a) g tt te vs σ Q H := by
  refine lcL (xs := S.map V.int) hw fun D hD => ⟨fun i H' => H' = upd H D (.lst (((S.take i).filter p).map f)), rfl, ?_, ?_, ?_⟩
  · rintro i H' _ rfl
    exact (same_new hD).seq hS
  · rintro i x H' hx rfl
    rw [List.getElem?_map, Option.map_eq_some_iff] at hx
    obtain ⟨n, hn, rfl⟩ := hx
    have hlt : i < S.length := (List.getElem?_eq_some_iff.mp hn).1
    refine turn D _ n _ hD (List.mem_of_getElem? hn) (fun hp => g_turnD upd_same ?_ ?_) (fun hp => ?_)
    · rw [List.length_map]
      have h1 := List.length_filter_le p (S.take i)
      rw [List.length_take] at h1
      omega
    · dsimp only
      rw [upd_upd, List.take_add_one, hn, List.filter_append, List.map_append]
      simp [hp]
    · dsimp only
      rw [List.take_add_one, hn, List.filter_append]
      simp [hp]
  · rintro H' rfl
    rw [List.length_map, List.take_length]
    exact q D hD
/-- the same over range(n) -/
theorem lcPR {n : Nat} {f : Nat → V} {p : Nat → Bool} (hw : wipe σ vs = σ0) (hl : n ≤ 1000)
    (turn : ∀ (D : Addr) (acc : List V) (x : Nat) (N : Hp → Prop), H D = none → x < n → (p x = true → TurnD D N (f x) (upd H D (.lst acc))) → (p x = false → N (upd H D (.lst acc))) →
      Turn1 g tt te vs σ0 D (.int (0 + (x : Int))) (upd H D (.lst acc)) N)
    (q : ∀ D, H D = none → Q (.ref D) (upd H D (.lst (((List.range n).filter p).map f)))) : LcG (Itr 0 n) g tt te vs σ Q H := by
  refine lcR hw fun D hD => ⟨fun i H' => H' = upd H D (.lst (((List.range i).filter p).map f)), rfl, ?_, ?_⟩
  · rintro i H' hi rfl
    refine turn D _ i _ hD hi (fun hp => g_turnD upd_same ?_ ?_) (fun hp => ?_)
    · rw [List.length_map]
      have h1 := List.length_filter_le p (List.range i)
      rw [List.length_range] at h1
      omega
    · dsimp only
      rw [upd_upd, List.range_succ, List.filter_append, List.map_append]
      simp [hp]
    · dsimp only
      rw [List.range_succ, List.filter_append]
      simp [hp]
  · rintro H' rfl
    exact q D hD
theorem forL {xs : List V} (h : ∃ Pv : Nat → L2.St → Hp → Prop, Pv 0 σ H ∧ (∀ i σ' H', i ≤ xs.length → Pv i σ' H' → SqL K H' a xs) ∧
    (∀ i x σ' H', xs[i]? = some x → Pv i σ' H' → g x σ' H' fun σ2 H2 => tb { D0 with nx := Pv (i + 1), ct := Pv (i + 1), bk := D0.nx } σ2 H2) ∧ ∀ σ' H', Pv xs.length σ' H' → D0.nx σ' H') : ForG (Itl K a) g tb D0 σ H := by
  obtain ⟨Pv, h0, hl, hs, hd⟩ := h
  exact for_list Pv h0 hl hs hd
theorem forR {lo : Int} {n : Nat} (h : ∃ Pv : Nat → L2.St → Hp → Prop, Pv 0 σ H ∧
    (∀ i σ' H', i < n → Pv i σ' H' → g (.int (lo + i)) σ' H' fun σ2 H2 => tb { D0 with nx := Pv (i + 1), ct := Pv (i + 1), bk := D0.nx } σ2 H2) ∧ ∀ σ' H', Pv n σ' H' → D0.nx σ' H') : ForG (Itr lo n) g tb D0 σ H := by
  obtain ⟨Pv, h0, hs, hd⟩ := h
  exact for_range Pv h0 hs hd
theorem forT {xs : List V} (h : ∃ Pv : Nat → L2.St → Hp → Prop, Pv 0 σ H ∧ (∀ i σ' H', i ≤ xs.length → Pv i σ' H' → SqT K H' a xs) ∧
    (∀ i x σ' H', xs[i]? = some x → Pv i σ' H' → g x σ' H' fun σ2 H2 => tb { D0 with nx := Pv (i + 1), ct := Pv (i + 1), bk := D0.nx } σ2 H2) ∧ ∀ σ' H', Pv xs.length σ' H' → D0.nx σ' H') : ForG (Itt K a) g tb D0 σ H := by
  obtain ⟨Pv, h0, hl, hs, hd⟩ := h
  exact for_tup Pv h0 hl hs hd
theorem g_app {p : Addr} {xs : List V} {y : V} {H : Hp} {Q : VK} (h : H p = some (.lst xs)) (hl : xs.length < 1000) (q : Q .non (upd H p (.lst (xs ++ [y])))) : rAppend (.ref p) [y] H Q :=
  ⟨p, xs, y, rfl, rfl, h, small1000 (Nat.le_of_lt hl), q⟩
/-- a turn that changes nothing: the item is kept if p says so, and f of it stands in the new list -/
def Pure1 (g : TG) (tt : TT) (te : TE) (vs : List Nat) (σ0 : L2.St) (p : V → Bool) (f : V → V) (x : V) (H : Hp) : Prop :=
  g x σ0 H fun σ2 H2 => wipe σ2 vs = σ0 ∧ tt σ2 H2 fun b H3 => if b = true then te σ2 H3 fun y H4 => p x = true ∧ y = f x ∧ H4 = H else p x = false ∧ H3 = H
end
theorem pure_step {H : Hp} {D : Addr} {xs : List V} {i : Nat} {x y : V} {p : V → Bool} {f : V → V} (hx : xs[i]? = some x) (hp : p x = true) (hy : y = f x) (hl : xs.length ≤ 1000) :
    ∃ acc, (upd H D (.lst (((xs.take i).filter p).map f))) D = some (.lst acc) ∧ acc.length < sizeLine ∧
      upd (upd H D (.lst (((xs.take i).filter p).map f))) D (.lst (acc ++ [y])) = upd H D (.lst (((xs.take (i + 1)).filter p).map f)) := by
  refine ⟨_, upd_same, small1000 ?_, ?_⟩
  · rw [List.length_map]
    have h1 := List.length_filter_le p (xs.take i)
    have h2 : (xs.take i).length ≤ xs.length := by rw [List.length_take]; exact Nat.min_le_right _ _
    omega
  · rw [upd_upd, List.take_add_one, hx, List.filter_append, List.map_append, hy]
    simp [hp]
theorem pure_skip {H : Hp} {D : Addr} {xs : List V} {i : Nat} {x : V} {p : V → Bool} {f : V → V} (hx : xs[i]? = some x) (hp : p x = false) :
    upd H D (.lst (((xs.take i).filter p).map f)) = upd H D (.lst (((xs.take (i + 1)).filter p).map f)) := by
  rw [List.take_add_one, hx, List.filter_append]
  simp [hp]
theorem cxK {CX : CXT} {P : Program} {w : World} {K : PySem.W.Frag} {mg : Str → Option Value} {base : Heap} {N : List Str} {q : Str} {sc : Scope} {f : Addr} {cdv : Value}
    {A : PySem.Around} {outer : List PySem.Env} {s : Shared} {H : Hp} {E : XK} : (cxOf CX P w K mg base N q sc f cdv A outer s H E).K = K := rfl
end Q

set_option Elab.async false
set_option linter.all false
set_option maxRecDepth 100000
namespace PySem
/-! enumerate(t) over a tuple -/
set_option maxHeartbeats 1000000 in
theorem qMeetsEnum {v : Value} {o : Obj} {HH : Heap → Prop} (B : Begins v o HH) :
    Meets (Builtin.«enumerate.__new__» ⟨[.type "enumerate", v], []⟩) (fun _ R s => HH s.heap ∧ R (.ok (.ret (.ref (s.heap.push o).objs.size)))
      { s with heap := (s.heap.push o).push { cls := .type "enumerate", data := .fields #[.none, .bool false, .ref s.heap.objs.size, rawInt 0, .none, .none] } }) :=
  .of_wp fun prog w A R s hyp => by
    obtain ⟨hp, gg, dd, tk, os⟩ := s
    obtain ⟨hstart, hyp⟩ := hyp
    have hsub := sub_enumerate
    have goIter : ∀ {A' : Around} {E : Value → Shared → Prop} {Q : Value → Shared → Prop}, Q (.ref hp.objs.size) ⟨hp.push o, gg, dd, tk, os⟩ → wpAny (model prog w) A' (pyIter v) Q E ⟨hp, gg, dd, tk, os⟩ :=
      fun z => B.iter prog w _ _ ⟨hp, gg, dd, tk, os⟩ _ hstart z
    wp_walk using goIter
    refine wpAny_stack_any fun st => wpAny_pure ?_
    split
    · rename_i c _ _ _ _ _
      cases (c == Value.type "enumerate") <;> (wp_walk using goIter; exact ⟨_, rfl, hyp⟩)
    · wp_walk using goIter
      exact ⟨_, rfl, hyp⟩
theorem qEnumBegin {prog : Program} {w : World} {A : Around} {E : Value → Shared → Prop} {s : Shared} {v : Value} {o : Obj} {HH : Heap → Prop} {Q : Value → Shared → Prop} (B : Begins v o HH) (hb : HH s.heap)
    (done : ∀ h', IsEnum h' (s.heap.objs.size + 1) s.heap.objs.size 0 .none → h'.get? s.heap.objs.size = some o →
      (∀ b o, s.heap.get? b = some o → h'.get? b = some o) → Q (.ref (s.heap.objs.size + 1)) { s with heap := h' }) :
    wpAny (model prog w) A (call (.type "enumerate") [v]) Q E s := by
  refine callType_new F.called_enumerate (by decide) (F.typeCall_enumerate_1 _) (F.newCall_enumerate_1 _) (fun obj => F.args_object_init_2 obj _) F.entry_enumerate_new (qMeetsEnum B) ⟨hb, ?_⟩
  have size1 : (s.heap.push o).objs.size = s.heap.objs.size + 1 := Heap.size_push ..
  show _ ∧ _
  rw [size1]
  have isE : IsEnum ((s.heap.push o).push { cls := .type "enumerate", data := .fields #[.none, .bool false, .ref s.heap.objs.size, rawInt 0, .none, .none] }) (s.heap.objs.size + 1) s.heap.objs.size 0 .none := by
    have z := Heap.get?_push_size (s.heap.push o) (o := { cls := .type "enumerate", data := .fields #[.none, .bool false, .ref s.heap.objs.size, rawInt 0, .none, .none] }) rfl
    rw [size1] at z
    exact z
  exact ⟨⟨_, isE, rfl⟩, done _ isE (Heap.get?_push_of_some _ (Heap.get?_push_size _ B.free)) fun b o x => Heap.get?_push_of_some _ (Heap.get?_push_of_some _ x)⟩
theorem qEnumEnd {prog : Program} {w : World} {A : Around} {E : Value → Shared → Prop} {s : Shared} {e it t : Addr} {i : Nat} {k : Int} {items : Array Value} {old : Value} {Q : Option Value → Shared → Prop} (hh : A.handled = none)
    (isE : IsEnum s.heap e it k old) (iti : s.heap.IsTupleIter it t i) (ht : s.heap.IsTuple t items) (no : items[i]? = none)
    (done : ∀ h', Heap.ExtBut it s.heap h' → Q none { s with heap := h' }) : wpAny (model prog w) A (pyNext (.ref e)) Q E s := by
  have tyE : s.TypeIs (.ref e) "enumerate" := ⟨_, isE, rfl⟩
  unfold pyNext
  refine wpAny_bind (wpAny_attempt (wpAny_callSpecial?_slot (name := Str.ofString "__next__") tyE F.slot_enumerate_next ?_))
  refine wpAny_call_entry F.slot_enumerate_next tyE F.entry_enumerate_next ?_ (F.args_enumerate_next_1 _)
  show wpAny _ _ (field (.ref e) 2 >>= _) _ _ s
  refine wpAny_bind (wpAny_field isE rfl (x := .ref it) rfl (wpAny_bind ?_))
  refine wpAny_nextOf_tuple_end (show A.in1.handled = none from hh) iti ht no fun h' x eb ⟨ox, hox, cx⟩ => ?_
  refine wpAny_bind (wpAny_isInstance (T := "StopIteration") (b := true) ⟨ox, hox, cx⟩ isSubtype_stop ?_)
  exact wpAny_pure (done _ eb)
end PySem
namespace Q
open PySem PySem.Spec L2 RZ
/-- the turns of enumerate over a tuple: a new pair each -/
def Iet (K : PySem.W.Frag) (a : Addr) : It :=
  ⟨fun i H => ∃ (xs : List V) (x : V), SqT K H a xs ∧ xs[i]? = some x,
    fun i H v H' => ∃ T x, v = .ref T ∧ H T = none ∧ H' = upd H T (.tup [.int (i : Nat), x]) ∧ ∀ xs, SqT K H a xs → xs[i]? = some x,
    fun i H => ∃ xs : List V, SqT K H a xs ∧ xs.length ≤ i⟩
theorem turnT {P : Program} {w : World} {K : PySem.W.Frag} {elts : List Expr} {kk : Nat} {tpos : Pos} (a e it : Addr) :
    L2.Turn P w K (.Tuple elts kk tpos) (Iet K a) [e, it] e (fun i h => (∃ old, IsEnum h e it ((i : Nat) : Int) old) ∧ h.IsTupleIter it a i ∧ e ≠ it) where
  mem := List.mem_cons_self ..
  obj := fun i h st b hb => by
    obtain ⟨⟨old, isE⟩, ⟨oi, hoi, _, hdi⟩, _⟩ := st
    rcases List.mem_cons.mp hb with z | z
    · exact ⟨_, by rw [z]; exact isE, fun v q => by cases q⟩
    · have z2 : b = it := by simpa using z
      exact ⟨oi, by rw [z2]; exact hoi, fun v q => by rw [hdi] at q; cases q⟩
  keep := fun i h h' ⟨⟨old, isE⟩, iti, ne⟩ k => ⟨⟨old, k e (by simp) _ isE⟩, iti.at fun o q => k it (by simp) o q, ne⟩
  item := by
    intro X hP hw hK hc i pins s σ H E I hf st hg
    subst hP hw hK
    obtain ⟨⟨old, isE⟩, iti, ne⟩ := st
    obtain ⟨xs, x, hq, hx⟩ := hg
    obtain ⟨its, rv, p, hz⟩ := I.tuple hq
    obtain ⟨u, hu, ru⟩ := rv.get hx
    have hT : s.heap.IsTuple a its.toArray := p
    have sz_e : e < s.heap.objs.size := Heap.lt_size isE
    have sz_i : it < s.heap.objs.size := by obtain ⟨_, q, _⟩ := iti; exact Heap.lt_size q
    have a_it : a ≠ it := fun z => by
      obtain ⟨o1, e1, c1, _⟩ := iti
      obtain ⟨o2, e2, c2, _⟩ := hT
      rw [z, e1] at e2
      cases e2
      rw [c1] at c2
      injection c2 with c3
      exact absurd c3 (by decide)
    have a_e : e ≠ a := fun z => by
      obtain ⟨o2, e2, c2, _⟩ := hT
      rw [← z, isE] at e2
      cases e2
      injection c2 with c3
      exact absurd c3 (by decide)
    have D := Draws.tuple (prog := X.prog) (w := X.w) (A := X.A.in1) (show X.A.in1.handled = none from I.ok.hd hc) it a a_it its.toArray
    have ilt : i < its.toArray.size := by
      have z := List.getElem?_eq_some_iff.mp hu
      rw [List.size_toArray]
      exact z.1
    refine wpAny_pyNext_enum_itemD D isE ⟨iti, hT⟩ ilt ne (by simp [a_e, ne]) fun y h' tk hy ho st' hTup hsz hk => ?_
    have ey : y = u := by
      have z : its.toArray[i]? = some u := by simpa using hu
      rw [z] at hy
      exact (Option.some.inj hy).symm
    subst ey
    refine ⟨_, rfl, wpAny_letOwnedTupleGo_enum (s := { s with heap := h', toks := tk + 1 }) ho fun h'' he' sb => ?_⟩
    have hT2 : h''.get? s.heap.objs.size = some { cls := .type "tuple", data := .seq #[.int i tk, y] } := (sb.2 _ (Nat.ne_of_gt sz_e)).trans hTup
    have new : ObjOk X.prog X.w (upd H s.heap.objs.size (.tup [.int (i : Nat), x])) h'' s.heap.objs.size (.tup [.int (i : Nat), x]) :=
      ⟨by show 2 ≤ sizeLine; decide, [.int i tk, y], .cons ⟨_, rfl⟩ (.cons ru .nil), ⟨_, hT2, rfl, _, rfl⟩⟩
    have I1 : Inv X pins σ (upd H s.heap.objs.size (.tup [.int (i : Nat), x])) { s with heap := h'', toks := tk + 1 } :=
      I.turnedNew (ch := [e, it]) (fun b ob hb q => (sb.2 b (fun z => hb (by simp [z]))).trans (hk b ob (fun z => hb (by simp [z])) (fun z => hb (by simp [z])) q)) hf (Nat.le_refl _) new
    refine ⟨.ref s.heap.objs.size, _, I1, rfl, ⟨_, x, rfl, I.hok.fresh (Nat.le_refl _), rfl, fun ys hy => by rw [I.tuple_inj hy hq]; exact hx⟩,
      ⟨⟨y, ?_⟩, st'.1.at fun o q => (sb.2 it (Ne.symm ne)).trans q, ne⟩, fun b hb => ?_⟩
    · rw [show ((i + 1 : Nat) : Int) = (i : Int) + 1 from by omega]
      exact he'
    · have lt : b < s.heap.objs.size := by
        rcases List.mem_cons.mp hb with z | z
        · rw [z]; exact sz_e
        · rw [show b = it from by simpa using z]; exact sz_i
      rw [upd_ne (Nat.ne_of_lt lt)]
      exact (hf b hb).1
  done := by
    intro X hP hw hK hc i pins s σ H E I hf st hg
    subst hP hw hK
    obtain ⟨⟨old, isE⟩, iti, ne⟩ := st
    obtain ⟨xs, hq, hx⟩ := hg
    obtain ⟨its, rv, p, hz⟩ := I.tuple hq
    obtain ⟨f0, f1, f2, f3, f4, f5⟩ := hf it (by simp)
    have hT : s.heap.IsTuple a its.toArray := p
    have none_i : its.toArray[i]? = none := by
      have z := rv.length
      rw [List.getElem?_toArray]
      exact List.getElem?_eq_none_iff.mpr (by omega)
    exact qEnumEnd (I.ok.hd hc) isE iti hT none_i fun h' eb => ⟨rfl, I.turned (t' := s.toks) (fun b o hb q => eb b o hb q) f0 f1 f3 f4 f5⟩
  self := fun A i s Q E ⟨⟨_, isE⟩, _⟩ hQ => wpAny_pyIter_enum isE hQ
/-- enumerate over a list or a tuple -/
def iEn2 (K : PySem.W.Frag) (ta : TA) : TI := fun σ H R => ta σ H fun vs H1 => ∃ a xs, vs = [.ref a] ∧ ((SqL K H1 a xs ∧ R (Ite K a) H1) ∨ (SqT K H1 a xs ∧ R (Iet K a) H1))
theorem pi_en2 {X : Cx} {e : Expr} {ta : TA} {p pos tpos : Pos} {elts : List Expr} {kk : Nat} (hg : Gl X "enumerate") (hm : X.mg "enumerate" = none) (ha : PA X [e] ta) (hs : starEach [e] X.env = [(false, eval e X.env)] := by rfl) :
    PI X (.Tuple elts kk tpos) (.Call (.Name "enumerate" p) [e] [] pos) (iEn2 X.K ta) := by
  refine ⟨fun pins s σ H R I h => ?_⟩
  refine PyProof.Rows.Call_ (ld_blt I hg hm PyProof.Rows.boot_enumerate (PyProof.Rows.callWith_type1 (thn (ha.run pos pins s σ H _ I h) fun us s1 ⟨vs, H1, I1, r1, q1⟩ => ?_) hs rfl))
  obtain ⟨a, xs, ex, hq⟩ := q1
  subst ex
  cases r1 with
  | cons r rr =>
    cases rr
    cases r
    have places : ∀ b ∈ [s1.heap.objs.size + 1, s1.heap.objs.size], s1.heap.objs.size ≤ b := fun b hb => by
      rcases List.mem_cons.mp hb with z | z
      · omega
      · have z2 : b = s1.heap.objs.size := by simpa using z
        omega
    rcases hq with ⟨hq, q⟩ | ⟨hq, q⟩
    · obtain ⟨its, rv, p', hz⟩ := I1.list hq
      refine call_enumerate_list p'.isList fun h' he hit hsz hk => wpAny_pyIter_enum he ?_
      exact ⟨s1.heap.objs.size + 1, [s1.heap.objs.size + 1, s1.heap.objs.size], _, _, H1, rfl, I1.kept (t' := s1.toks) hk, turn_enum a (s1.heap.objs.size + 1) s1.heap.objs.size,
        ⟨⟨.none, he⟩, hit, Nat.succ_ne_self _⟩, fun b hb => I1.fpOk (places b hb) (I1.hok.fresh (places b hb)), q⟩
    · obtain ⟨its, rv, p', hz⟩ := I1.tuple hq
      have hT : s1.heap.IsTuple a its.toArray := p'
      refine qEnumBegin (begins_tuple a its.toArray) hT fun h' he hit hk => wpAny_pyIter_enum he ?_
      exact ⟨s1.heap.objs.size + 1, [s1.heap.objs.size + 1, s1.heap.objs.size], _, _, H1, rfl, I1.kept (t' := s1.toks) hk, turnT a (s1.heap.objs.size + 1) s1.heap.objs.size,
        ⟨⟨.none, he⟩, ⟨_, hit, rfl, rfl⟩, Nat.succ_ne_self _⟩, fun b hb => I1.fpOk (places b hb) (I1.hok.fresh (places b hb)), q⟩
theorem k_en2 {X : Cx} {K : PySem.W.Frag} {e : Expr} {ta : TA} {p pos tpos : Pos} {elts : List Expr} {kk : Nat} (ek : X.K = K) (hg : Gl X "enumerate") (hm : X.mg "enumerate" = none) (ha : PA X [e] ta) (hs : starEach [e] X.env = [(false, eval e X.env)] := by rfl) :
    PI X (.Tuple elts kk tpos) (.Call (.Name "enumerate" p) [e] [] pos) (iEn2 K ta) := by subst ek; exact pi_en2 hg hm ha hs
section
variable {K : PySem.W.Frag} {g : TG} {tt : TT} {te : TE} {vs : List Nat} {σ σ0 : L2.St} {H : Hp} {Q : VK} {a : Addr} {R : It → Hp → Prop} {N : L2.St → Hp → Prop}
def En2R (K : PySem.W.Frag) (vs : List V) (R : It → Hp → Prop) (H : Hp) : Prop := ∃ a xs, vs = [.ref a] ∧ ((SqL K H a xs ∧ R (Ite K a) H) ∨ (SqT K H a xs ∧ R (Iet K a) H))
theorem g_iEn2 {ta : TA} (h : ta σ H fun ws H1 => En2R K ws R H1) : iEn2 K ta σ H R := h
theorem g_en2L {xs : List V} (c : SqL K H a xs) (h : R (Ite K a) H) : En2R K [.ref a] R H := ⟨a, xs, rfl, .inl ⟨c, h⟩⟩
theorem g_en2T {xs : List V} (c : SqT K H a xs) (h : R (Iet K a) H) : En2R K [.ref a] R H := ⟨a, xs, rfl, .inr ⟨c, h⟩⟩
def En1R (K : PySem.W.Frag) (vs : List V) (R : It → Hp → Prop) (H : Hp) : Prop := ∃ a xs, vs = [.ref a] ∧ SqL K H a xs ∧ R (Ite K a) H
theorem g_iEnum {ta : TA} (h : ta σ H fun ws H1 => En1R K ws R H1) : iEnum K ta σ H R := h
theorem g_en1 {xs : List V} (c : SqL K H a xs) (h : R (Ite K a) H) : En1R K [.ref a] R H := ⟨a, xs, rfl, c, h⟩
theorem g_gTup {n : Nat} {t : TGs} {p : Addr} {xs : List V} (c : SqT K H p xs) (e : xs.length = n) (h : t xs σ H N) : gTup K n t (.ref p) σ H N := ⟨p, xs, rfl, c, e, h⟩
theorem g_gCons {t : TG} {u : TGs} {v : V} {r : List V} (h : t v σ H fun σ' H' => u r σ' H' N) : gCons t u (v :: r) σ H N := ⟨v, r, rfl, h⟩
theorem g_gNil (h : N σ H) : gNil [] σ H N := ⟨rfl, h⟩
theorem lcE {xs : List V} (hw : wipe σ vs = σ0) (h : ∀ D, H D = none → ∃ Pv : Nat → Hp → Prop, Pv 0 (upd H D (.lst [])) ∧ (∀ i H', i ≤ xs.length → Pv i H' → SqL K H' a xs) ∧
    (∀ (i : Nat) (x : V) (T : Addr) (H' : Hp), xs[i]? = some x → Pv i H' → H' T = none → Turn1 g tt te vs σ0 D (.ref T) (upd H' T (.tup [.int (i : Nat), x])) (Pv (i + 1))) ∧
    ∀ H', Pv xs.length H' → Q (.ref D) H') : LcG (Ite K a) g tt te vs σ Q H := by
  subst hw
  intro D hD
  obtain ⟨Pv, h0, hl, hs, hd⟩ := h D hD
  refine ⟨fun i m H => m = xs.length - i ∧ i ≤ xs.length ∧ Pv i H, ⟨xs.length, by simp, Nat.zero_le _, h0⟩, ?_⟩
  rintro i m H ⟨rfl, hi, p⟩
  have q := hl i H hi p
  rcases Nat.lt_or_ge i xs.length with hlt | hge
  · exact .inr ⟨⟨xs, xs[i], q, by simp [hlt]⟩, Pv (i + 1), fun H' p' => ⟨xs.length - (i + 1), by omega, rfl, hlt, p'⟩, fun v H' ⟨T, x, e1, e2, e3, e4⟩ => by subst e1 e3; exact hs i x T _ (e4 xs q) p e2⟩
  · have e : i = xs.length := by omega
    subst e
    exact .inl ⟨⟨xs, q, Nat.le_refl _⟩, hd H p⟩
theorem lcET {xs : List V} (hw : wipe σ vs = σ0) (h : ∀ D, H D = none → ∃ Pv : Nat → Hp → Prop, Pv 0 (upd H D (.lst [])) ∧ (∀ i H', i ≤ xs.length → Pv i H' → SqT K H' a xs) ∧
    (∀ (i : Nat) (x : V) (T : Addr) (H' : Hp), xs[i]? = some x → Pv i H' → H' T = none → Turn1 g tt te vs σ0 D (.ref T) (upd H' T (.tup [.int (i : Nat), x])) (Pv (i + 1))) ∧
    ∀ H', Pv xs.length H' → Q (.ref D) H') : LcG (Iet K a) g tt te vs σ Q H := by
  subst hw
  intro D hD
  obtain ⟨Pv, h0, hl, hs, hd⟩ := h D hD
  refine ⟨fun i m H => m = xs.length - i ∧ i ≤ xs.length ∧ Pv i H, ⟨xs.length, by simp, Nat.zero_le _, h0⟩, ?_⟩
  rintro i m H ⟨rfl, hi, p⟩
  have q := hl i H hi p
  rcases Nat.lt_or_ge i xs.length with hlt | hge
  · exact .inr ⟨⟨xs, xs[i], q, by simp [hlt]⟩, Pv (i + 1), fun H' p' => ⟨xs.length - (i + 1), by omega, rfl, hlt, p'⟩, fun v H' ⟨T, x, e1, e2, e3, e4⟩ => by subst e1 e3; exact hs i x T _ (e4 xs q) p e2⟩
  · have e : i = xs.length := by omega
    subst e
    exact .inl ⟨⟨xs, q, Nat.le_refl _⟩, hd H p⟩
def ZipR (K : PySem.W.Frag) (vs : List V) (R : It → Hp → Prop) (H : Hp) : Prop := ∃ a b xs ys, vs = [.ref a, .ref b] ∧ ((SqL K H a xs ∧ SqL K H b ys ∧ R (Itz K a b) H) ∨ (SqT K H a xs ∧ SqT K H b ys ∧ R (ItzT K a b) H))
theorem g_iZipA {ta : TA} (h : ta σ H fun ws H1 => ZipR K ws R H1) : iZipA K ta σ H R := h
theorem g_zipL {b : Addr} {xs ys : List V} (c : SqL K H a xs) (d : SqL K H b ys) (h : R (Itz K a b) H) : ZipR K [.ref a, .ref b] R H := ⟨a, b, xs, ys, rfl, .inl ⟨c, d, h⟩⟩
theorem g_zipT {b : Addr} {xs ys : List V} (c : SqT K H a xs) (d : SqT K H b ys) (h : R (ItzT K a b) H) : ZipR K [.ref a, .ref b] R H := ⟨a, b, xs, ys, rfl, .inr ⟨c, d, h⟩⟩
theorem lcZ {b : Addr} {xs ys : List V} (hl : xs.length = ys.length) (hw : wipe σ vs = σ0) (h : ∀ D, H D = none → ∃ Pv : Nat → Hp → Prop, Pv 0 (upd H D (.lst [])) ∧ (∀ i H', Pv i H' → SqL K H' a xs ∧ SqL K H' b ys) ∧
    (∀ (i : Nat) (x y : V) (T : Addr) (H' : Hp), xs[i]? = some x → ys[i]? = some y → Pv i H' → H' T = none → Turn1 g tt te vs σ0 D (.ref T) (upd H' T (.tup [x, y])) (Pv (i + 1))) ∧
    ∀ H', Pv xs.length H' → Q (.ref D) H') : LcG (Itz K a b) g tt te vs σ Q H := by
  subst hw
  intro D hD
  obtain ⟨Pv, h0, hq, hs, hd⟩ := h D hD
  refine ⟨fun i m H => m = xs.length - i ∧ i ≤ xs.length ∧ Pv i H, ⟨xs.length, by simp, Nat.zero_le _, h0⟩, ?_⟩
  rintro i m H ⟨rfl, hi, p⟩
  obtain ⟨q1, q2⟩ := hq i H p
  rcases Nat.lt_or_ge i xs.length with hlt | hge
  · exact .inr ⟨⟨xs, ys, xs[i], ys[i]'(by omega), q1, q2, by simp [hlt], by simp⟩, Pv (i + 1), fun H' p' => ⟨xs.length - (i + 1), by omega, rfl, hlt, p'⟩,
      fun v H' ⟨T, x, y, e1, e2, e3, e4, e5⟩ => by subst e1 e3; exact hs i x y T _ (e4 xs q1) (e5 ys q2) p e2⟩
  · have e : i = xs.length := by omega
    subst e
    exact .inl ⟨⟨xs, ys, q1, q2, .inl (Nat.le_refl _)⟩, hd H p⟩
theorem lcZT {b : Addr} {xs ys : List V} (hl : xs.length = ys.length) (hw : wipe σ vs = σ0) (h : ∀ D, H D = none → ∃ Pv : Nat → Hp → Prop, Pv 0 (upd H D (.lst [])) ∧ (∀ i H', Pv i H' → SqT K H' a xs ∧ SqT K H' b ys) ∧
    (∀ (i : Nat) (x y : V) (T : Addr) (H' : Hp), xs[i]? = some x → ys[i]? = some y → Pv i H' → H' T = none → Turn1 g tt te vs σ0 D (.ref T) (upd H' T (.tup [x, y])) (Pv (i + 1))) ∧
    ∀ H', Pv xs.length H' → Q (.ref D) H') : LcG (ItzT K a b) g tt te vs σ Q H := by
  subst hw
  intro D hD
  obtain ⟨Pv, h0, hq, hs, hd⟩ := h D hD
  refine ⟨fun i m H => m = xs.length - i ∧ i ≤ xs.length ∧ Pv i H, ⟨xs.length, by simp, Nat.zero_le _, h0⟩, ?_⟩
  rintro i m H ⟨rfl, hi, p⟩
  obtain ⟨q1, q2⟩ := hq i H p
  rcases Nat.lt_or_ge i xs.length with hlt | hge
  · exact .inr ⟨⟨xs, ys, xs[i], ys[i]'(by omega), q1, q2, by simp [hlt], by simp⟩, Pv (i + 1), fun H' p' => ⟨xs.length - (i + 1), by omega, rfl, hlt, p'⟩,
      fun v H' ⟨T, x, y, e1, e2, e3, e4, e5⟩ => by subst e1 e3; exact hs i x y T _ (e4 xs q1) (e5 ys q2) p e2⟩
  · have e : i = xs.length := by omega
    subst e
    exact .inl ⟨⟨xs, ys, q1, q2, .inl (Nat.le_refl _)⟩, hd H p⟩
end
theorem k_zip {X : Cx} {K : PySem.W.Frag} {e e2 : Expr} {ta : TA} {p pos tpos : Pos} {elts : List Expr} {kk : Nat} (ek : X.K = K) (hg : Gl X "zip") (hm : X.mg "zip" = none) (ha : PA X [e, e2] ta)
    (hs : starEach [e, e2] X.env = (false, eval e X.env) :: starEach [e2] X.env := by rfl) (hl : (backTo pos (starEach [e2] X.env)).any (·.1) = false := by rfl) :
    PI X (.Tuple elts kk tpos) (.Call (.Name "zip" p) [e, e2] [] pos) (iZipA K ta) := by subst ek; exact pi_zipA hg hm ha hs hl
end Q

set_option Elab.async false
set_option linter.all false
set_option maxRecDepth 100000
set_option maxHeartbeats 2000000
/-! zip of lists and tuples, mixed -/
namespace Q
open PySem PySem.Spec L2 RZ
/-- a list (true) or a tuple (false) -/
def SqB (k : Bool) (K : PySem.W.Frag) (H : Hp) (a : Addr) (xs : List V) : Prop := if k = true then SqL K H a xs else SqT K H a xs
def IsB (k : Bool) (h : Heap) (a : Addr) (its : Array Value) : Prop := if k = true then h.IsList a its else h.IsTuple a its
def ItB (k : Bool) (h : Heap) (it a : Addr) (i : Nat) : Prop := if k = true then h.IsListIter it a i else h.IsTupleIter it a i
section
variable {X : Cx} {pins : List (Addr × Obj)} {σ : L2.St} {H : Hp} {s : Shared} {a it : Addr} {xs ys : List V} {k : Bool} {i : Nat} {h h' : Heap}
theorem sqB_of (I : Inv X pins σ H s) (c : SqB k X.K H a xs) : ∃ its : List Value, Vals xs its ∧ IsB k s.heap a its.toArray := by
  cases k
  · obtain ⟨its, r, p, _⟩ := I.tuple (show SqT X.K H a xs from c)
    exact ⟨its, r, show s.heap.IsTuple a its.toArray from p⟩
  · obtain ⟨its, r, p, _⟩ := I.list (show SqL X.K H a xs from c)
    exact ⟨its, r, show s.heap.IsList a its.toArray from p.isList⟩
theorem sqB_inj (I : Inv X pins σ H s) (c : SqB k X.K H a xs) (d : SqB k X.K H a ys) : xs = ys := by
  cases k
  · exact I.tuple_inj (show SqT X.K H a xs from c) d
  · exact I.list_inj (show SqL X.K H a xs from c) d
theorem ItB.keep (c : ItB k h it a i) (q : ∀ o, h.get? it = some o → h'.get? it = some o) : ItB k h' it a i := by
  cases k
  · exact Heap.IsTupleIter.at (show h.IsTupleIter it a i from c) q
  · exact Heap.IsListIter.at (show h.IsListIter it a i from c) q
theorem ItB.obj (c : ItB k h it a i) : ∃ o, h.get? it = some o ∧ ∀ v, o.data ≠ .cell v := by
  cases k
  · obtain ⟨o, e, _, d⟩ := (show h.IsTupleIter it a i from c)
    exact ⟨o, e, fun v z => by rw [d] at z; cases z⟩
  · obtain ⟨o, e, _, d⟩ := (show h.IsListIter it a i from c)
    exact ⟨o, e, fun v z => by rw [d] at z; cases z⟩
theorem IsB.lt {its : Array Value} (c : IsB k h a its) : a < h.objs.size := by
  cases k
  · obtain ⟨o, e, _⟩ := (show h.IsTuple a its from c)
    exact Heap.lt_size e
  · obtain ⟨o, e, _⟩ := (show h.IsList a its from c)
    exact Heap.lt_size e
theorem drawsB {P : Program} {w : World} {A : Around} (hh : A.handled = none) (k : Bool) (it l : Addr) (ne : l ≠ it) (items : Array Value) :
    Draws P w A it [it, l] items.size (fun i v => items[i]? = some v) (fun i h => ItB k h it l i ∧ IsB k h l items) := by
  cases k
  · exact Draws.tuple hh it l ne items
  · exact Draws.list hh it l ne items
def oB (k : Bool) (l : Addr) : Obj := { cls := .type (if k = true then "list_iterator" else "tuple_iterator"), data := .fields #[.ref l, .int 0 0] }
theorem beginsB (k : Bool) (l : Addr) (items : Array Value) : Begins (.ref l) (oB k l) fun h => IsB k h l items := by
  cases k
  · exact begins_tuple l items
  · exact begins_list l items
theorem oB_it {l : Addr} (e : h.get? it = some (oB k l)) : ItB k h it l 0 := by
  cases k
  · exact ⟨_, e, rfl, rfl⟩
  · exact ⟨_, e, rfl, rfl⟩
end
/-- the turns of zip over a and b: a new pair each -/
def Itm (K : PySem.W.Frag) (k l : Bool) (a b : Addr) : It :=
  ⟨fun i H => ∃ (xs ys : List V) (x y : V), SqB k K H a xs ∧ SqB l K H b ys ∧ xs[i]? = some x ∧ ys[i]? = some y,
    fun i H v H' => ∃ T x y, v = .ref T ∧ H T = none ∧ H' = upd H T (.tup [x, y]) ∧ (∀ xs, SqB k K H a xs → xs[i]? = some x) ∧ ∀ ys, SqB l K H b ys → ys[i]? = some y,
    fun i H => ∃ xs ys : List V, SqB k K H a xs ∧ SqB l K H b ys ∧ i ≤ xs.length ∧ i ≤ ys.length ∧ (i = xs.length ∨ i = ys.length)⟩
theorem turnM {P : Program} {w : World} {K : PySem.W.Frag} {elts : List Expr} {kk : Nat} {tpos : Pos} {k l : Bool} {a b z TI TO i1 i2 : Addr} (S : ZipSep2 z TI TO i1 i2 [i1, a] [i2, b]) :
    L2.Turn P w K (.Tuple elts kk tpos) (Itm K k l a b) [z, TI, TO, i1, i2] z
      (fun i h => IsZip h z TI TO .none ∧ IsTupOf2 h TI (.ref i1) (.ref i2) ∧ (∃ x y, IsTupOf2 h TO x y) ∧ ItB k h i1 a i ∧ ItB l h i2 b i) where
  mem := List.mem_cons_self ..
  obj := fun i h ⟨isZ, hTI, ⟨x, y, hTO⟩, t1, t2⟩ c hc => by
    have five : c = z ∨ c = TI ∨ c = TO ∨ c = i1 ∨ c = i2 := by simpa using hc
    rcases five with e | e | e | e | e <;> rw [e]
    · exact ⟨_, isZ, fun v q => by cases q⟩
    · exact ⟨_, hTI, fun v q => by cases q⟩
    · exact ⟨_, hTO, fun v q => by cases q⟩
    · exact t1.obj
    · exact t2.obj
  keep := fun i h h' ⟨isZ, hTI, ⟨x, y, hTO⟩, t1, t2⟩ kp =>
    ⟨kp z (by simp) _ isZ, kp TI (by simp) _ hTI, ⟨x, y, kp TO (by simp) _ hTO⟩, t1.keep fun o q => kp i1 (by simp) o q, t2.keep fun o q => kp i2 (by simp) o q⟩
  item := by
    intro X hP hw hK hc i pins s σ H E I hf ⟨isZ, hTI, ⟨x0, y0, hTO⟩, t1, t2⟩ ⟨xs, ys, x, y, cx, cy, hx, hy⟩
    subst hP hw hK
    obtain ⟨us, ru, pu⟩ := sqB_of I cx
    obtain ⟨vs, rv, pv⟩ := sqB_of I cy
    obtain ⟨u, hu, eu⟩ := ru.get hx
    obtain ⟨v, hv, ev⟩ := rv.get hy
    have hd : X.A.in1.handled = none := I.ok.hd hc
    have n1 : a ≠ i1 := fun e => by
      obtain ⟨o, e1, _⟩ := t1.obj
      have := S.sep1_2
      cases k
      · obtain ⟨o1, g1, c1, _⟩ := (show s.heap.IsTupleIter i1 a i from t1)
        obtain ⟨o2, g2, c2, _⟩ := (show s.heap.IsTuple a us.toArray from pu)
        rw [e, g1] at g2; cases g2; rw [c1] at c2; injection c2 with c3; exact absurd c3 (by decide)
      · obtain ⟨o1, g1, c1, _⟩ := (show s.heap.IsListIter i1 a i from t1)
        obtain ⟨o2, g2, c2, _⟩ := (show s.heap.IsList a us.toArray from pu)
        rw [e, g1] at g2; cases g2; rw [c1] at c2; injection c2 with c3; exact absurd c3 (by decide)
    have n2 : b ≠ i2 := fun e => by
      cases l
      · obtain ⟨o1, g1, c1, _⟩ := (show s.heap.IsTupleIter i2 b i from t2)
        obtain ⟨o2, g2, c2, _⟩ := (show s.heap.IsTuple b vs.toArray from pv)
        rw [e, g1] at g2; cases g2; rw [c1] at c2; injection c2 with c3; exact absurd c3 (by decide)
      · obtain ⟨o1, g1, c1, _⟩ := (show s.heap.IsListIter i2 b i from t2)
        obtain ⟨o2, g2, c2, _⟩ := (show s.heap.IsList b vs.toArray from pv)
        rw [e, g1] at g2; cases g2; rw [c1] at c2; injection c2 with c3; exact absurd c3 (by decide)
    have D1 := drawsB (P := X.prog) (w := X.w) hd k i1 a n1 us.toArray
    have D2 := drawsB (P := X.prog) (w := X.w) hd l i2 b n2 vs.toArray
    have lt1 : i < us.toArray.size := by rw [List.size_toArray]; exact (List.getElem?_eq_some_iff.mp hu).1
    have lt2 : i < vs.toArray.size := by rw [List.size_toArray]; exact (List.getElem?_eq_some_iff.mp hv).1
    have ltz : z < s.heap.objs.size := Heap.lt_size isZ
    refine wpAny_pyNext_zipD2_item S D1 D2 isZ hTI hTO ⟨t1, pu⟩ ⟨t2, pv⟩ lt1 lt2 fun p q h' tk hp hq z' TO' s1' s2' hT hsz hk => ?_
    have ep : u = p := by
      have e : us.toArray[i]? = some u := by simpa using hu
      rw [show us.toArray[i]? = some p from hp] at e
      exact (Option.some.inj e).symm
    have eq : v = q := by
      have e : vs.toArray[i]? = some v := by simpa using hv
      rw [show vs.toArray[i]? = some q from hq] at e
      exact (Option.some.inj e).symm
    subst ep eq
    refine ⟨_, rfl, wpAny_letOwnedTupleGo_zip (s := { s with heap := h', toks := tk }) z' fun h'' z'' sb => ?_⟩
    have pairAt : h''.get? s.heap.objs.size = some { cls := .type "tuple", data := .seq #[u, v] } := (sb.2 _ (Nat.ne_of_gt ltz)).trans hT
    have new : ObjOk X.prog X.w (upd H s.heap.objs.size (.tup [x, y])) h'' s.heap.objs.size (.tup [x, y]) :=
      ⟨by show 2 ≤ sizeLine; decide, [u, v], .cons eu (.cons ev .nil), ⟨_, pairAt, rfl, _, rfl⟩⟩
    have stay : ∀ c o, c ∉ [z, TI, TO, i1, i2] → s.heap.get? c = some o → h''.get? c = some o := fun c o hc e => by
      simp only [List.mem_cons, List.not_mem_nil, or_false, not_or] at hc
      exact (sb.2 c hc.1).trans (hk c o hc.1 hc.2.2.1 hc.2.2.2.1 hc.2.2.2.2 e)
    have I1 : Inv X pins σ (upd H s.heap.objs.size (.tup [x, y])) { s with heap := h'', toks := tk } := I.turnedNew (ch := [z, TI, TO, i1, i2]) stay hf (Nat.le_refl _) new
    refine ⟨.ref s.heap.objs.size, _, I1, rfl, ⟨_, x, y, rfl, I.hok.fresh (Nat.le_refl _), rfl, fun l hl => by rw [sqB_inj I hl cx]; exact hx, fun l hl => by rw [sqB_inj I hl cy]; exact hy⟩,
      ⟨z'', ?_, ⟨u, v, ?_⟩, ?_, ?_⟩, fun c hcm => ?_⟩
    · exact (sb.2 _ S.TIz).trans (hk _ _ S.TIz S.TITO S.TIi1 S.TIi2 hTI)
    · exact (sb.2 _ S.TOz).trans TO'
    · exact s1'.1.keep fun o e => (sb.2 _ S.zi1.symm).trans e
    · exact s2'.1.keep fun o e => (sb.2 _ S.zi2.symm).trans e
    · have five : c = z ∨ c = TI ∨ c = TO ∨ c = i1 ∨ c = i2 := by simpa using hcm
      have lt : c < s.heap.objs.size := by
        rcases five with e | e | e | e | e <;> rw [e]
        · exact ltz
        · exact Heap.lt_size hTI
        · exact Heap.lt_size hTO
        · obtain ⟨o, e1, _⟩ := t1.obj; exact Heap.lt_size e1
        · obtain ⟨o, e1, _⟩ := t2.obj; exact Heap.lt_size e1
      rw [upd_ne (Nat.ne_of_lt lt)]
      exact (hf c hcm).1
  done := by
    intro X hP hw hK hc i pins s σ H E I hf ⟨isZ, hTI, ⟨x0, y0, hTO⟩, t1, t2⟩ ⟨xs, ys, cx, cy, le1, le2, hend⟩
    subst hP hw hK
    obtain ⟨us, ru, pu⟩ := sqB_of I cx
    obtain ⟨vs, rv, pv⟩ := sqB_of I cy
    have l1 := ru.length
    have l2 := rv.length
    have hd : X.A.in1.handled = none := I.ok.hd hc
    have n1 : a ≠ i1 := fun e => by
      cases k
      · obtain ⟨o1, g1, c1, _⟩ := (show s.heap.IsTupleIter i1 a i from t1)
        obtain ⟨o2, g2, c2, _⟩ := (show s.heap.IsTuple a us.toArray from pu)
        rw [e, g1] at g2; cases g2; rw [c1] at c2; injection c2 with c3; exact absurd c3 (by decide)
      · obtain ⟨o1, g1, c1, _⟩ := (show s.heap.IsListIter i1 a i from t1)
        obtain ⟨o2, g2, c2, _⟩ := (show s.heap.IsList a us.toArray from pu)
        rw [e, g1] at g2; cases g2; rw [c1] at c2; injection c2 with c3; exact absurd c3 (by decide)
    have n2 : b ≠ i2 := fun e => by
      cases l
      · obtain ⟨o1, g1, c1, _⟩ := (show s.heap.IsTupleIter i2 b i from t2)
        obtain ⟨o2, g2, c2, _⟩ := (show s.heap.IsTuple b vs.toArray from pv)
        rw [e, g1] at g2; cases g2; rw [c1] at c2; injection c2 with c3; exact absurd c3 (by decide)
      · obtain ⟨o1, g1, c1, _⟩ := (show s.heap.IsListIter i2 b i from t2)
        obtain ⟨o2, g2, c2, _⟩ := (show s.heap.IsList b vs.toArray from pv)
        rw [e, g1] at g2; cases g2; rw [c1] at c2; injection c2 with c3; exact absurd c3 (by decide)
    have D1 := drawsB (P := X.prog) (w := X.w) hd k i1 a n1 us.toArray
    have D2 := drawsB (P := X.prog) (w := X.w) hd l i2 b n2 vs.toArray
    refine wpAny_pyNext_zipD2_end S D1 D2 isZ hTI hTO ⟨t1, pu⟩ ⟨t2, pv⟩ (by rw [List.size_toArray]; omega) (by rw [List.size_toArray]; omega) (by rw [List.size_toArray, List.size_toArray]; omega) fun h' tk hk => ⟨rfl, ?_⟩
    refine I.turnedL (t' := tk) (ch := [z, TI, TO, i1, i2]) (fun c o hc e => ?_) hf
    simp only [List.mem_cons, List.not_mem_nil, or_false, not_or] at hc
    exact hk c o hc.1 hc.2.2.1 hc.2.2.2.1 hc.2.2.2.2 e
  self := fun A i s Q E st go => wpAny_pyIter_zip st.1 go
/-- zip of two, each a list or a tuple -/
def iZm (K : PySem.W.Frag) (ta : TA) : TI := fun σ H R => ta σ H fun vs H1 => ∃ (k l : Bool) (a b : Addr) (xs ys : List V), vs = [.ref a, .ref b] ∧ SqB k K H1 a xs ∧ SqB l K H1 b ys ∧ R (Itm K k l a b) H1
theorem pi_zm {X : Cx} {e e2 : Expr} {ta : TA} {p pos tpos : Pos} {elts : List Expr} {kk : Nat} (hg : Gl X "zip") (hm : X.mg "zip" = none) (ha : PA X [e, e2] ta)
    (st : starEach [e, e2] X.env = (false, eval e X.env) :: starEach [e2] X.env := by rfl) (nost : (backTo pos (starEach [e2] X.env)).any (·.1) = false := by rfl) :
    PI X (.Tuple elts kk tpos) (.Call (.Name "zip" p) [e, e2] [] pos) (iZm X.K ta) := by
  refine ⟨fun pins s σ H R I h => ?_⟩
  refine PyProof.Rows.Call_ (ld_blt I hg hm PyProof.Rows.boot_zip (PyProof.Rows.callWith_type1 (thn (ha.run pos pins s σ H _ I h) fun us s1 ⟨vs, H1, I1, r1, q1⟩ => ?_) st nost))
  obtain ⟨k, l, a, b, xs, ys, ex, cx, cy, q1⟩ := q1
  subst ex
  cases r1 with
  | cons r rr =>
    cases rr with
    | cons r' rr =>
      cases rr
      cases r
      cases r'
      obtain ⟨u, ru, pu⟩ := sqB_of I1 cx
      obtain ⟨v, rv, pv⟩ := sqB_of I1 cy
      have apart : ∀ c ∈ [s1.heap.objs.size + 4, s1.heap.objs.size + 2, s1.heap.objs.size + 3, s1.heap.objs.size, s1.heap.objs.size + 1], FpOk X pins H1 c := fun c hc => by
        have five : c = s1.heap.objs.size + 4 ∨ c = s1.heap.objs.size + 2 ∨ c = s1.heap.objs.size + 3 ∨ c = s1.heap.objs.size ∨ c = s1.heap.objs.size + 1 := by simpa using hc
        have le : s1.heap.objs.size ≤ c := by
          rcases five with z | z | z | z | z
          · rw [z]; exact Nat.le_add_right ..
          · rw [z]; exact Nat.le_add_right ..
          · rw [z]; exact Nat.le_add_right ..
          · rw [z]; exact Nat.le_refl _
          · rw [z]; exact Nat.le_add_right ..
        exact I1.fpOk le (I1.hok.fresh le)
      refine zip_begins2 (beginsB k a u.toArray) (beginsB l b v.toArray) pu pv fun h' isZ hTI hTO g1 g2 hsz hk => wpAny_pyIter_zip isZ ?_
      refine ⟨s1.heap.objs.size + 4, [s1.heap.objs.size + 4, s1.heap.objs.size + 2, s1.heap.objs.size + 3, s1.heap.objs.size, s1.heap.objs.size + 1], _, _, H1, rfl, I1.kept (t' := s1.toks) hk,
        turnM (k := k) (l := l) (zip_sep2 (fp1 := [a]) (fp2 := [b]) (fun c hc => ?_) (fun c hc => ?_)), ⟨isZ, hTI, ⟨_, _, hTO⟩, oB_it g1, oB_it g2⟩, apart, q1⟩
      · rw [show c = a from by simpa using hc]; exact pu.lt
      · rw [show c = b from by simpa using hc]; exact pv.lt
theorem k_zm {X : Cx} {K : PySem.W.Frag} {e e2 : Expr} {ta : TA} {p pos tpos : Pos} {elts : List Expr} {kk : Nat} (ek : X.K = K) (hg : Gl X "zip") (hm : X.mg "zip" = none) (ha : PA X [e, e2] ta)
    (st : starEach [e, e2] X.env = (false, eval e X.env) :: starEach [e2] X.env := by rfl) (nost : (backTo pos (starEach [e2] X.env)).any (·.1) = false := by rfl) :
    PI X (.Tuple elts kk tpos) (.Call (.Name "zip" p) [e, e2] [] pos) (iZm K ta) := by subst ek; exact pi_zm hg hm ha st nost
section
variable {K : PySem.W.Frag} {g : TG} {tt : TT} {te : TE} {vs : List Nat} {σ σ0 : L2.St} {H : Hp} {Q : VK} {a b : Addr} {R : It → Hp → Prop} {k l : Bool}
def ZmR (K : PySem.W.Frag) (vs : List V) (R : It → Hp → Prop) (H : Hp) : Prop := ∃ (k l : Bool) (a b : Addr) (xs ys : List V), vs = [.ref a, .ref b] ∧ SqB k K H a xs ∧ SqB l K H b ys ∧ R (Itm K k l a b) H
theorem g_iZm {ta : TA} (h : ta σ H fun ws H1 => ZmR K ws R H1) : iZm K ta σ H R := h
theorem g_zm {xs ys : List V} (c : SqB k K H a xs) (d : SqB l K H b ys) (h : R (Itm K k l a b) H) : ZmR K [.ref a, .ref b] R H := ⟨k, l, a, b, xs, ys, rfl, c, d, h⟩
theorem sqB_same {xs : List V} {H' : Hp} (c : SqB k K H a xs) (e : L2.Same H H') : SqB k K H' a xs := by
  cases k
  · exact seqT_same e (show SqT K H a xs from c)
  · exact e.seq (show SqL K H a xs from c)
theorem lcM {xs ys : List V} (len : xs.length = ys.length) (hw : wipe σ vs = σ0) (h : ∀ D, H D = none → ∃ Pv : Nat → Hp → Prop, Pv 0 (upd H D (.lst [])) ∧ (∀ i H', Pv i H' → SqB k K H' a xs ∧ SqB l K H' b ys) ∧
    (∀ (i : Nat) (x y : V) (T : Addr) (H' : Hp), xs[i]? = some x → ys[i]? = some y → Pv i H' → H' T = none → Turn1 g tt te vs σ0 D (.ref T) (upd H' T (.tup [x, y])) (Pv (i + 1))) ∧
    ∀ H', Pv xs.length H' → Q (.ref D) H') : LcG (Itm K k l a b) g tt te vs σ Q H := by
  subst hw
  intro D hD
  obtain ⟨Pv, h0, hq, hs, fin⟩ := h D hD
  refine ⟨fun i m H => m = xs.length - i ∧ i ≤ xs.length ∧ Pv i H, ⟨xs.length, by simp, Nat.zero_le _, h0⟩, ?_⟩
  rintro i m H ⟨rfl, hi, p⟩
  obtain ⟨q1, q2⟩ := hq i H p
  rcases Nat.lt_or_ge i xs.length with lt | ge
  · exact .inr ⟨⟨xs, ys, xs[i], ys[i]'(by omega), q1, q2, by simp [lt], by simp⟩, Pv (i + 1), fun H' p' => ⟨xs.length - (i + 1), by omega, rfl, lt, p'⟩,
      fun v H' ⟨T, x, y, e1, e2, e3, e4, e5⟩ => by subst e1 e3; exact hs i x y T _ (e4 xs q1) (e5 ys q2) p e2⟩
  · have e : i = xs.length := by omega
    subst e
    exact .inl ⟨⟨xs, ys, q1, q2, Nat.le_refl _, by omega, .inl rfl⟩, fin H p⟩
end
section
variable {K : PySem.W.Frag} {g : TG} {tt : TT} {te : TE} {tb : TS} {vs : List Nat} {D0 : Ends} {σ σ0 : L2.St} {H : Hp} {Q : VK} {J : It} {a : Addr}
theorem lcT {xs : List V} (hw : wipe σ vs = σ0) (h : ∀ D, H D = none → ∃ Pv : Nat → Hp → Prop, Pv 0 (upd H D (.lst [])) ∧ (∀ i H', i ≤ xs.length → Pv i H' → SqT K H' a xs) ∧
    (∀ (i : Nat) (x : V) (H' : Hp), xs[i]? = some x → Pv i H' → Turn1 g tt te vs σ0 D x H' (Pv (i + 1))) ∧ ∀ H', Pv xs.length H' → Q (.ref D) H') : LcG (Itt K a) g tt te vs σ Q H := by
  subst hw
  intro D hD
  obtain ⟨Pv, h0, hl, hs, hd⟩ := h D hD
  refine ⟨fun i m H => m = xs.length - i ∧ i ≤ xs.length ∧ Pv i H, ⟨xs.length, by simp, Nat.zero_le _, h0⟩, ?_⟩
  rintro i m H ⟨rfl, hi, p⟩
  have q := hl i H hi p
  rcases Nat.lt_or_ge i xs.length with hlt | hge
  · exact .inr ⟨⟨xs, xs[i], q, by simp [hlt]⟩, Pv (i + 1), fun H' p' => ⟨xs.length - (i + 1), by omega, rfl, hlt, p'⟩, fun x H' ⟨e1, e2⟩ => by subst e1; exact hs i x _ (e2 xs q) p⟩
  · have e : i = xs.length := by omega
    subst e
    exact .inl ⟨⟨xs, q, Nat.le_refl _⟩, hd H p⟩
theorem lcPT {S : List Int} {f : Int → V} {p : Int → Bool} (hw : wipe σ vs = σ0) (hS : SqT K H a (S.map V.int)) (hl : S.length ≤ 1000)
    (turn : ∀ (D : Addr) (acc : List V) (x : Int) (N : Hp → Prop), H D = none → x ∈ S → (p x = true → TurnD D N (f x) (upd H D (.lst acc))) → (p x = false → N (upd H D (.lst acc))) →
      Turn1 g tt te vs σ0 D (.int x) (upd H D (.lst acc)) N)
    (q : ∀ D, H D = none → Q (.ref D) (upd H D (.lst ((S.filter p).map f)))) : LcG (Itt K a) g tt te vs σ Q H := by
  refine lcT (xs := S.map V.int) hw fun D hD => ⟨fun i H' => H' = upd H D (.lst (((S.take i).filter p).map f)), rfl, ?_, ?_, ?_⟩
  · rintro i H' _ rfl
    exact seqT_same (same_new hD) hS
  · rintro i x H' hx rfl
    rw [List.getElem?_map, Option.map_eq_some_iff] at hx
    obtain ⟨n, hn, rfl⟩ := hx
    have hlt : i < S.length := (List.getElem?_eq_some_iff.mp hn).1
    refine turn D _ n _ hD (List.mem_of_getElem? hn) (fun hp => g_turnD upd_same ?_ ?_) (fun hp => ?_)
    · rw [List.length_map]
      have h1 := List.length_filter_le p (S.take i)
      rw [List.length_take] at h1
      omega
    · dsimp only
      rw [upd_upd, List.take_add_one, hn, List.filter_append, List.map_append]
      simp [hp]
    · dsimp only
      rw [List.take_add_one, hn, List.filter_append]
      simp [hp]
  · rintro H' rfl
    rw [List.length_map, List.take_length]
    exact q D hD
end
/-! a comprehension within a comprehension -/
theorem blkOk_rel {N : List Str} {sc scope S : Scope} {own : List (Str × Nat)} (h : blkC N (relS S sc) scope own = true) : BlkOk N (relS S sc) scope own := blkOk_by h
theorem ps_weak {X : Cx} {st : Stmt} {t u : TS} (h : PS X st t) (wk : ∀ D σ H, u D σ H → t D σ H) : PS X st u := ⟨fun pins s σ H D I q => h.run pins s σ H D I (wk D σ H q)⟩
end Q

set_option Elab.async false
set_option linter.all false
set_option maxRecDepth 100000
set_option maxHeartbeats 4000000
namespace Q
open PySem PySem.Spec L2
local macro_rules | `(tactic| walk_at "n") => `(tactic| first
  | with_reducible assumption
  | exact Ne.symm (by with_reducible assumption)
  | ((refine' ne_of_none ?k1 (by with_reducible assumption)); (case k1 => walk_at "h"))
  | ((refine' Ne.symm (ne_of_none ?k1 (by with_reducible assumption))); (case k1 => walk_at "h")))
local macro_rules | `(tactic| walk_at "h") => `(tactic| first
  | with_reducible assumption
  | with_reducible exact upd_same
  | ((with_reducible refine' h_ne ?k1 ?k2); (case k1 => walk_at "n"); (case k2 => walk_at "h"))
  | ((with_reducible refine' h_sm (by with_reducible assumption) ?k1); (case k1 => walk_at "h"))
  | ((with_reducible refine' h_chg (by with_reducible assumption) ?k1 ?k2); (case k1 => walk_at "n"); (case k2 => walk_at "h")))
local macro_rules | `(tactic| walk_at "l") => `(tactic| first
  | with_reducible assumption
  | ((with_reducible refine' SqL.of ?k1); (case k1 => walk_at "h"))
  | ((with_reducible refine' sqL_new (by with_reducible assumption) ?k1); (case k1 => walk_at "l"))
  | ((with_reducible refine' sqL_sm (by with_reducible assumption) ?k1); (case k1 => walk_at "l")))
local macro_rules | `(tactic| walk_at "t") => `(tactic| first
  | with_reducible assumption
  | ((with_reducible refine' SqT.of ?k1); (case k1 => walk_at "h"))
  | ((with_reducible refine' sqT_new (by with_reducible assumption) ?k1); (case k1 => walk_at "t"))
  | ((with_reducible refine' seqT_same (by with_reducible assumption) ?k1); (case k1 => walk_at "t")))
local macro_rules | `(tactic| walk_at "lt") => `(tactic| first
  | with_reducible assumption
  | ((refine' Or.inl ?k1); (case k1 => walk_at "l"))
  | ((refine' Or.inr ?k1); (case k1 => walk_at "t")))
local macro_rules | `(tactic| walk_at "c") => `(tactic| first
  | exact trivial
  | with_reducible assumption
  | exact wide_div (b := 100) (by decide) (by decide) (by decide) (by decide)
  | decide
  | omega
  | (refine' Or.inr ⟨?_, ?_⟩ <;> first | decide | omega)
  | (refine' Or.inl ⟨?_, ?_⟩ <;> first | decide | omega)
  | (refine' And.intro ?_ (And.intro ?_ ?_) <;> first | decide | omega)
  | (refine' And.intro ?_ ?_ <;> first | decide | omega))
local macro_rules | `(tactic| walk_at "ty") => `(tactic| first
  | exact .base (.int _)
  | exact .base (.str _)
  | exact .base (.bl _)
  | exact .base .non
  | ((with_reducible refine' tyL ?k1); (case k1 => walk_at "l"))
  | ((with_reducible refine' tyT ?k1); (case k1 => walk_at "t")))
local macro_rules | `(tactic| walk_at "kb") => `(tactic| first
  | exact kb_int_int
  | exact kb_int_str
  | exact kb_int_bool
  | exact kb_int_list
  | exact kb_int_tuple
  | exact kb_str_int
  | exact kb_str_str
  | exact kb_str_bool
  | exact kb_str_list
  | exact kb_str_tuple
  | exact kb_bool_int
  | exact kb_bool_str
  | exact kb_bool_bool
  | exact kb_bool_list
  | exact kb_bool_tuple
  | exact kb_NoneType_int
  | exact kb_NoneType_str
  | exact kb_NoneType_bool
  | exact kb_NoneType_list
  | exact kb_NoneType_tuple
  | exact kb_list_int
  | exact kb_list_str
  | exact kb_list_bool
  | exact kb_list_list
  | exact kb_list_tuple
  | exact kb_tuple_int
  | exact kb_tuple_str
  | exact kb_tuple_bool
  | exact kb_tuple_list
  | exact kb_tuple_tuple)
local macro_rules | `(tactic| walk_at "s") => `(tactic| first
  | with_reducible refine' g_seq ?_
  | with_reducible refine' g_asg ?_
  | with_reducible refine' g_ifS ?_
  | with_reducible refine' g_ret ?_
  | with_reducible refine' g_drop ?_
  | with_reducible refine' g_next ?_
  | with_reducible refine' g_op ?_
  | with_reducible refine' g_c ?_
  | with_reducible refine' g_v0 ?_
  | with_reducible refine' g_n0 ?_
  | with_reducible refine' g_v1 ?_
  | with_reducible refine' g_n1 ?_
  | with_reducible refine' g_v2 ?_
  | with_reducible refine' g_n2 ?_
  | with_reducible refine' g_v3 ?_
  | with_reducible refine' g_n3 ?_
  | with_reducible refine' g_v4 ?_
  | with_reducible refine' g_n4 ?_
  | with_reducible refine' g_v5 ?_
  | with_reducible refine' g_n5 ?_
  | with_reducible refine' g_v6 ?_
  | with_reducible refine' g_n6 ?_
  | with_reducible refine' g_v7 ?_
  | with_reducible refine' g_n7 ?_
  | with_reducible refine' g_v8 ?_
  | with_reducible refine' g_n8 ?_
  | with_reducible refine' g_v9 ?_
  | with_reducible refine' g_n9 ?_
  | with_reducible refine' g_v10 ?_
  | with_reducible refine' g_n10 ?_
  | with_reducible refine' g_v11 ?_
  | with_reducible refine' g_n11 ?_
  | with_reducible refine' g_v12 ?_
  | with_reducible refine' g_n12 ?_
  | with_reducible refine' g_v13 ?_
  | with_reducible refine' g_n13 ?_
  | with_reducible refine' g_v14 ?_
  | with_reducible refine' g_n14 ?_
  | with_reducible refine' g_v15 ?_
  | with_reducible refine' g_n15 ?_
  | with_reducible refine' g_sub ?_
  | with_reducible refine' g_rI0 ?_
  | with_reducible refine' g_p6 ?_
  | with_reducible refine' g_p18 ?_
  | ((with_reducible refine' g_rI ?_ ?_); (· walk_at "c"))
  | with_reducible refine' g_cb ?_
  | with_reducible refine' g_cons ?_
  | with_reducible refine' g_nil ?_
  | with_reducible refine' g_int ?_
  | ((with_reducible refine' g_ixL0 ?k1 ?_); (case k1 => walk_at "l"))
  | ((with_reducible refine' g_setL0 ?k1 ?_); (case k1 => walk_at "h"))
  | ((with_reducible refine' g_ixL1 ?k1 ?_); (case k1 => walk_at "l"))
  | ((with_reducible refine' g_setL1 ?k1 ?_); (case k1 => walk_at "h"))
  | ((with_reducible refine' g_ixL2 ?k1 ?_); (case k1 => walk_at "l"))
  | ((with_reducible refine' g_setL2 ?k1 ?_); (case k1 => walk_at "h"))
  | ((with_reducible refine' g_ixL3 ?k1 ?_); (case k1 => walk_at "l"))
  | ((with_reducible refine' g_setL3 ?k1 ?_); (case k1 => walk_at "h"))
  | ((with_reducible refine' g_ixL4 ?k1 ?_); (case k1 => walk_at "l"))
  | ((with_reducible refine' g_setL4 ?k1 ?_); (case k1 => walk_at "h"))
  | ((with_reducible refine' g_ixL5 ?k1 ?_); (case k1 => walk_at "l"))
  | ((with_reducible refine' g_setL5 ?k1 ?_); (case k1 => walk_at "h"))
  | ((with_reducible refine' g_ixL6 ?k1 ?_); (case k1 => walk_at "l"))
  | ((with_reducible refine' g_setL6 ?k1 ?_); (case k1 => walk_at "h"))
  | ((with_reducible refine' g_ixL7 ?k1 ?_); (case k1 => walk_at "l"))
  | ((with_reducible refine' g_setL7 ?k1 ?_); (case k1 => walk_at "h"))
  | ((with_reducible refine' g_ixL8 ?k1 ?_); (case k1 => walk_at "l"))
  | ((with_reducible refine' g_setL8 ?k1 ?_); (case k1 => walk_at "h"))
  | ((with_reducible refine' g_ixL9 ?k1 ?_); (case k1 => walk_at "l"))
  | ((with_reducible refine' g_setL9 ?k1 ?_); (case k1 => walk_at "h"))
  | ((with_reducible refine' g_ixL ?k1 ?k2 ?_); (case k1 => walk_at "l"); (case k2 => walk_at "a"))
  | ((with_reducible refine' g_setL ?k1 ?k2 ?_); (case k1 => walk_at "h"); (case k2 => rfl))
  | with_reducible refine' g_eqI ?_
  | with_reducible refine' g_neI ?_
  | with_reducible refine' g_eqS ?_
  | with_reducible refine' g_eqB ?_
  | with_reducible refine' g_neB ?_
  | with_reducible refine' g_test ?_
  | with_reducible refine' g_b ?_
  | with_reducible refine' g_bl ?_
  | with_reducible refine' g_and ?_
  | with_reducible refine' g_or ?_
  | with_reducible refine' g_not ?_
  | with_reducible refine' g_yes ?_
  | with_reducible refine' g_if ?_
  | with_reducible refine' g_andV ?_
  | with_reducible refine' g_orV ?_
  | with_reducible refine' g_notV ?_
  | with_reducible refine' g_call ?_
  | (with_reducible refine' g_lst ?_)
  | (with_reducible refine' g_tup ?_)
  | ((with_reducible refine' g_len ?k1 ?_); (case k1 => walk_at "lt"))
  | (with_reducible refine' g_un ?_)
  | (with_reducible refine' g_rU ?_)
  | with_reducible refine' g_isNr ?_
  | with_reducible refine' g_isNn ?_
  | with_reducible refine' g_isNi ?_
  | with_reducible refine' g_isNb ?_
  | with_reducible refine' g_isNs ?_
  | ((with_reducible refine' g_newL ?k1 ?_); (case k1 => (simp only [List.length_cons, List.length_nil, Nat.reduceAdd, Nat.reduceLeDiff])); intro p hp)
  | ((with_reducible refine' g_newT ?k1 ?_); (case k1 => (simp only [List.length_cons, List.length_nil, Nat.reduceAdd, Nat.reduceLeDiff])); intro p hp)
  | with_reducible refine' g_sl ?_
  | with_reducible refine' g_part ?_
  | with_reducible refine' g_partI ?_
  | with_reducible refine' g_noPart ?_
  | ((with_reducible refine' g_slL ?k1 ?_); (case k1 => walk_at "l"); intro p hp)
  | ((with_reducible refine' g_inI ?k1 ?_); (case k1 => walk_at "lt"))
  | ((with_reducible refine' g_notinI ?k1 ?_); (case k1 => walk_at "lt"))
  | ((with_reducible refine' g_cat ?k1 ?k2 ?k3 ?_); (case k1 => walk_at "h"); (case k2 => walk_at "h"); (case k3 => walk_at "len"); intro p hp)
  | ((with_reducible refine' g_list ?k1 ?_); (case k1 => walk_at "lt"); intro p hp)
  | ((with_reducible refine' g_tuple ?k1 ?_); (case k1 => walk_at "l"); intro p hp)
  | ((with_reducible refine' g_sum ?k1 ?_); (case k1 => walk_at "l"))
  | ((with_reducible refine' g_any ?k1 ?_); (case k1 => walk_at "l"))
  | ((with_reducible refine' g_all ?k1 ?_); (case k1 => walk_at "l"))
  | with_reducible refine' g_iEn2 ?_
  | with_reducible refine' g_iEnum ?_
  | ((with_reducible refine' g_en1 ?k1 ?_); (case k1 => walk_at "l"))
  | ((with_reducible refine' g_gTup ?k1 ?k2 ?_); (case k1 => walk_at "t"); (case k2 => rfl))
  | with_reducible refine' g_gCons ?_
  | with_reducible refine' g_gNil ?_
  | ((with_reducible refine' g_qix0 ?k1 ?_); (case k1 => walk_at "lt"))
  | ((with_reducible refine' g_qix1 ?k1 ?_); (case k1 => walk_at "lt"))
  | ((with_reducible refine' g_qix2 ?k1 ?_); (case k1 => walk_at "lt"))
  | ((with_reducible refine' g_qix3 ?k1 ?_); (case k1 => walk_at "lt"))
  | ((with_reducible refine' g_qix4 ?k1 ?_); (case k1 => walk_at "lt"))
  | ((with_reducible refine' g_qix5 ?k1 ?_); (case k1 => walk_at "lt"))
  | ((with_reducible refine' g_qix6 ?k1 ?_); (case k1 => walk_at "lt"))
  | ((with_reducible refine' g_qix7 ?k1 ?_); (case k1 => walk_at "lt"))
  | ((with_reducible refine' g_qix8 ?k1 ?_); (case k1 => walk_at "lt"))
  | ((with_reducible refine' g_qix9 ?k1 ?_); (case k1 => walk_at "lt"))
  | ((with_reducible refine' g_qix ?k1 ?k2 ?_); (case k1 => walk_at "lt"); (case k2 => walk_at "a"))
  | with_reducible refine' g_turn1 ?_
  | ((with_reducible refine' g_turnB ?k1 ?_); (case k1 => rfl))
  | with_reducible refine' g_turnCt ?_
  | with_reducible refine' g_aug ?_
  | with_reducible refine' g_ipI ?_
  | with_reducible refine' g_par ?_
  | with_reducible refine' g_parR ?_
  | with_reducible refine' g_par3 ?_
  | with_reducible refine' g_parR3 ?_
  | with_reducible refine' g_callN ?_
  | ((with_reducible refine' g_kArg ?k1 ?k2 ?k3 ?_); (case k1 => rfl); (case k2 => rfl); (case k3 => rfl))
  | with_reducible refine' g_bm ?_
  | ((with_reducible refine' g_bmL ?k1 ?_); (case k1 => walk_at "l"))
  | ((with_reducible refine' g_neDI ?k1 ?k2 ?_); (case k1 => walk_at "l"); (case k2 => walk_at "l"))
  | ((with_reducible refine' g_eqDI ?k1 ?k2 ?_); (case k1 => walk_at "l"); (case k2 => walk_at "l"))
  | with_reducible refine' g_ifT ?_
  | with_reducible refine' g_lstRg ?_
  | with_reducible refine' g_tRg1 ?_
  | with_reducible refine' g_rg1R ?_
  | ((with_reducible refine' g_rgNew ?_ ?_); (· (first | omega | (refine' And.intro ?_ (And.intro ?_ (And.intro ?_ ?_)) <;> omega))); intro p hp)
  | with_reducible refine' g_iZipA ?_
  | with_reducible refine' g_lc ?_
  | with_reducible refine' g_for ?_
  | with_reducible refine' g_iRng1 ?_
  | ((with_reducible refine' g_rng1 ?_ ?_); (· walk_at "c"))
  | with_reducible refine' g_iRng2 ?_
  | ((with_reducible refine' g_rng2 ?_ ?_); (· walk_at "c"))
  | with_reducible refine' g_iList ?_
  | ((with_reducible refine' g_lstR ?k1 ?_); (case k1 => walk_at "l"))
  | with_reducible refine' g_iTup ?_
  | ((with_reducible refine' g_tupR ?k1 ?_); (case k1 => walk_at "t"))
  | ((with_reducible refine' g_isi ?k1 ?k2 ?_); (case k1 => walk_at "ty"); (case k2 => walk_at "kb"))
  | ((with_reducible refine' g_isiT2 ?k1 ?k2 ?k3 ?k4 ?_); (case k1 => walk_at "h"); (case k2 => walk_at "ty"); (case k3 => walk_at "kb"); (case k4 => walk_at "kb"))
  | with_reducible refine' iteT ?_
  | with_reducible refine' iteF ?_
  | ((with_reducible refine' g_iteCT ?k1 ?_); (case k1 => decide))
  | ((with_reducible refine' g_iteCF ?k1 ?_); (case k1 => decide)))
local macro_rules | `(tactic| walk_at "s") => `(tactic| first
  | with_reducible refine' g_fld ?_
  | with_reducible refine' g_chain ?_
  | with_reducible refine' g_chR ?_
  | ((with_reducible refine' g_fldR ?k1 ?k2 ?k3 ?k4 ?_); (case k1 => walk_at "h"); (case k2 => (with_reducible assumption)); (case k3 => (with_reducible assumption)); (case k4 => rfl))
  | with_reducible refine' g_meth ?_
  | ((with_reducible refine' g_methR ?k1 ?k2 ?_); (case k1 => walk_at "h"); (case k2 => rfl))
  | with_reducible refine' g_sfld ?_
  | ((with_reducible refine' g_sfldR ?k1 ?k2 ?k3 ?k4 ?_); (case k1 => walk_at "h"); (case k2 => (with_reducible assumption)); (case k3 => (with_reducible assumption)); (case k4 => decide)))
local macro_rules | `(tactic| walk_at "a") => `(tactic| first
  | rfl
  | (with_reducible assumption))
local macro_rules | `(tactic| walk_at "go") => `(tactic| repeat walk_at "s")
local macro_rules | `(tactic| walk_at "chg") => `(tactic| first
  | with_reducible assumption
  | with_reducible exact Chg.refl
  | ((with_reducible refine' Chg.put ?_); walk_at "chg")
  | ((with_reducible refine' Chg.lay ?_ (by with_reducible assumption)); walk_at "chg")
  | ((with_reducible refine' Chg.putn ?_ (by with_reducible assumption)); walk_at "chg")
  | ((with_reducible refine' Chg.trans ?_ (sm_chg (by with_reducible assumption))); walk_at "chg")
  | ((with_reducible refine' Chg.trans ?_ (by with_reducible assumption)); walk_at "chg"))
local macro_rules | `(tactic| walk_at "len") => `(tactic| (first
  | omega
  | ((try simp only [List.length_map, List.length_cons, List.length_nil, List.length_append, List.length_range]); omega)))

def topS (i : Nat) : Stmt := PySem.Challenge.pw_answersalone_k01_tables_by_hand.main.body.getD i (.Pass ⟨0, 0, 0, 0⟩)
abbrev s_times : Stmt := topS 1
abbrev N_times : List Str := ["table", "row", "line"]
abbrev P_times : List Str := ["table", "row"]
theorem sc_times : FnScope N_times P_times (defScope s_times) :=
  ⟨rfl, rfl, rfl, by decide +kernel, rfl, by decide +kernel, by decide +kernel⟩
abbrev s_added : Stmt := topS 2
abbrev N_added : List Str := ["one", "other", "first", "second"]
abbrev P_added : List Str := ["one", "other"]
theorem sc_added : FnScope N_added P_added (defScope s_added) :=
  ⟨rfl, rfl, rfl, by decide +kernel, rfl, by decide +kernel, by decide +kernel⟩
abbrev s_cut : Stmt := topS 3
abbrev N_cut : List Str := ["row", "cap", "number"]
abbrev P_cut : List Str := ["row", "cap"]
theorem sc_cut : FnScope N_cut P_cut (defScope s_cut) :=
  ⟨rfl, rfl, rfl, by decide +kernel, rfl, by decide +kernel, by decide +kernel⟩
abbrev s_dot : Stmt := topS 4
abbrev N_dot : List Str := ["one", "other", "first", "second"]
abbrev P_dot : List Str := ["one", "other"]
theorem sc_dot : FnScope N_dot P_dot (defScope s_dot) :=
  ⟨rfl, rfl, rfl, by decide +kernel, rfl, by decide +kernel, by decide +kernel⟩
abbrev s_raised : Stmt := topS 5
abbrev N_raised : List Str := ["row", "number"]
abbrev P_raised : List Str := ["row"]
theorem sc_raised : FnScope N_raised P_raised (defScope s_raised) :=
  ⟨rfl, rfl, rfl, by decide +kernel, rfl, by decide +kernel, by decide +kernel⟩
abbrev s__law_bag : Stmt := topS 7
abbrev N__law_bag : List Str := ["script", "mix", "item"]
abbrev P__law_bag : List Str := ["script"]
theorem sc__law_bag : FnScope N__law_bag P__law_bag (defScope s__law_bag) :=
  ⟨rfl, rfl, rfl, by decide +kernel, rfl, by decide +kernel, by decide +kernel⟩
abbrev s__law_draw : Stmt := topS 8
abbrev N__law_draw : List Str := ["bag", "size", "item", "digit"]
abbrev P__law_draw : List Str := ["bag", "size"]
theorem sc__law_draw : FnScope N__law_draw P__law_draw (defScope s__law_draw) :=
  ⟨rfl, rfl, rfl, by decide +kernel, rfl, by decide +kernel, by decide +kernel⟩
abbrev s__law_of : Stmt := topS 9
abbrev N__law_of : List Str := ["bag", "things"]
abbrev P__law_of : List Str := ["bag", "things"]
theorem sc__law_of : FnScope N__law_of P__law_of (defScope s__law_of) :=
  ⟨rfl, rfl, rfl, by decide +kernel, rfl, by decide +kernel, by decide +kernel⟩
abbrev s__law_like : Stmt := topS 10
abbrev N__law_like : List Str := ["told", "due", "a", "b"]
abbrev P__law_like : List Str := ["told", "due"]
theorem sc__law_like : FnScope N__law_like P__law_like (defScope s__law_like) :=
  ⟨rfl, rfl, rfl, by decide +kernel, rfl, by decide +kernel, by decide +kernel⟩
abbrev s__law_row : Stmt := topS 11
abbrev N__law_row : List Str := ["bag", "width", "wide", "k"]
abbrev P__law_row : List Str := ["bag", "width", "wide"]
theorem sc__law_row : FnScope N__law_row P__law_row (defScope s__law_row) :=
  ⟨rfl, rfl, rfl, by decide +kernel, rfl, by decide +kernel, by decide +kernel⟩
abbrev s__law_numbers : Stmt := topS 12
abbrev N__law_numbers : List Str := ["bag", "width", "wide", "lot"]
abbrev P__law_numbers : List Str := ["bag", "width"]
theorem sc__law_numbers : FnScope N__law_numbers P__law_numbers (defScope s__law_numbers) :=
  ⟨rfl, rfl, rfl, by decide +kernel, rfl, by decide +kernel, by decide +kernel⟩
abbrev s__law_passed : Stmt := topS 13
abbrev N__law_passed : List Str := ["bag", "lot"]
abbrev P__law_passed : List Str := ["bag", "lot"]
theorem sc__law_passed : FnScope N__law_passed P__law_passed (defScope s__law_passed) :=
  ⟨rfl, rfl, rfl, by decide +kernel, rfl, by decide +kernel, by decide +kernel⟩
abbrev s__law_by_columns : Stmt := topS 14
abbrev N__law_by_columns : List Str := ["grid", "lot", "found", "k", "j", "i"]
abbrev P__law_by_columns : List Str := ["grid", "lot"]
theorem sc__law_by_columns : FnScope N__law_by_columns P__law_by_columns (defScope s__law_by_columns) :=
  ⟨rfl, rfl, rfl, by decide +kernel, rfl, by decide +kernel, by decide +kernel⟩
abbrev s__law_cut : Stmt := topS 15
abbrev N__law_cut : List Str := ["lot", "limit", "found", "n"]
abbrev P__law_cut : List Str := ["lot", "limit"]
theorem sc__law_cut : FnScope N__law_cut P__law_cut (defScope s__law_cut) :=
  ⟨rfl, rfl, rfl, by decide +kernel, rfl, by decide +kernel, by decide +kernel⟩
abbrev s__law_sums_so : Stmt := topS 16
abbrev N__law_sums_so : List Str := ["bag", "x", "y", "rows", "limit", "width", "due", "lot", "both", "k", "product", "upper", "n"]
abbrev P__law_sums_so : List Str := ["bag", "x", "y", "rows", "limit"]
theorem sc__law_sums_so : FnScope N__law_sums_so P__law_sums_so (defScope s__law_sums_so) :=
  ⟨rfl, rfl, rfl, by decide +kernel, rfl, by decide +kernel, by decide +kernel⟩
abbrev s__law_rules_so : Stmt := topS 17
abbrev N__law_rules_so : List Str := ["bag", "x", "y", "rows", "limit", "width", "front", "two", "lesser", "less", "n", "unit", "j", "i", "k"]
abbrev P__law_rules_so : List Str := ["bag", "x", "y", "rows", "limit"]
theorem sc__law_rules_so : FnScope N__law_rules_so P__law_rules_so (defScope s__law_rules_so) :=
  ⟨rfl, rfl, rfl, by decide +kernel, rfl, by decide +kernel, by decide +kernel⟩
abbrev s_law : Stmt := topS 18
abbrev N_law : List Str := ["script", "bag", "lap", "width", "x", "y", "rows", "k", "limit", "first", "second", "third", "lot", "kept", "due", "n"]
abbrev P_law : List Str := ["script"]
theorem sc_law : FnScope N_law P_law (defScope s_law) :=
  ⟨rfl, rfl, rfl, by decide +kernel, rfl, by decide +kernel, by decide +kernel⟩

/-- the bag of a law -/
def Bag (H : Hp) (a l : Addr) : Prop := ∃ (ns : List Int) (i g m c : Int),
  H a = some (.lst [.ref l, .int i, .int g, .int m, .int c]) ∧ H l = some (.lst (ns.map V.int)) ∧ l ≠ a ∧
  0 ≤ i ∧ 0 ≤ g ∧ 0 ≤ m ∧ m < 2147483629 ∧ 0 ≤ c

structure Top (K : PySem.W.Frag) (mg : Str → Option Value) : Prop where
  f_times : ∃ (f : Addr) (fd : FuncData), FunD K "times" "times" (defArgs s_times) (defBody s_times) (defScope s_times) [] [] f fd ∧ mg "times" = some (.ref f)
  f_added : ∃ (f : Addr) (fd : FuncData), FunD K "added" "added" (defArgs s_added) (defBody s_added) (defScope s_added) [] [] f fd ∧ mg "added" = some (.ref f)
  f_cut : ∃ (f : Addr) (fd : FuncData), FunD K "cut" "cut" (defArgs s_cut) (defBody s_cut) (defScope s_cut) [] [] f fd ∧ mg "cut" = some (.ref f)
  f_dot : ∃ (f : Addr) (fd : FuncData), FunD K "dot" "dot" (defArgs s_dot) (defBody s_dot) (defScope s_dot) [] [] f fd ∧ mg "dot" = some (.ref f)
  f_raised : ∃ (f : Addr) (fd : FuncData), FunD K "raised" "raised" (defArgs s_raised) (defBody s_raised) (defScope s_raised) [] [] f fd ∧ mg "raised" = some (.ref f)
  f__law_bag : ∃ (f : Addr) (fd : FuncData), FunD K "_law_bag" "_law_bag" (defArgs s__law_bag) (defBody s__law_bag) (defScope s__law_bag) [] [] f fd ∧ mg "_law_bag" = some (.ref f)
  f__law_draw : ∃ (f : Addr) (fd : FuncData), FunD K "_law_draw" "_law_draw" (defArgs s__law_draw) (defBody s__law_draw) (defScope s__law_draw) [] [] f fd ∧ mg "_law_draw" = some (.ref f)
  f__law_of : ∃ (f : Addr) (fd : FuncData), FunD K "_law_of" "_law_of" (defArgs s__law_of) (defBody s__law_of) (defScope s__law_of) [] [] f fd ∧ mg "_law_of" = some (.ref f)
  f__law_like : ∃ (f : Addr) (fd : FuncData), FunD K "_law_like" "_law_like" (defArgs s__law_like) (defBody s__law_like) (defScope s__law_like) [] [] f fd ∧ mg "_law_like" = some (.ref f)
  f__law_row : ∃ (f : Addr) (fd : FuncData), FunD K "_law_row" "_law_row" (defArgs s__law_row) (defBody s__law_row) (defScope s__law_row) [] [] f fd ∧ mg "_law_row" = some (.ref f)
  f__law_numbers : ∃ (f : Addr) (fd : FuncData), FunD K "_law_numbers" "_law_numbers" (defArgs s__law_numbers) (defBody s__law_numbers) (defScope s__law_numbers) [] [] f fd ∧ mg "_law_numbers" = some (.ref f)
  f__law_passed : ∃ (f : Addr) (fd : FuncData), FunD K "_law_passed" "_law_passed" (defArgs s__law_passed) (defBody s__law_passed) (defScope s__law_passed) [] [] f fd ∧ mg "_law_passed" = some (.ref f)
  f__law_by_columns : ∃ (f : Addr) (fd : FuncData), FunD K "_law_by_columns" "_law_by_columns" (defArgs s__law_by_columns) (defBody s__law_by_columns) (defScope s__law_by_columns) [] [] f fd ∧ mg "_law_by_columns" = some (.ref f)
  f__law_cut : ∃ (f : Addr) (fd : FuncData), FunD K "_law_cut" "_law_cut" (defArgs s__law_cut) (defBody s__law_cut) (defScope s__law_cut) [] [] f fd ∧ mg "_law_cut" = some (.ref f)
  f__law_sums_so : ∃ (f : Addr) (fd : FuncData), FunD K "_law_sums_so" "_law_sums_so" (defArgs s__law_sums_so) (defBody s__law_sums_so) (defScope s__law_sums_so) [] [] f fd ∧ mg "_law_sums_so" = some (.ref f)
  f__law_rules_so : ∃ (f : Addr) (fd : FuncData), FunD K "_law_rules_so" "_law_rules_so" (defArgs s__law_rules_so) (defBody s__law_rules_so) (defScope s__law_rules_so) [] [] f fd ∧ mg "_law_rules_so" = some (.ref f)
  f_law : ∃ (f : Addr) (fd : FuncData), FunD K "law" "law" (defArgs s_law) (defBody s_law) (defScope s_law) [] [] f fd ∧ mg "law" = some (.ref f)
  z_tuple : mg "tuple" = none
  z_zip : mg "zip" = none
  z_max : mg "max" = none
  z_min : mg "min" = none
  z_sum : mg "sum" = none
  z_list : mg "list" = none
  z_int : mg "int" = none
  z_len : mg "len" = none
  z_isinstance : mg "isinstance" = none
  z_all : mg "all" = none
  z_bool : mg "bool" = none
  z_str : mg "str" = none
  z_range : mg "range" = none
section
variable {P : Program} {w : World} {K : PySem.W.Frag} {mg : Str → Option Value} {base : Heap}
def spDraw (B : Int) : Sp := fun vs H Q _ => ∃ (a l : Addr) (size : Int), vs = [.ref a, .int size] ∧ Bag H a l ∧ 1 ≤ size ∧ size ≤ B ∧
  ∀ (r : Int) (H' : Hp), 0 ≤ r → r < size → Bag H' a l → Chg a H H' → Q (.int r) H'
theorem ok_draw1 {f : Addr} {fd : FuncData} (T : Top K mg) (F : FunD K "_law_draw" "_law_draw" (defArgs s__law_draw) (defBody s__law_draw) (defScope s__law_draw) [] [] f fd) :
    FnOk P w K mg base CX0 1 f fd P__law_draw (spDraw 1000000) := by
  refine F.ok sc__law_draw (fun vs H Q E h => ?_) (fun cdv A outer s H vs Q E hr h => ?_)
  · obtain ⟨a, l, size, rfl, _⟩ := h
    rfl
  · obtain ⟨a, l, size, rfl, ⟨ns, i, g, m, c, hB, hl, hla, hi, hg, hm, hm', hc⟩, h1, h2, q⟩ := h
    refine ⟨_, PSs.nox (C8.pss_cut (ps_asg (pe_op op_add (pe_ix (k_ix (K := K) (by rfl)) (pv 0) pe_int (fun _ _ => rfl)) pe_int) (pg_sub (pv 0) pe_int set_list))
    (C8.pss_cut (ps_if (PW.pt (pw_and (pt_cmpR op_eq (pe_ix (k_ix (K := K) (by rfl)) (pv 0) pe_int (fun _ _ => rfl)) pe_int (nomark _)) (pw_and1 (pt_cmpR op_lt (pe_ix (k_ix (K := K) (by rfl)) (pv 0) pe_int (fun _ _ => rfl)) (pe_callB (k_len (K := K) (by rfl)) (by rfl) T.z_len (by decide +kernel) (pa_cons (pe_ix (k_ix (K := K) (by rfl)) (pv 0) pe_int (fun _ _ => rfl)) pa_nil)) (nomark _)))))
    (pss_cons (ps_set (i := 2) sc__law_draw.nd rfl (by first | exact Or.inl rfl | exact Or.inr rfl) (pe_ix (k_ix (K := K) (by rfl)) (pe_ix (k_ix (K := K) (by rfl)) (pv 0) pe_int (fun _ _ => rfl)) (pe_ix (k_ix (K := K) (by rfl)) (pv 0) pe_int (fun _ _ => rfl)) (fun _ _ => rfl)))
    (pss_cons (ps_asg (pe_op op_add (pe_ix (k_ix (K := K) (by rfl)) (pv 0) pe_int (fun _ _ => rfl)) pe_int) (pg_sub (pv 0) pe_int set_list))
    (pss_one (ps_if (pt_cmpR op_ge (pv 2) (pe_op op_pow pe_int pe_int) (nomark _))
    (pss_one (ps_asg (pv 2) (pg_sub (pv 0) pe_int set_list)))
    (pss_one (ps_asg (pe_op op_mod (pe_callTy c_int (by rfl) T.z_int (by decide +kernel) (pa_cons (pe_op op_add (pe_op op_add (pe_op op_mul (pe_ix (k_ix (K := K) (by rfl)) (pv 0) pe_int (fun _ _ => rfl)) pe_int) (pe_op op_mul (pe_op op_mod (pe_callTy c_int (by rfl) T.z_int (by decide +kernel) (pa_cons (pv 2) pa_nil)) pe_int) pe_int)) pe_int) pa_nil)) pe_int) (pg_sub (pv 0) pe_int set_list)))))))
    pss_nil)
    (pss_cons (ps_if (pt_cmpR op_gt (pe_ix (k_ix (K := K) (by rfl)) (pv 0) pe_int (fun _ _ => rfl)) pe_int (nomark _))
    (pss_cons (ps_set (i := 3) sc__law_draw.nd rfl (by first | exact Or.inl rfl | exact Or.inr rfl) (pe_op op_mod (pe_callTy c_int (by rfl) T.z_int (by decide +kernel) (pa_cons (pe_ix (k_ix (K := K) (by rfl)) (pv 0) pe_int (fun _ _ => rfl)) pa_nil)) (pv 1)))
    (pss_cons (ps_asg (pe_op op_fdivW (pe_ix (k_ix (K := K) (by rfl)) (pv 0) pe_int (fun _ _ => rfl)) (pv 1)) (pg_sub (pv 0) pe_int set_list))
    (pss_one (ps_ret (pv 3)))))
    pss_nil)
    (pss_cons (ps_if (pt_cmpR op_gt (pv 1) (pe_op op_pow pe_int pe_int) (nomark _))
    pss_never
    pss_nil)
    (pss_cons (ps_asg (pe_op op_mod (pe_callTy c_int (by rfl) T.z_int (by decide +kernel) (pa_cons (pe_op op_add (pe_op op_add (pe_op op_pow (pe_ix (k_ix (K := K) (by rfl)) (pv 0) pe_int (fun _ _ => rfl)) pe_int) (pe_op op_mul (pe_ix (k_ix (K := K) (by rfl)) (pv 0) pe_int (fun _ _ => rfl)) pe_int)) pe_int) pa_nil)) pe_int) (pg_sub (pv 0) pe_int set_list))
    (pss_one (ps_ret (pe_op op_mod (pe_callTy c_int (by rfl) T.z_int (by decide +kernel) (pa_cons (pe_op op_add (pe_op op_fdivW (pe_ix (k_ix (K := K) (by rfl)) (pv 0) pe_int (fun _ _ => rfl)) pe_int) (pe_op op_mul (pe_op op_mod (pe_callTy c_int (by rfl) T.z_int (by decide +kernel) (pa_cons (pe_ix (k_ix (K := K) (by rfl)) (pv 0) pe_int (fun _ _ => rfl)) pa_nil)) pe_int) pe_int)) pa_nil)) (pv 1))))))))), ?_⟩
    try simp only [cxK]
    rw [show L2.start N__law_draw [V.ref a, V.int size] = [some (.ref a), some (.int size), none, none] from rfl]
    refine g_cut (fun σ' H' => σ' = [some (.ref a), some (.int size), none, none] ∧ ∃ c', H' = upd H a (.lst [V.ref l, V.int i, V.int g, V.int m, V.int c']) ∧ 0 ≤ c') ?_ ?_
    · walk_at "go"
      exact ⟨rfl, _, rfl, by omega⟩
    rintro σ' H' ⟨rfl, c', rfl, hc'⟩
    refine g_cut (fun σ' H' => ∃ x2, σ' = [some (.ref a), some (.int size), x2, none] ∧ ∃ i' g' m', H' a = some (.lst [V.ref l, V.int i', V.int g', V.int m', V.int c']) ∧
      0 ≤ i' ∧ 0 ≤ g' ∧ 0 ≤ m' ∧ m' < 2147483629 ∧ Chg a H H') ?_ ?_
    · walk_at "go"
      refine g_iteD (fun h3 => ?_) (fun h3 => ?_)
      · walk_at "go"
        refine g_iteD (fun h4 => ?_) (fun h4 => ?_)
        · have e : atI (ns.map V.int) i = some (.int (ns.getD i.toNat 0)) := by
            have z := atI_nat (xs := ns.map V.int) (j := i.toNat) (v := .int (ns.getD i.toNat 0)) (by
              rw [List.getElem?_map, List.getD_eq_getElem?_getD, List.getElem?_eq_getElem (by rw [List.length_map] at h4; omega)]; rfl)
            rwa [Int.toNat_of_nonneg hi] at z
          walk_at "go"
          refine g_iteD (fun h5 => ?_) (fun h5 => ?_)
          · walk_at "go"
            exact ⟨_, rfl, _, _, _, by walk_at "h", by omega, by omega, hm, hm', by walk_at "chg"⟩
          · walk_at "go"
            exact ⟨_, rfl, _, _, _, by walk_at "h", by omega, by omega, by omega, by omega, by walk_at "chg"⟩
        · walk_at "go"
          exact ⟨_, rfl, i, g, m, by walk_at "h", hi, hg, hm, hm', by walk_at "chg"⟩
      · walk_at "go"
        exact ⟨_, rfl, i, g, m, by walk_at "h", hi, hg, hm, hm', by walk_at "chg"⟩
    rintro σ' H' ⟨x2, rfl, i', g', m', hB', hi', hg', hm1, hm2, ch⟩
    have hl' : H' l = some (HO.lst (List.map V.int ns)) := by walk_at "h"
    walk_at "go"
    refine g_iteD (fun h3 => ?_) (fun h3 => ?_)
    · have hs : 0 < size := by omega
      have hd : CDivW g' size := wide_div (b := 200) hs (Nat.lt_of_le_of_lt (m := 100000000000000000000000000000000000000000) (by omega) (by decide)) (by decide) (by decide)
      walk_at "go"
      exact q _ _ (Int.emod_nonneg _ (by omega)) (Int.emod_lt_of_pos _ (by omega))
        ⟨ns, _, _, _, _, by walk_at "h", by walk_at "h", hla, hi', Int.ediv_nonneg hg' (by omega), hm1, hm2, hc'⟩ (by walk_at "chg")
    · have hs : 0 < size := by omega
      walk_at "go"
      refine g_iteX (by omega) ?_
      walk_at "go"
      exact q _ _ (Int.emod_nonneg _ (by omega)) (Int.emod_lt_of_pos _ (by omega))
        ⟨ns, _, _, _, _, by walk_at "h", by walk_at "h", hla, hi', hg', by omega, by omega, hc'⟩ (by walk_at "chg")

theorem c_draw1 (T : Top K mg) : Cal P w K mg base "_law_draw" 1 P__law_draw (spDraw 1000000) := cal_mk T.f__law_draw (ok_draw1 T) (fun F => F.bindsN fun _ _ _ _ _ _ us hl => match us, hl with | [_, _], _ => rfl)
end

set_option Elab.async false
set_option linter.all false
set_option maxRecDepth 100000
set_option maxHeartbeats 4000000
open PySem PySem.Spec L2

section
variable {P : Program} {w : World} {K : PySem.W.Frag} {mg : Str → Option Value} {base : Heap}

abbrev FnP (K : PySem.W.Frag) (x : Str) (st : Stmt) (f : Addr) (fd : FuncData) : Prop := FunD K x x (defArgs st) (defBody st) (defScope st) [] [] f fd
/-! _law_like of equal data -/
theorem dp_same {H H' : Hp} (s : Same H H') : ∀ {v : V} {d : PyData}, Dp K H v d → Dp K H' v d := by
  intro v d h
  exact Dp.rec (motive_1 := fun v d _ => Dp K H' v d) (motive_2 := fun vs ds _ => DpAll K H' vs ds) .non (fun b => .bl b) (fun i => .int i) (fun x => .str x)
    (fun h1 _ ih => .lst (s.seq h1) ih) (fun h1 _ ih => .tup (seqT_same s h1) ih) .nil (fun _ _ i1 i2 => .cons i1 i2) h
theorem dpAll_len {H : Hp} : ∀ {vs : List V} {ds : List PyData}, DpAll K H vs ds → vs.length = ds.length
  | _, _, .nil => rfl
  | _, _, .cons _ h => congrArg Nat.succ (dpAll_len h)
theorem dpAll_at {H : Hp} : ∀ {vs : List V} {ds : List PyData} {i : Nat} {v : V}, DpAll K H vs ds → vs[i]? = some v → ∃ d, ds[i]? = some d ∧ Dp K H v d
  | _, _, i, v, .nil, e => by simp at e
  | _, _, 0, v, .cons (d := d) h _, e => ⟨d, rfl, by
      obtain rfl := Option.some.inj e
      exact h⟩
  | _, _, i + 1, v, .cons _ h, e => dpAll_at (i := i) h e
theorem all_rep (n : Nat) : (List.replicate n true).all id = true := by
  induction n with
  | zero => rfl
  | succ n ih => rw [List.replicate_succ, List.all_cons, ih]; rfl
mutual
def smallD : PyData → Bool
  | .list xs => decide (xs.length ≤ 1000) && smallAll xs
  | .tuple xs => decide (xs.length ≤ 1000) && smallAll xs
  | _ => true
def smallAll : List PyData → Bool
  | [] => true
  | x :: xs => smallD x && smallAll xs
end
theorem smallAll_mem : ∀ {xs : List PyData} {x : PyData}, smallAll xs = true → x ∈ xs → smallD x = true
  | y :: ys, x, h, m => by
    have h2 : (smallD y && smallAll ys) = true := h
    rw [Bool.and_eq_true] at h2
    rcases List.mem_cons.mp m with e | m
    · rw [e]; exact h2.1
    · exact smallAll_mem h2.2 m
def spLike (K : PySem.W.Frag) (n : Nat) : Sp := fun vs H Q _ => ∃ (x y : V) (d : PyData), vs = [x, y] ∧ Dp K H x d ∧ Dp K H y d ∧ d.depth ≤ n ∧ smallD d = true ∧ ∀ H', Same H H' → Q (.bl true) H'
theorem g_likeD {n : Nat} {x y : V} {d : PyData} {H : Hp} {Q : VK} {E : XK} (h1 : Dp K H x d) (h2 : Dp K H y d) (hd : d.depth ≤ n) (hs : smallD d = true) (q : ∀ H', Same H H' → Q (.bl true) H') : spLike K n [x, y] H Q E := ⟨x, y, d, rfl, h1, h2, hd, hs, q⟩
theorem ok_like {n : Nat} {f : Addr} {fd : FuncData} (T : Top K mg) (C__law_like : Cal P w K mg base "_law_like" (n + 1) P__law_like (spLike K n)) (F : FnP K "_law_like" s__law_like f fd) :
    FnOk P w K mg base CX0 (n + 2) f fd P__law_like (spLike K (n + 1)) := by
  refine F.ok sc__law_like (fun vs H Q E h => ?_) (fun cdv A outer s H vs Q E hr h => ?_)
  · obtain ⟨x, y, d, rfl, _⟩ := h
    rfl
  · obtain ⟨x, y, d, rfl, hx, hy, hd, hs, q⟩ := h
    refine ⟨_, PSs.nox (pss_cons (ps_if (pt_val (pe_callB (k_isiT (K := K) (by rfl)) (by rfl) T.z_isinstance (by decide +kernel) (pa_cons (pv 1) (pa_cons (pe_tup (pa_cons (pe_bltn (v := .ty "list") (u := .type "list") (by rfl) T.z_list (by decide +kernel) rfl) (pa_cons (pe_bltn (v := .ty "tuple") (u := .type "tuple") (by rfl) T.z_tuple (by decide +kernel) rfl) pa_nil))) pa_nil))))
    (pss_cons (ps_if (PW.pt (pw_or (pt_cmpR op_ne (pe_callB (k_isi (K := K) (by rfl)) (by rfl) T.z_isinstance (by decide +kernel) (pa_cons (pv 0) (pa_cons (pe_bltn (v := .ty "list") (u := .type "list") (by rfl) T.z_list (by decide +kernel) rfl) pa_nil))) (pe_callB (k_isi (K := K) (by rfl)) (by rfl) T.z_isinstance (by decide +kernel) (pa_cons (pv 1) (pa_cons (pe_bltn (v := .ty "list") (u := .type "list") (by rfl) T.z_list (by decide +kernel) rfl) pa_nil))) (nomark _)) (pw_or1 (pt_cmpR op_ne (pe_callB (k_isi (K := K) (by rfl)) (by rfl) T.z_isinstance (by decide +kernel) (pa_cons (pv 0) (pa_cons (pe_bltn (v := .ty "tuple") (u := .type "tuple") (by rfl) T.z_tuple (by decide +kernel) rfl) pa_nil))) (pe_callB (k_isi (K := K) (by rfl)) (by rfl) T.z_isinstance (by decide +kernel) (pa_cons (pv 1) (pa_cons (pe_bltn (v := .ty "tuple") (u := .type "tuple") (by rfl) T.z_tuple (by decide +kernel) rfl) pa_nil))) (nomark _)))))
    (pss_one (ps_ret pe_bl))
    pss_nil)
    (pss_one (ps_ret (pe_and (pe_cmpR op_eq (pe_callB (k_len (K := K) (by rfl)) (by rfl) T.z_len (by decide +kernel) (pa_cons (pv 0) pa_nil)) (pe_callB (k_len (K := K) (by rfl)) (by rfl) T.z_len (by decide +kernel) (pa_cons (pv 1) pa_nil)) (nomark _)) (pe_one (pe_callB (k_all (K := K) (by rfl) (by rfl)) (by rfl) T.z_all (by decide +kernel) (pa_cons (pe_lc (own := [("a", 2), ("b", 3)]) (g := gTup K 2 (gCons (gName 2) (gCons (gName 3) gNil))) (by rfl) sc__law_like.nd (k_zip (K := K) (by rfl) (by rfl) T.z_zip (pa_cons (pv 0) (pa_cons (pv 1) pa_nil))) (blkOk_by (own := [("a", 2), ("b", 3)]) (N := N__law_like) (sc := defScope s__law_like) (by decide +kernel)) (fun _ _ _ _ _ => (k_pgt (K := K) (n := 2) (by rfl) (by rfl) (pgs_cons (pg_name (i := 2) sc__law_like.nd rfl (Or.inl rfl)) (pgs_cons (pg_name (i := 3) sc__law_like.nd rfl (Or.inl rfl)) pgs_nil)) (by rfl) (by rfl))) (fun _ _ _ _ _ => pts_nil) (fun _ _ _ _ _ => (pe_cal C__law_like (hr.mono (by first | decide | omega)) (by rfl) (pa_cons (pv 2) (pa_cons (pv 3) pa_nil))))) pa_nil)))))))
    pss_nil)
    (pss_cons (ps_if (PW.pt (pw_or (pt_cmpR o_isN (pv 1) pe_non (nomark _)) (pw_or1 (pt_cmpR o_isN (pv 0) pe_non (nomark _)))))
    (pss_one (ps_ret (pe_and (pe_cmpR o_isN (pv 1) pe_non (nomark _)) (pe_one (pe_cmpR o_isN (pv 0) pe_non (nomark _))))))
    pss_nil)
    (pss_cons (ps_if (PW.pt (pw_or (pt_val (pe_callB (k_isiT (K := K) (by rfl)) (by rfl) T.z_isinstance (by decide +kernel) (pa_cons (pv 0) (pa_cons (pe_tup (pa_cons (pe_bltn (v := .ty "list") (u := .type "list") (by rfl) T.z_list (by decide +kernel) rfl) (pa_cons (pe_bltn (v := .ty "tuple") (u := .type "tuple") (by rfl) T.z_tuple (by decide +kernel) rfl) pa_nil))) pa_nil)))) (pw_or1 (pt_cmpR op_ne (pe_callB (k_isi (K := K) (by rfl)) (by rfl) T.z_isinstance (by decide +kernel) (pa_cons (pv 0) (pa_cons (pe_bltn (v := .ty "bool") (u := .type "bool") (by rfl) T.z_bool (by decide +kernel) rfl) pa_nil))) (pe_callB (k_isi (K := K) (by rfl)) (by rfl) T.z_isinstance (by decide +kernel) (pa_cons (pv 1) (pa_cons (pe_bltn (v := .ty "bool") (u := .type "bool") (by rfl) T.z_bool (by decide +kernel) rfl) pa_nil))) (nomark _)))))
    (pss_one (ps_ret pe_bl))
    pss_nil)
    (pss_cons (ps_if (PW.pt (pw_or (pt_cmpR op_ne (pe_callB (k_isi (K := K) (by rfl)) (by rfl) T.z_isinstance (by decide +kernel) (pa_cons (pv 0) (pa_cons (pe_bltn (v := .ty "str") (u := .type "str") (by rfl) T.z_str (by decide +kernel) rfl) pa_nil))) (pe_callB (k_isi (K := K) (by rfl)) (by rfl) T.z_isinstance (by decide +kernel) (pa_cons (pv 1) (pa_cons (pe_bltn (v := .ty "str") (u := .type "str") (by rfl) T.z_str (by decide +kernel) rfl) pa_nil))) (nomark _)) (pw_or1 (pt_cmpR op_ne (pe_callB (k_isi (K := K) (by rfl)) (by rfl) T.z_isinstance (by decide +kernel) (pa_cons (pv 0) (pa_cons (pe_bltn (v := .ty "int") (u := .type "int") (by rfl) T.z_int (by decide +kernel) rfl) pa_nil))) (pe_callB (k_isi (K := K) (by rfl)) (by rfl) T.z_isinstance (by decide +kernel) (pa_cons (pv 1) (pa_cons (pe_bltn (v := .ty "int") (u := .type "int") (by rfl) T.z_int (by decide +kernel) rfl) pa_nil))) (nomark _)))))
    (pss_one (ps_ret pe_bl))
    pss_nil)
    (pss_one (ps_ret (pe_cmpR op_eq (pv 0) (pv 1) (nomark _)))))))), ?_⟩
    rw [show L2.start N__law_like [x, y] = [some x, some y, none, none] from rfl]
    cases d with
    | none =>
      cases hx
      cases hy
      walk_at "go"
      exact q _ (same_new (by assumption))
    | bool b =>
      cases hx
      cases hy
      walk_at "go"
      rw [decide_eq_true rfl]
      exact q _ ((same_new (by assumption)).trans (same_new (by assumption)))
    | int b =>
      cases hx
      cases hy
      walk_at "go"
      rw [decide_eq_true rfl]
      exact q _ ((same_new (by assumption)).trans (same_new (by assumption)))
    | str b =>
      cases hx
      cases hy
      walk_at "go"
      rw [decide_eq_true rfl]
      exact q _ ((same_new (by assumption)).trans (same_new (by assumption)))
    | dict kvs => cases hx
    | list ds =>
      cases hx with
      | @lst a xs _ ha hda =>
        cases hy with
        | @lst b ys _ hb hdb =>
          walk_at "go"
          rename_i pt hpt
          have hl : xs.length = ys.length := (dpAll_len hda).trans (dpAll_len hdb).symm
          have hs2 : (decide (ds.length ≤ 1000) && smallAll ds) = true := hs
          rw [Bool.and_eq_true] at hs2
          have hl2 : ds.length ≤ 1000 := of_decide_eq_true hs2.1
          have hl3 := dpAll_len hda
          have hdep : PyData.depthAll ds + 1 ≤ n + 1 := hd
          refine g_iteY (by omega) ?_
          walk_at "go"
          refine g_zipL (by walk_at "l") (by walk_at "l") ?_
          have s1 : Same H (upd H pt (.tup [V.ty "list", V.ty "tuple"])) := same_new hpt
          generalize upd H pt (.tup [V.ty "list", V.ty "tuple"]) = H1 at s1 ⊢
          refine lcZ hl (σ0 := [some (.ref a), some (.ref b), none, none]) rfl fun D hD => ⟨fun i H' => H' D = some (.lst ((List.replicate i true).map V.bl)) ∧ Chg D H1 H', ⟨upd_same, Chg.upd⟩, ?_, ?_, ?_⟩
          · rintro i H' ⟨e1, c1⟩
            have s := s1.trans (chg_same c1 hD)
            exact ⟨sqL_sm s ha, sqL_sm s hb⟩
          · rintro i x y T H' hx hy ⟨e1, c1⟩ hT
            obtain ⟨d1, hd1, px⟩ := dpAll_at hda hx
            obtain ⟨d2, hd2, py⟩ := dpAll_at hdb hy
            obtain rfl : d1 = d2 := Option.some.inj (hd1.symm.trans hd2)
            have s2 : Same H (upd H' T (.tup [x, y])) := (s1.trans (chg_same c1 hD)).trans (same_new hT)
            have hlt : i < xs.length := (List.getElem?_eq_some_iff.mp hx).1
            have mem := List.mem_of_getElem? hd1
            have nT : T ≠ D := Ne.symm (ne_of_none e1 hT)
            walk_at "go"
            refine g_likeD (dp_same s2 px) (dp_same s2 py) (by have := PyData.depth_le_depthAll ds d1 mem; omega) (smallAll_mem hs2.2 mem) fun H3 s3 => ?_
            have e3 : H3 D = some (.lst ((List.replicate i true).map V.bl)) := by walk_at "h"
            refine g_turnD e3 (by rw [List.length_map, List.length_replicate]; omega) ⟨?_, by walk_at "chg"⟩
            rw [upd_same, List.replicate_succ', List.map_append]
            rfl
          · rintro H' ⟨e1, c1⟩
            walk_at "go"
            rw [all_rep]
            exact q _ (s1.trans (chg_same c1 hD))

    | tuple ds =>
      cases hx with
      | @tup a xs _ ha hda =>
        cases hy with
        | @tup b ys _ hb hdb =>
          walk_at "go"
          rename_i pt hpt
          have hl : xs.length = ys.length := (dpAll_len hda).trans (dpAll_len hdb).symm
          have hs2 : (decide (ds.length ≤ 1000) && smallAll ds) = true := hs
          rw [Bool.and_eq_true] at hs2
          have hl2 : ds.length ≤ 1000 := of_decide_eq_true hs2.1
          have hl3 := dpAll_len hda
          have hdep : PyData.depthAll ds + 1 ≤ n + 1 := hd
          refine g_iteY (by omega) ?_
          walk_at "go"
          refine g_zipT (by walk_at "t") (by walk_at "t") ?_
          have s1 : Same H (upd H pt (.tup [V.ty "list", V.ty "tuple"])) := same_new hpt
          generalize upd H pt (.tup [V.ty "list", V.ty "tuple"]) = H1 at s1 ⊢
          refine lcZT hl (σ0 := [some (.ref a), some (.ref b), none, none]) rfl fun D hD => ⟨fun i H' => H' D = some (.lst ((List.replicate i true).map V.bl)) ∧ Chg D H1 H', ⟨upd_same, Chg.upd⟩, ?_, ?_, ?_⟩
          · rintro i H' ⟨e1, c1⟩
            have s := s1.trans (chg_same c1 hD)
            exact ⟨seqT_same s ha, seqT_same s hb⟩
          · rintro i x y T H' hx hy ⟨e1, c1⟩ hT
            obtain ⟨d1, hd1, px⟩ := dpAll_at hda hx
            obtain ⟨d2, hd2, py⟩ := dpAll_at hdb hy
            obtain rfl : d1 = d2 := Option.some.inj (hd1.symm.trans hd2)
            have s2 : Same H (upd H' T (.tup [x, y])) := (s1.trans (chg_same c1 hD)).trans (same_new hT)
            have hlt : i < xs.length := (List.getElem?_eq_some_iff.mp hx).1
            have mem := List.mem_of_getElem? hd1
            have nT : T ≠ D := Ne.symm (ne_of_none e1 hT)
            walk_at "go"
            refine g_likeD (dp_same s2 px) (dp_same s2 py) (by have := PyData.depth_le_depthAll ds d1 mem; omega) (smallAll_mem hs2.2 mem) fun H3 s3 => ?_
            have e3 : H3 D = some (.lst ((List.replicate i true).map V.bl)) := by walk_at "h"
            refine g_turnD e3 (by rw [List.length_map, List.length_replicate]; omega) ⟨?_, by walk_at "chg"⟩
            rw [upd_same, List.replicate_succ', List.map_append]
            rfl
          · rintro H' ⟨e1, c1⟩
            walk_at "go"
            rw [all_rep]
            exact q _ (s1.trans (chg_same c1 hD))

end

set_option Elab.async false
set_option linter.all false
set_option maxRecDepth 100000
set_option maxHeartbeats 4000000
open PySem PySem.Spec L2

section
variable {P : Program} {w : World} {K : PySem.W.Frag} {mg : Str → Option Value} {base : Heap}
theorem g_drawB {B : Int} {a l : Addr} {size : Int} {H : Hp} {Q : VK} {E : XK} (hB : Bag H a l) (h1 : 1 ≤ size ∧ size ≤ B) (q : ∀ (r : Int) (H' : Hp), 0 ≤ r → r < size → Bag H' a l → Chg a H H' → Q (.int r) H') :
    spDraw B [.ref a, .int size] H Q E := ⟨a, l, size, rfl, hB, h1.1, h1.2, q⟩
theorem bag_of {H : Hp} {a l : Addr} {ns : List Int} {i g m c : Int} (hB : H a = some (HO.lst [V.ref l, V.int i, V.int g, V.int m, V.int c])) (hl : H l = some (HO.lst (ns.map V.int))) (hla : l ≠ a)
    (hi : 0 ≤ i) (hg : 0 ≤ g) (hm : 0 ≤ m) (hm' : m < 2147483629) (hc : 0 ≤ c) : Bag H a l := ⟨ns, i, g, m, c, hB, hl, hla, hi, hg, hm, hm', hc⟩
theorem bag_new {H : Hp} {a l p : Addr} {o : HO} (h : Bag H a l) (hp : H p = none) : Bag (L2.upd H p o) a l := by
  obtain ⟨ns, i, g, m, c, hB, hl, r⟩ := h
  exact ⟨ns, i, g, m, c, h_ne (ne_of_none hB hp) hB, h_ne (ne_of_none hl hp) hl, r⟩
theorem bag_sm {H H' : Hp} {a l : Addr} (h : Bag H a l) (s : Same H H') : Bag H' a l := by
  obtain ⟨ns, i, g, m, c, hB, hl, r⟩ := h
  exact ⟨ns, i, g, m, c, s _ _ hB, s _ _ hl, r⟩
theorem bag_chg {H : Hp} {a l D : Addr} {o : HO} (h : Bag H a l) (h1 : D ≠ a) (h2 : D ≠ l) : Bag (L2.upd H D o) a l := by
  obtain ⟨ns, i, g, m, c, hB, hl, r⟩ := h
  exact ⟨ns, i, g, m, c, h_ne (Ne.symm h1) hB, h_ne (Ne.symm h2) hl, r⟩
theorem bag_apart {H : Hp} {a l D : Addr} (h : Bag H a l) (hD : H D = none) : D ≠ a ∧ D ≠ l := by
  obtain ⟨ns, i, g, m, c, hB, hl, r⟩ := h
  exact ⟨Ne.symm (ne_of_none hB hD), Ne.symm (ne_of_none hl hD)⟩
theorem ne_bag {H : Hp} {a l p : Addr} (h : Bag H a l) (hp : H p = none) : p ≠ a := by
  obtain ⟨ns, i, g, m, c, hB, _⟩ := h
  exact Ne.symm (ne_of_none hB hp)
theorem ok_drawN {n : Nat} {B B2 : Int} (hb1 : 1000000 ≤ B) (hb2 : B2 < B * 1000000) (hb3 : B2 ≤ 100000000000000000000000000000000000000000) {f : Addr} {fd : FuncData} (T : Top K mg) (C__law_draw : Cal P w K mg base "_law_draw" (n + 1) P__law_draw (spDraw B)) (F : FnP K "_law_draw" s__law_draw f fd) :
    FnOk P w K mg base CX0 (n + 2) f fd P__law_draw (spDraw B2) := by
  refine F.ok sc__law_draw (fun vs H Q E h => ?_) (fun cdv A outer s H vs Q E hr h => ?_)
  · obtain ⟨a, l, size, rfl, _⟩ := h
    rfl
  · obtain ⟨a, l, size, rfl, ⟨ns, i, g, m, c, hB, hl, hla, hi, hg, hm, hm', hc⟩, h1, h2, q⟩ := h
    refine ⟨_, PSs.nox (C8.pss_cut (ps_asg (pe_op op_add (pe_ix (k_ix (K := K) (by rfl)) (pv 0) pe_int (fun _ _ => rfl)) pe_int) (pg_sub (pv 0) pe_int set_list))
    (C8.pss_cut (ps_if (PW.pt (pw_and (pt_cmpR op_eq (pe_ix (k_ix (K := K) (by rfl)) (pv 0) pe_int (fun _ _ => rfl)) pe_int (nomark _)) (pw_and1 (pt_cmpR op_lt (pe_ix (k_ix (K := K) (by rfl)) (pv 0) pe_int (fun _ _ => rfl)) (pe_callB (k_len (K := K) (by rfl)) (by rfl) T.z_len (by decide +kernel) (pa_cons (pe_ix (k_ix (K := K) (by rfl)) (pv 0) pe_int (fun _ _ => rfl)) pa_nil)) (nomark _)))))
    (pss_cons (ps_set (i := 2) sc__law_draw.nd rfl (by first | exact Or.inl rfl | exact Or.inr rfl) (pe_ix (k_ix (K := K) (by rfl)) (pe_ix (k_ix (K := K) (by rfl)) (pv 0) pe_int (fun _ _ => rfl)) (pe_ix (k_ix (K := K) (by rfl)) (pv 0) pe_int (fun _ _ => rfl)) (fun _ _ => rfl)))
    (pss_cons (ps_asg (pe_op op_add (pe_ix (k_ix (K := K) (by rfl)) (pv 0) pe_int (fun _ _ => rfl)) pe_int) (pg_sub (pv 0) pe_int set_list))
    (pss_one (ps_if (pt_cmpR op_ge (pv 2) (pe_op op_pow pe_int pe_int) (nomark _))
    (pss_one (ps_asg (pv 2) (pg_sub (pv 0) pe_int set_list)))
    (pss_one (ps_asg (pe_op op_mod (pe_callTy c_int (by rfl) T.z_int (by decide +kernel) (pa_cons (pe_op op_add (pe_op op_add (pe_op op_mul (pe_ix (k_ix (K := K) (by rfl)) (pv 0) pe_int (fun _ _ => rfl)) pe_int) (pe_op op_mul (pe_op op_mod (pe_callTy c_int (by rfl) T.z_int (by decide +kernel) (pa_cons (pv 2) pa_nil)) pe_int) pe_int)) pe_int) pa_nil)) pe_int) (pg_sub (pv 0) pe_int set_list)))))))
    pss_nil)
    (pss_cons (ps_if (pt_cmpR op_gt (pe_ix (k_ix (K := K) (by rfl)) (pv 0) pe_int (fun _ _ => rfl)) pe_int (nomark _))
    (pss_cons (ps_set (i := 3) sc__law_draw.nd rfl (by first | exact Or.inl rfl | exact Or.inr rfl) (pe_op op_mod (pe_callTy c_int (by rfl) T.z_int (by decide +kernel) (pa_cons (pe_ix (k_ix (K := K) (by rfl)) (pv 0) pe_int (fun _ _ => rfl)) pa_nil)) (pv 1)))
    (pss_cons (ps_asg (pe_op op_fdivW (pe_ix (k_ix (K := K) (by rfl)) (pv 0) pe_int (fun _ _ => rfl)) (pv 1)) (pg_sub (pv 0) pe_int set_list))
    (pss_one (ps_ret (pv 3)))))
    pss_nil)
    (pss_cons (ps_if (pt_cmpR op_gt (pv 1) (pe_op op_pow pe_int pe_int) (nomark _))
    (pss_one (ps_ret (pe_op op_mod (pe_callTy c_int (by rfl) T.z_int (by decide +kernel) (pa_cons (pe_op op_add (pe_op op_mul (pe_cal C__law_draw (hr.mono (by first | decide | omega)) (by rfl) (pa_cons (pv 0) (pa_cons (pe_op op_add (pe_op op_fdivW (pv 1) (pe_op op_pow pe_int pe_int)) pe_int) pa_nil))) (pe_op op_pow pe_int pe_int)) (pe_cal C__law_draw (hr.mono (by first | decide | omega)) (by rfl) (pa_cons (pv 0) (pa_cons (pe_op op_pow pe_int pe_int) pa_nil)))) pa_nil)) (pv 1))))
    pss_nil)
    (pss_cons (ps_asg (pe_op op_mod (pe_callTy c_int (by rfl) T.z_int (by decide +kernel) (pa_cons (pe_op op_add (pe_op op_add (pe_op op_pow (pe_ix (k_ix (K := K) (by rfl)) (pv 0) pe_int (fun _ _ => rfl)) pe_int) (pe_op op_mul (pe_ix (k_ix (K := K) (by rfl)) (pv 0) pe_int (fun _ _ => rfl)) pe_int)) pe_int) pa_nil)) pe_int) (pg_sub (pv 0) pe_int set_list))
    (pss_one (ps_ret (pe_op op_mod (pe_callTy c_int (by rfl) T.z_int (by decide +kernel) (pa_cons (pe_op op_add (pe_op op_fdivW (pe_ix (k_ix (K := K) (by rfl)) (pv 0) pe_int (fun _ _ => rfl)) pe_int) (pe_op op_mul (pe_op op_mod (pe_callTy c_int (by rfl) T.z_int (by decide +kernel) (pa_cons (pe_ix (k_ix (K := K) (by rfl)) (pv 0) pe_int (fun _ _ => rfl)) pa_nil)) pe_int) pe_int)) pa_nil)) (pv 1))))))))), ?_⟩
    try simp only [cxK]
    rw [show L2.start N__law_draw [V.ref a, V.int size] = [some (.ref a), some (.int size), none, none] from rfl]
    refine g_cut (fun σ' H' => σ' = [some (.ref a), some (.int size), none, none] ∧ ∃ c', H' = upd H a (.lst [V.ref l, V.int i, V.int g, V.int m, V.int c']) ∧ 0 ≤ c') ?_ ?_
    · walk_at "go"
      exact ⟨rfl, _, rfl, by omega⟩
    rintro σ' H' ⟨rfl, c', rfl, hc'⟩
    refine g_cut (fun σ' H' => ∃ x2, σ' = [some (.ref a), some (.int size), x2, none] ∧ ∃ i' g' m', H' a = some (.lst [V.ref l, V.int i', V.int g', V.int m', V.int c']) ∧
      0 ≤ i' ∧ 0 ≤ g' ∧ 0 ≤ m' ∧ m' < 2147483629 ∧ Chg a H H') ?_ ?_
    · walk_at "go"
      refine g_iteD (fun h3 => ?_) (fun h3 => ?_)
      · walk_at "go"
        refine g_iteD (fun h4 => ?_) (fun h4 => ?_)
        · have e : atI (ns.map V.int) i = some (.int (ns.getD i.toNat 0)) := by
            have z := atI_nat (xs := ns.map V.int) (j := i.toNat) (v := .int (ns.getD i.toNat 0)) (by
              rw [List.getElem?_map, List.getD_eq_getElem?_getD, List.getElem?_eq_getElem (by rw [List.length_map] at h4; omega)]; rfl)
            rwa [Int.toNat_of_nonneg hi] at z
          walk_at "go"
          refine g_iteD (fun h5 => ?_) (fun h5 => ?_)
          · walk_at "go"
            exact ⟨_, rfl, _, _, _, by walk_at "h", by omega, by omega, hm, hm', by walk_at "chg"⟩
          · walk_at "go"
            exact ⟨_, rfl, _, _, _, by walk_at "h", by omega, by omega, by omega, by omega, by walk_at "chg"⟩
        · walk_at "go"
          exact ⟨_, rfl, i, g, m, by walk_at "h", hi, hg, hm, hm', by walk_at "chg"⟩
      · walk_at "go"
        exact ⟨_, rfl, i, g, m, by walk_at "h", hi, hg, hm, hm', by walk_at "chg"⟩
    rintro σ' H' ⟨x2, rfl, i', g', m', hB', hi', hg', hm1, hm2, ch⟩
    have hl' : H' l = some (HO.lst (List.map V.int ns)) := by walk_at "h"
    walk_at "go"
    refine g_iteD (fun h3 => ?_) (fun h3 => ?_)
    · have hs : 0 < size := by omega
      have hd : CDivW g' size := wide_div (b := 200) hs (Nat.lt_of_le_of_lt (m := 100000000000000000000000000000000000000000) (by omega) (by decide)) (by decide) (by decide)
      walk_at "go"
      exact q _ _ (Int.emod_nonneg _ (by omega)) (Int.emod_lt_of_pos _ (by omega))
        ⟨ns, _, _, _, _, by walk_at "h", by walk_at "h", hla, hi', Int.ediv_nonneg hg' (by omega), hm1, hm2, hc'⟩ (by walk_at "chg")
    · have hs : 0 < size := by omega
      walk_at "go"
      refine g_iteD (fun h6 => ?_) (fun h6 => ?_)
      · have hBag : Bag H' a l := ⟨ns, _, _, _, _, by walk_at "h", by walk_at "h", hla, hi', hg', hm1, hm2, hc'⟩
        walk_at "go"
        have hq : size / 1000000 + 1 ≤ B := by omega
        refine g_drawB hBag ⟨by omega, by first | exact hq | omega⟩ fun r1 H1 r1a r1b B1 ch1 => ?_
        walk_at "go"
        refine g_drawB B1 ⟨by omega, by omega⟩ fun r2 H2 r2a r2b B2 ch2 => ?_
        walk_at "go"
        exact q _ _ (Int.emod_nonneg _ (by omega)) (Int.emod_lt_of_pos _ (by omega)) B2 (by walk_at "chg")
      walk_at "go"
      exact q _ _ (Int.emod_nonneg _ (by omega)) (Int.emod_lt_of_pos _ (by omega))
        ⟨ns, _, _, _, _, by walk_at "h", by walk_at "h", hla, hi', hg', by omega, by omega, hc'⟩ (by walk_at "chg")
theorem c_drawN {n : Nat} {B B2 : Int} (hb1 : 1000000 ≤ B) (hb2 : B2 < B * 1000000) (hb3 : B2 ≤ 100000000000000000000000000000000000000000) (T : Top K mg) (C : Cal P w K mg base "_law_draw" (n + 1) P__law_draw (spDraw B)) : Cal P w K mg base "_law_draw" (n + 2) P__law_draw (spDraw B2) := cal_mk T.f__law_draw (ok_drawN hb1 hb2 hb3 T C) (fun F => F.bindsN fun _ _ _ _ _ _ us hl => match us, hl with | [_, _], _ => rfl)
theorem c_draw2 (T : Top K mg) : Cal P w K mg base "_law_draw" 2 P__law_draw (spDraw 100000000000) := c_drawN (by decide) (by decide) (by decide) T (c_draw1 T)
theorem c_draw8 (T : Top K mg) : Cal P w K mg base "_law_draw" 8 P__law_draw (spDraw 100000000000000000000000000000000000000000) :=
  c_drawN (B := 1000000000000000000000000000000000000) (by decide) (by decide) (by decide) T (c_drawN (B := 10000000000000000000000000000000) (by decide) (by decide) (by decide) T (c_drawN (B := 100000000000000000000000000) (by decide) (by decide) (by decide) T
    (c_drawN (B := 1000000000000000000000) (by decide) (by decide) (by decide) T (c_drawN (B := 10000000000000000) (by decide) (by decide) (by decide) T (c_drawN (B := 100000000000) (by decide) (by decide) (by decide) T (c_draw2 T))))))
/-! _law_of -/
def spOf : Sp := fun vs H Q _ => ∃ (a l t : Addr) (xs : List V), vs = [.ref a, .ref t] ∧ Bag H a l ∧ H t = some (.lst xs) ∧ t ≠ a ∧ (1 ≤ xs.length ∧ xs.length ≤ 1000000) ∧
  ∀ (x : V) (H' : Hp), x ∈ xs → Bag H' a l → Chg a H H' → Q x H'
theorem g_of {a l t : Addr} {xs : List V} {H : Hp} {Q : VK} {E : XK} (hB : Bag H a l) (ht : H t = some (.lst xs)) (n : t ≠ a) (hl : 1 ≤ xs.length ∧ xs.length ≤ 1000000)
    (q : ∀ (x : V) (H' : Hp), x ∈ xs → Bag H' a l → Chg a H H' → Q x H') : spOf [.ref a, .ref t] H Q E := ⟨a, l, t, xs, rfl, hB, ht, n, hl, q⟩
theorem ok_of {f : Addr} {fd : FuncData} (T : Top K mg) (F : FnP K "_law_of" s__law_of f fd) : FnOk P w K mg base CX0 2 f fd P__law_of spOf := by
  have C__law_draw : Cal P w K mg base "_law_draw" 1 P__law_draw (spDraw 1000000) := c_draw1 T
  refine F.ok sc__law_of (fun vs H Q E h => ?_) (fun cdv A outer s H vs Q E hr h => ?_)
  · obtain ⟨a, l, t, xs, rfl, _⟩ := h
    rfl
  · obtain ⟨a, l, t, xs, rfl, hB, ht, hn, hl, q⟩ := h
    refine ⟨_, PSs.nox (pss_one (ps_ret (pe_ix (k_ix (K := K) (by rfl)) (pv 1) (pe_cal C__law_draw (hr.mono (by first | decide | omega)) (by rfl) (pa_cons (pv 0) (pa_cons (pe_callB (k_len (K := K) (by rfl)) (by rfl) T.z_len (by decide +kernel) (pa_cons (pv 1) pa_nil)) pa_nil))) (fun _ _ => rfl)))), ?_⟩
    try simp only [cxK]
    rw [show L2.start N__law_of [V.ref a, V.ref t] = [some (.ref a), some (.ref t)] from rfl]
    walk_at "go"
    refine g_drawB hB ⟨by omega, by omega⟩ fun r H1 ra rb B1 ch1 => ?_
    have e : atI xs r = some (xs.getD r.toNat .non) := by
      have z := atI_nat (xs := xs) (j := r.toNat) (v := xs.getD r.toNat .non) (by
        rw [List.getD_eq_getElem?_getD, List.getElem?_eq_getElem (by omega)]; rfl)
      rwa [Int.toNat_of_nonneg ra] at z
    walk_at "go"
    refine q _ _ ?_ B1 ch1
    rw [List.getD_eq_getElem?_getD, List.getElem?_eq_getElem (by omega)]
    exact List.getElem_mem _
theorem c_of (T : Top K mg) : Cal P w K mg base "_law_of" 2 P__law_of spOf := cal_mk T.f__law_of (ok_of T) (fun F => F.bindsN fun _ _ _ _ _ _ us hl => match us, hl with | [_, _], _ => rfl)
/-! _law_bag -/
def spBag (K : PySem.W.Frag) : Sp := fun vs H Q _ => ∃ (a : Addr) (ns : List Int), vs = [.ref a] ∧ SqL K H a (ns.map V.int) ∧ ∀ (p l : Addr) (H' : Hp), Bag H' p l → H p = none → Same H H' → Q (.ref p) H'
theorem ok_bag {f : Addr} {fd : FuncData} (T : Top K mg) (F : FnP K "_law_bag" s__law_bag f fd) : FnOk P w K mg base CX0 1 f fd P__law_bag (spBag K) := by
  refine F.ok sc__law_bag (fun vs H Q E h => ?_) (fun cdv A outer s H vs Q E hr h => ?_)
  · obtain ⟨a, ns, rfl, _⟩ := h
    rfl
  · obtain ⟨a, ns, rfl, hS, q⟩ := h
    refine ⟨_, PSs.nox (pss_cons (ps_set (i := 1) sc__law_bag.nd rfl (by first | exact Or.inl rfl | exact Or.inr rfl) pe_int)
    (pss_cons (ps_for PassesOwn.never rfl (k_pil (K := K) (by rfl) (pe_slice (k_sl (K := K) (by rfl)) (pv 0) po_none (po_some pe_int))) (pg_name (i := 2) sc__law_bag.nd rfl (by first | exact Or.inl rfl | exact Or.inr rfl))
    (pss_one (ps_set (i := 1) sc__law_bag.nd rfl (by first | exact Or.inl rfl | exact Or.inr rfl) (pe_op op_mod (pe_callTy c_int (by rfl) T.z_int (by decide +kernel) (pa_cons (pe_op op_add (pe_op op_add (pe_op op_mul (pv 1) pe_int) (pe_op op_mod (pe_callTy c_int (by rfl) T.z_int (by decide +kernel) (pa_cons (pv 2) pa_nil)) pe_int)) pe_int) pa_nil)) pe_int))))
    (pss_one (ps_ret (pe_lst (pa_cons (pe_callTy (k_list (K := K) (by rfl)) (by rfl) T.z_list (by decide +kernel) (pa_cons (pe_slice (k_sl (K := K) (by rfl)) (pv 0) po_none (po_some pe_int)) pa_nil)) (pa_cons pe_int (pa_cons pe_int (pa_cons (pv 1) (pa_cons pe_int pa_nil)))))))))), ?_⟩
    try simp only [cxK]
    rw [show L2.start N__law_bag [V.ref a] = [some (.ref a), none, none] from rfl]
    walk_at "go"
    rename_i p hp
    have ec : cutV (ns.map V.int) none (some 63) = (ns.take 63).map V.int := by
      unfold cutV
      rw [HT.sIx_none, show HT.sIx (ns.map V.int).length (ns.map V.int).length (some 63) = min 63 (ns.map V.int).length from HT.sIx_nat _ _ 63]
      rw [List.drop_zero, Nat.sub_zero, ← List.map_take]
      congr 1
      rw [List.length_map]
      rcases Nat.le_total 63 ns.length with z | z
      · rw [Nat.min_eq_left z]
      · rw [Nat.min_eq_right z, List.take_length, List.take_of_length_le z]
    rw [ec]
    have s1 : Same H (upd H p (.lst ((ns.take 63).map V.int))) := same_new hp
    refine forL (xs := (ns.take 63).map V.int) ⟨fun i σ' H' => ∃ m y, σ' = [some (.ref a), some (.int m), y] ∧ 0 ≤ m ∧ m < 2147483629 ∧ H' = upd H p (.lst ((ns.take 63).map V.int)), ⟨_, _, rfl, by decide, by decide, rfl⟩, ?_, ?_, ?_⟩
    · rintro i σ' H' _ ⟨m, y, rfl, _, _, rfl⟩
      exact SqL.of upd_same
    · rintro i x σ' H' hx ⟨m, y, rfl, hm, hm', rfl⟩
      rw [List.getElem?_map, Option.map_eq_some_iff] at hx
      obtain ⟨n, _, rfl⟩ := hx
      walk_at "go"
      exact ⟨_, _, rfl, by omega, by omega, rfl⟩
    · rintro σ' H' ⟨m, y, rfl, hm, hm', rfl⟩
      have hS1 : SqL K (upd H p (.lst ((ns.take 63).map V.int))) a (ns.map V.int) := s1.seq hS
      walk_at "go"
      rename_i p2 hp2 p3 hp3 p1 hp1
      rw [ec] at *
      have s2 := same_new hp2 (o := .lst ((ns.take 63).map V.int))
      have s3 := same_new hp3 (o := .lst ((ns.take 63).map V.int))
      have s4 := same_new hp1 (o := .lst [V.ref p3, V.int 0, V.int 0, V.int m, V.int 0])
      refine q p1 p3 _ ⟨ns.take 63, 0, 0, m, 0, upd_same, s4 _ _ upd_same, ?_, by decide, by decide, hm, hm', by decide⟩ (((s1.trans s2).trans s3).free hp1) (((s1.trans s2).trans s3).trans s4)
      exact ne_of_none upd_same hp1
theorem c_bag (T : Top K mg) : Cal P w K mg base "_law_bag" 1 P__law_bag (spBag K) := cal_mk T.f__law_bag (ok_bag T) (fun F => F.bindsN fun _ _ _ _ _ _ us hl => match us, hl with | [_], _ => rfl)
/-! _law_like -/
theorem ok_like0 {f : Addr} {fd : FuncData} (T : Top K mg) (F : FnP K "_law_like" s__law_like f fd) : FnOk P w K mg base CX0 1 f fd P__law_like (spLike K 0) := by
  refine F.ok sc__law_like (fun vs H Q E h => ?_) (fun cdv A outer s H vs Q E hr h => ?_)
  · obtain ⟨x, y, d, rfl, _⟩ := h
    rfl
  · obtain ⟨x, y, d, rfl, hx, hy, hd, hs, q⟩ := h
    refine ⟨_, PSs.nox (pss_cons (ps_if (pt_val (pe_callB (k_isiT (K := K) (by rfl)) (by rfl) T.z_isinstance (by decide +kernel) (pa_cons (pv 1) (pa_cons (pe_tup (pa_cons (pe_bltn (v := .ty "list") (u := .type "list") (by rfl) T.z_list (by decide +kernel) rfl) (pa_cons (pe_bltn (v := .ty "tuple") (u := .type "tuple") (by rfl) T.z_tuple (by decide +kernel) rfl) pa_nil))) pa_nil))))
    pss_never
    pss_nil)
    (pss_cons (ps_if (PW.pt (pw_or (pt_cmpR o_isN (pv 1) pe_non (nomark _)) (pw_or1 (pt_cmpR o_isN (pv 0) pe_non (nomark _)))))
    (pss_one (ps_ret (pe_and (pe_cmpR o_isN (pv 1) pe_non (nomark _)) (pe_one (pe_cmpR o_isN (pv 0) pe_non (nomark _))))))
    pss_nil)
    (pss_cons (ps_if (PW.pt (pw_or (pt_val (pe_callB (k_isiT (K := K) (by rfl)) (by rfl) T.z_isinstance (by decide +kernel) (pa_cons (pv 0) (pa_cons (pe_tup (pa_cons (pe_bltn (v := .ty "list") (u := .type "list") (by rfl) T.z_list (by decide +kernel) rfl) (pa_cons (pe_bltn (v := .ty "tuple") (u := .type "tuple") (by rfl) T.z_tuple (by decide +kernel) rfl) pa_nil))) pa_nil)))) (pw_or1 (pt_cmpR op_ne (pe_callB (k_isi (K := K) (by rfl)) (by rfl) T.z_isinstance (by decide +kernel) (pa_cons (pv 0) (pa_cons (pe_bltn (v := .ty "bool") (u := .type "bool") (by rfl) T.z_bool (by decide +kernel) rfl) pa_nil))) (pe_callB (k_isi (K := K) (by rfl)) (by rfl) T.z_isinstance (by decide +kernel) (pa_cons (pv 1) (pa_cons (pe_bltn (v := .ty "bool") (u := .type "bool") (by rfl) T.z_bool (by decide +kernel) rfl) pa_nil))) (nomark _)))))
    (pss_one (ps_ret pe_bl))
    pss_nil)
    (pss_cons (ps_if (PW.pt (pw_or (pt_cmpR op_ne (pe_callB (k_isi (K := K) (by rfl)) (by rfl) T.z_isinstance (by decide +kernel) (pa_cons (pv 0) (pa_cons (pe_bltn (v := .ty "str") (u := .type "str") (by rfl) T.z_str (by decide +kernel) rfl) pa_nil))) (pe_callB (k_isi (K := K) (by rfl)) (by rfl) T.z_isinstance (by decide +kernel) (pa_cons (pv 1) (pa_cons (pe_bltn (v := .ty "str") (u := .type "str") (by rfl) T.z_str (by decide +kernel) rfl) pa_nil))) (nomark _)) (pw_or1 (pt_cmpR op_ne (pe_callB (k_isi (K := K) (by rfl)) (by rfl) T.z_isinstance (by decide +kernel) (pa_cons (pv 0) (pa_cons (pe_bltn (v := .ty "int") (u := .type "int") (by rfl) T.z_int (by decide +kernel) rfl) pa_nil))) (pe_callB (k_isi (K := K) (by rfl)) (by rfl) T.z_isinstance (by decide +kernel) (pa_cons (pv 1) (pa_cons (pe_bltn (v := .ty "int") (u := .type "int") (by rfl) T.z_int (by decide +kernel) rfl) pa_nil))) (nomark _)))))
    (pss_one (ps_ret pe_bl))
    pss_nil)
    (pss_one (ps_ret (pe_cmpR op_eq (pv 0) (pv 1) (nomark _)))))))), ?_⟩
    rw [show L2.start N__law_like [x, y] = [some x, some y, none, none] from rfl]
    cases d with
    | none =>
      cases hx
      cases hy
      walk_at "go"
      exact q _ (same_new (by assumption))
    | bool b =>
      cases hx
      cases hy
      walk_at "go"
      rw [decide_eq_true rfl]
      exact q _ ((same_new (by assumption)).trans (same_new (by assumption)))
    | int b =>
      cases hx
      cases hy
      walk_at "go"
      rw [decide_eq_true rfl]
      exact q _ ((same_new (by assumption)).trans (same_new (by assumption)))
    | str b =>
      cases hx
      cases hy
      walk_at "go"
      rw [decide_eq_true rfl]
      exact q _ ((same_new (by assumption)).trans (same_new (by assumption)))
    | dict kvs => cases hx
    | list ds => exact absurd hd (by show ¬ PyData.depthAll ds + 1 ≤ 0; omega)
    | tuple ds => exact absurd hd (by show ¬ PyData.depthAll ds + 1 ≤ 0; omega)
theorem c_like (T : Top K mg) : ∀ n : Nat, Cal P w K mg base "_law_like" (n + 1) P__law_like (spLike K n)
  | 0 => cal_mk T.f__law_like (ok_like0 T) (fun F => F.bindsN fun _ _ _ _ _ _ us hl => match us, hl with | [_, _], _ => rfl)
  | n + 1 => cal_mk T.f__law_like (ok_like T (c_like T n)) (fun F => F.bindsN fun _ _ _ _ _ _ us hl => match us, hl with | [_, _], _ => rfl)
end

set_option Elab.async false
set_option linter.all false
set_option maxRecDepth 100000
set_option maxHeartbeats 4000000
open PySem PySem.Spec L2

local macro_rules | `(tactic| walk_at "bag") => `(tactic| first
  | with_reducible assumption
  | ((with_reducible refine' bag_new ?k1 (by with_reducible assumption)); (case k1 => walk_at "bag"))
  | ((with_reducible refine' bag_sm ?k1 (by with_reducible assumption)); (case k1 => walk_at "bag")))
section
variable {P : Program} {w : World} {K : PySem.W.Frag} {mg : Str → Option Value} {base : Heap}

theorem ixN_pos {n : Nat} {k : Int} (h : 0 ≤ k) (h2 : k < n) : ixN n k = some k.toNat := by
  unfold ixN
  rw [if_pos h, if_pos h2]
theorem chg_free {a D : Addr} {H H' : Hp} (c : Chg a H H') (n : D ≠ a) (h : H' D = none) : H D = none := by
  cases e : H D with
  | none => rfl
  | some o => rw [c D o n e] at h; cases h
theorem g_p12 {H : Hp} {Q : VK} (h : Q (.int 1000000000000) H) : rI CPow (fun i j => V.int (i ^ j.toNat)) (.int 10) (.int 12) H Q := ⟨10, 12, rfl, rfl, ⟨by decide, by decide, by decide⟩, h⟩
theorem g_p40 {H : Hp} {Q : VK} (h : Q (.int 10000000000000000000000000000000000000000) H) : rI CPow (fun i j => V.int (i ^ j.toNat)) (.int 10) (.int 40) H Q := ⟨10, 40, rfl, rfl, ⟨by decide, by decide, by decide⟩, h⟩
local macro_rules | `(tactic| walk_at "s") => `(tactic| first
  | with_reducible refine' g_p12 ?_
  | with_reducible refine' g_p40 ?_)
def Sm (B : Int) (ns : List Int) : Prop := ∀ x ∈ ns, -B ≤ x ∧ x ≤ B
theorem sm_nil {B : Int} : Sm B [] := fun _ h => by cases h
theorem sm_add {B : Int} {ns : List Int} {x : Int} (h : Sm B ns) (hx : -B ≤ x ∧ x ≤ B) : Sm B (ns ++ [x]) := fun y hy => by
  rcases List.mem_append.mp hy with z | z
  · exact h y z
  · rw [List.mem_singleton.mp z]; exact hx
theorem sm_set {B : Int} {ns : List Int} {x : Int} {i : Nat} (h : Sm B ns) (hx : -B ≤ x ∧ x ≤ B) : Sm B (ns.set i x) := fun y hy => by
  rcases List.mem_or_eq_of_mem_set hy with z | rfl
  · exact h y z
  · exact hx
/-! a row of drawn numbers -/
def spRow : Sp := fun vs H Q _ => ∃ (a l : Addr) (n : Nat) (wd : Int), vs = [.ref a, .int n, .int wd] ∧ Bag H a l ∧ n ≤ 1000 ∧ 0 ≤ wd ∧ wd ≤ 10000000000000000000000000000000000000000 ∧
  ∀ (D : Addr) (ws : List Int) (H' : Hp), ws.length = n → Sm 10000000000000000000000000000000000000000 ws → H D = none → D ≠ a → D ≠ l → H' D = some (.lst (ws.map V.int)) → Bag H' a l → Chg a H H' → Q (.ref D) H'
theorem g_row {a l : Addr} {n : Nat} {wd : Int} {H : Hp} {Q : VK} {E : XK} (hB : Bag H a l) (h1 : n ≤ 1000) (h2 : 0 ≤ wd ∧ wd ≤ 10000000000000000000000000000000000000000)
    (q : ∀ (D : Addr) (ws : List Int) (H' : Hp), ws.length = n → Sm 10000000000000000000000000000000000000000 ws → H D = none → D ≠ a → D ≠ l → H' D = some (.lst (ws.map V.int)) → Bag H' a l → Chg a H H' → Q (.ref D) H') : spRow [.ref a, .int n, .int wd] H Q E := ⟨a, l, n, wd, rfl, hB, h1, h2.1, h2.2, q⟩
theorem ok_row {f : Addr} {fd : FuncData} (T : Top K mg) (F : FnP K "_law_row" s__law_row f fd) : FnOk P w K mg base CX0 9 f fd P__law_row spRow := by
  have C__law_draw := c_draw8 (P := P) (w := w) (base := base) T
  refine F.ok sc__law_row (fun vs H Q E h => ?_) (fun cdv A outer s H vs Q E hr h => ?_)
  · obtain ⟨a, l, n, wd, rfl, _⟩ := h
    rfl
  · obtain ⟨a, l, n, wd, rfl, hB, h1, h2, h3, q⟩ := h
    refine ⟨_, PSs.nox (pss_one (ps_ret (pe_lc (own := [("k", 3)]) (g := gName 3) (by rfl) sc__law_row.nd (pi_range1 (by rfl) T.z_range (pa_cons (pv 1) pa_nil)) (blkOk_by (own := [("k", 3)]) (N := N__law_row) (sc := defScope s__law_row) (by decide +kernel)) (fun _ _ _ _ _ => pg_name (i := 3) sc__law_row.nd rfl (Or.inl rfl)) (fun _ _ _ _ _ => pts_nil) (fun _ _ _ _ _ => (pe_op op_sub (pe_cal C__law_draw (hr.mono (by first | decide | omega)) (by rfl) (pa_cons (pv 0) (pa_cons (pe_op op_add (pe_op op_mul pe_int (pv 2)) pe_int) pa_nil))) (pv 2)))))), ?_⟩
    rw [show L2.start N__law_row [.ref a, .int n, .int wd] = [some (.ref a), some (.int n), some (.int wd), none] from rfl]
    walk_at "go"
    refine lcR (σ0 := [some (.ref a), some (.int n), some (.int wd), none]) rfl fun D hD => ?_
    obtain ⟨naD, nlD⟩ := bag_apart hB hD
    refine ⟨fun i H' => ∃ ws : List Int, H' D = some (.lst (ws.map V.int)) ∧ ws.length = i ∧ Sm 10000000000000000000000000000000000000000 ws ∧ Bag H' a l ∧ Chg a H H', ⟨[], upd_same, rfl, sm_nil, bag_new hB hD, (Chg.refl).lay hD⟩, ?_, ?_⟩
    · rintro i H' hi ⟨ws, e1, hlw, hsm, B6, c6⟩
      have put : ∀ (y : Int) (H2 : Hp), (-10000000000000000000000000000000000000000 ≤ y ∧ y ≤ 10000000000000000000000000000000000000000) → H2 D = some (.lst (ws.map V.int)) → Bag H2 a l → Chg a H H2 →
          TurnD D (fun H' => ∃ ws : List Int, H' D = some (.lst (ws.map V.int)) ∧ ws.length = i + 1 ∧ Sm 10000000000000000000000000000000000000000 ws ∧ Bag H' a l ∧ Chg a H H') (.int y) H2 := fun y H2 hy e2 B c =>
        g_turnD e2 (by rw [List.length_map]; omega) ⟨ws ++ [y], by rw [upd_same, List.map_append]; rfl, by simp [hlw], sm_add hsm hy, bag_chg B naD nlD, c.putn hD⟩
      walk_at "go"
      refine g_drawB B6 ⟨by omega, by omega⟩ fun r7 H7 r7a r7b B7 c7 => ?_
      walk_at "go"
      exact put _ _ (by omega) (c7 _ _ naD e1) B7 (c6.trans c7)
    · rintro H' ⟨ws, e1, hlw, hsm, B6, c6⟩
      exact q D ws H' (by omega) hsm hD naD nlD e1 B6 c6
theorem c_row (T : Top K mg) : Cal P w K mg base "_law_row" 9 P__law_row spRow := cal_mk T.f__law_row (ok_row T) (fun F => F.bindsN fun _ _ _ _ _ _ us hl => match us, hl with | [_, _, _], _ => rfl)
/-! a row of drawn numbers of all sizes -/
def spNums : Sp := fun vs H Q _ => ∃ (a l : Addr) (n : Nat), vs = [.ref a, .int n] ∧ Bag H a l ∧ (1 ≤ n ∧ n ≤ 1000) ∧
  ∀ (D : Addr) (ws : List Int) (H' : Hp), ws.length = n → Sm 10000000000000000000000000000000000000000 ws → H D = none → D ≠ a → D ≠ l → H' D = some (.lst (ws.map V.int)) → Bag H' a l → Chg a H H' → Q (.ref D) H'
theorem g_nums {a l : Addr} {n : Nat} {H : Hp} {Q : VK} {E : XK} (hB : Bag H a l) (h1 : 1 ≤ n ∧ n ≤ 1000)
    (q : ∀ (D : Addr) (ws : List Int) (H' : Hp), ws.length = n → Sm 10000000000000000000000000000000000000000 ws → H D = none → D ≠ a → D ≠ l → H' D = some (.lst (ws.map V.int)) → Bag H' a l → Chg a H H' → Q (.ref D) H') : spNums [.ref a, .int n] H Q E := ⟨a, l, n, rfl, hB, h1, q⟩
theorem ok_nums {f : Addr} {fd : FuncData} (T : Top K mg) (F : FnP K "_law_numbers" s__law_numbers f fd) : FnOk P w K mg base CX0 10 f fd P__law_numbers spNums := by
  have C__law_draw := c_draw1 (P := P) (w := w) (base := base) T
  have C__law_of := c_of (P := P) (w := w) (base := base) T
  have C__law_row := c_row (P := P) (w := w) (base := base) T
  refine F.ok sc__law_numbers (fun vs H Q E h => ?_) (fun cdv A outer s H vs Q E hr h => ?_)
  · obtain ⟨a, l, n, rfl, _⟩ := h
    rfl
  · obtain ⟨a, l, n, rfl, hB, h1, q⟩ := h
    refine ⟨_, PSs.nox (pss_cons (ps_set (i := 2) sc__law_numbers.nd rfl (by first | exact Or.inl rfl | exact Or.inr rfl) (pe_cal C__law_of (hr.mono (by first | decide | omega)) (by rfl) (pa_cons (pv 0) (pa_cons (pe_lst (pa_cons pe_int (pa_cons pe_int (pa_cons pe_int (pa_cons pe_int (pa_cons pe_int (pa_cons (pe_op op_pow pe_int pe_int) pa_nil))))))) pa_nil))))
    (pss_cons (ps_set (i := 3) sc__law_numbers.nd rfl (by first | exact Or.inl rfl | exact Or.inr rfl) (pe_cal C__law_row (hr.mono (by first | decide | omega)) (by rfl) (pa_cons (pv 0) (pa_cons (pv 1) (pa_cons (pv 2) pa_nil)))))
    (pss_cons (ps_if (pt_cmpR op_eq (pe_cal C__law_draw (hr.mono (by first | decide | omega)) (by rfl) (pa_cons (pv 0) (pa_cons pe_int pa_nil))) pe_int (nomark _))
    (pss_one (ps_asg (pe_cal C__law_of (hr.mono (by first | decide | omega)) (by rfl) (pa_cons (pv 0) (pa_cons (pe_lst (pa_cons pe_int (pa_cons pe_int (pa_cons (pe_op op_sub pe_int pe_int) (pa_cons (pe_op op_pow pe_int pe_int) (pa_cons (pe_op op_sub pe_int (pe_op op_pow pe_int pe_int)) (pa_cons pe_int (pa_cons (pe_op op_sub pe_int pe_int) (pa_cons pe_int pa_nil))))))))) pa_nil))) (pg_sub (pv 3) (pe_cal C__law_draw (hr.mono (by first | decide | omega)) (by rfl) (pa_cons (pv 0) (pa_cons (pv 1) pa_nil))) set_list)))
    pss_nil)
    (pss_one (ps_ret (pv 3)))))), ?_⟩
    rw [show L2.start N__law_numbers [.ref a, .int n] = [some (.ref a), some (.int n), none, none] from rfl]
    walk_at "go"
    rename_i t1 ht1
    refine g_of (by walk_at "bag") upd_same (ne_bag hB ht1) ⟨by show 1 ≤ 6; decide, by show 6 ≤ 1000000; decide⟩ fun x1 H1 hx1 B1 c1 => ?_
    have hx : ∃ m : Int, x1 = .int m ∧ 0 ≤ m ∧ m ≤ 10000000000000000000000000000000000000000 := by
      simp only [List.mem_cons, List.mem_nil_iff, or_false] at hx1
      rcases hx1 with rfl | rfl | rfl | rfl | rfl | rfl <;> exact ⟨_, rfl, by decide, by decide⟩
    obtain ⟨wd, rfl, wa, wb⟩ := hx
    have ch1 : Chg a H H1 := ((Chg.refl).lay ht1).trans c1
    clear hx1
    walk_at "go"
    refine g_row B1 h1.2 ⟨wa, wb⟩ fun D ws H2 hws hsm hD naD nlD e2 B2 c2 => ?_
    have ch2 := ch1.trans c2
    walk_at "go"
    refine g_drawB B2 ⟨by omega, by omega⟩ fun r3 H3 r3a r3b B3 c3 => ?_
    have ch3 := ch2.trans c3
    have e3 : H3 D = some (.lst (ws.map V.int)) := c3 _ _ naD e2
    walk_at "go"
    refine g_iteD (fun h5 => ?_) (fun h5 => ?_)
    · walk_at "go"
      rename_i t2 ht2
      have na2 : t2 ≠ a := ne_bag B3 ht2
      refine g_of (by walk_at "bag") upd_same na2 ⟨by show 1 ≤ 8; decide, by show 8 ≤ 1000000; decide⟩ fun x4 H4 hx4 B4 c4 => ?_
      have hx : ∃ m : Int, x4 = .int m ∧ -10000000000000000000000000000000000000000 ≤ m ∧ m ≤ 10000000000000000000000000000000000000000 := by
        simp only [List.mem_cons, List.mem_nil_iff, or_false] at hx4
        rcases hx4 with rfl | rfl | rfl | rfl | rfl | rfl | rfl | rfl <;> exact ⟨_, rfl, by decide, by decide⟩
      obtain ⟨m, rfl, hm⟩ := hx
      clear hx4
      have ch4 := (ch3.lay ht2).trans c4
      have e4 : H4 D = some (.lst (ws.map V.int)) := c4 _ _ naD (h_ne (ne_of_none e3 ht2) e3)
      walk_at "go"
      refine g_drawB B4 ⟨by omega, by omega⟩ fun r5 H5 r5a r5b B5 c5 => ?_
      have ch5 := ch4.trans c5
      have e5 : H5 D = some (.lst (ws.map V.int)) := c5 _ _ naD e4
      refine g_setL e5 (j := r5.toNat) (ixN_pos r5a (by rw [List.length_map]; omega)) ?_
      walk_at "go"
      refine q D (ws.set r5.toNat m) _ (by rw [List.length_set]; exact hws) (sm_set hsm hm) (chg_free ch1 naD hD) naD nlD ?_ (bag_chg B5 naD nlD) (ch5.putn (chg_free ch1 naD hD))
      rw [upd_same, List.map_set]
    · walk_at "go"
      exact q D ws H3 hws hsm (chg_free ch1 naD hD) naD nlD e3 B3 ch3
theorem c_nums (T : Top K mg) : Cal P w K mg base "_law_numbers" 10 P__law_numbers spNums := cal_mk T.f__law_numbers (ok_nums T) (fun F => F.bindsN fun _ _ _ _ _ _ us hl => match us, hl with | [_, _], _ => rfl)
end

set_option Elab.async false
set_option linter.all false
set_option maxRecDepth 100000
set_option maxHeartbeats 4000000
open PySem PySem.Spec L2

section
variable {P : Program} {w : World} {K : PySem.W.Frag} {mg : Str → Option Value} {base : Heap}

def Sq (K : PySem.W.Frag) (H : Hp) (p : Addr) (xs : List V) : Prop := SqL K H p xs ∨ SqT K H p xs
theorem Sq.same {K : PySem.W.Frag} {H H' : Hp} {p : Addr} {xs : List V} (h : Sq K H p xs) (s : Same H H') : Sq K H' p xs := by
  rcases h with h | h
  · exact .inl (s.seq h)
  · exact .inr (seqT_same s h)
def Ob (H : Hp) (p : Addr) (xs : List V) : Prop := H p = some (.lst xs) ∨ H p = some (.tup xs)
theorem Ob.sq {K : PySem.W.Frag} {H : Hp} {p : Addr} {xs : List V} (h : Ob H p xs) : Sq K H p xs := by
  rcases h with h | h
  · exact .inl (.of h)
  · exact .inr (.of h)
/-! a row passed as a list or a tuple -/
def spPassed : Sp := fun vs H Q _ => ∃ (a l x : Addr) (ns : List Int), vs = [.ref a, .ref x] ∧ Bag H a l ∧ x ≠ a ∧ H x = some (.lst (ns.map V.int)) ∧
  ∀ (p : Addr) (H' : Hp), H p = none → p ≠ a → p ≠ l → Bag H' a l → Chg a H H' → Ob H' p (ns.map V.int) → Q (.ref p) H'
theorem g_passed {a l x : Addr} {ns : List Int} {H : Hp} {Q : VK} {E : XK} (hB : Bag H a l) (n : x ≠ a) (e : H x = some (.lst (ns.map V.int)))
    (q : ∀ (p : Addr) (H' : Hp), H p = none → p ≠ a → p ≠ l → Bag H' a l → Chg a H H' → Ob H' p (ns.map V.int) → Q (.ref p) H') : spPassed [.ref a, .ref x] H Q E := ⟨a, l, x, ns, rfl, hB, n, e, q⟩
theorem ok_passed {f : Addr} {fd : FuncData} (T : Top K mg) (F : FnP K "_law_passed" s__law_passed f fd) : FnOk P w K mg base CX0 2 f fd P__law_passed spPassed := by
  have C__law_draw := c_draw1 (P := P) (w := w) (base := base) T
  refine F.ok sc__law_passed (fun vs H Q E h => ?_) (fun cdv A outer s H vs Q E hr h => ?_)
  · obtain ⟨a, l, x, ns, rfl, _⟩ := h
    rfl
  · obtain ⟨a, l, x, ns, rfl, hB, hn, hx, q⟩ := h
    refine ⟨_, PSs.nox (pss_one (ps_ret (pe_ifExp (pt_cmpR op_eq (pe_cal C__law_draw (hr.mono (by first | decide | omega)) (by rfl) (pa_cons (pv 0) (pa_cons pe_int pa_nil))) pe_int (nomark _)) (pe_callTy (k_list (K := K) (by rfl)) (by rfl) T.z_list (by decide +kernel) (pa_cons (pv 1) pa_nil)) (pe_callTy (k_tuple (K := K) (by rfl)) (by rfl) T.z_tuple (by decide +kernel) (pa_cons (pv 1) pa_nil))))), ?_⟩
    rw [show L2.start N__law_passed [.ref a, .ref x] = [some (.ref a), some (.ref x)] from rfl]
    walk_at "go"
    refine g_drawB hB ⟨by omega, by omega⟩ fun r1 H1 r1a r1b B1 c1 => ?_
    have e1 : H1 x = some (.lst (ns.map V.int)) := c1 _ _ hn hx
    walk_at "go"
    refine g_iteD (fun h5 => ?_) (fun h5 => ?_)
    · walk_at "go"
      rename_i p hp
      obtain ⟨na, nl⟩ := bag_apart B1 hp
      exact q p _ (chg_free c1 na hp) na nl (bag_new B1 hp) (c1.lay hp) (.inl upd_same)
    · walk_at "go"
      rename_i p hp
      obtain ⟨na, nl⟩ := bag_apart B1 hp
      exact q p _ (chg_free c1 na hp) na nl (bag_new B1 hp) (c1.lay hp) (.inr upd_same)
theorem c_passed (T : Top K mg) : Cal P w K mg base "_law_passed" 2 P__law_passed spPassed := cal_mk T.f__law_passed (ok_passed T) (fun F => F.bindsN fun _ _ _ _ _ _ us hl => match us, hl with | [_, _], _ => rfl)
/-! a row cut into a range -/
def cutI (m x : Int) : Int := if x > m then m else if 0 - x > m then 0 - m else x
def spCut (K : PySem.W.Frag) : Sp := fun vs H Q _ => ∃ (x : Addr) (ns : List Int) (m : Int), vs = [.ref x, .int m] ∧ Sq K H x (ns.map V.int) ∧ ns.length ≤ 1000 ∧
  ∀ (p : Addr) (H' : Hp), H p = none → Same H H' → H' p = some (.tup ((ns.map (cutI m)).map V.int)) → Q (.ref p) H'
theorem g_cutR {x : Addr} {ns : List Int} {m : Int} {H : Hp} {Q : VK} {E : XK} (h : Sq K H x (ns.map V.int)) (hl : ns.length ≤ 1000)
    (q : ∀ (p : Addr) (H' : Hp), H p = none → Same H H' → H' p = some (.tup ((ns.map (cutI m)).map V.int)) → Q (.ref p) H') : spCut K [.ref x, .int m] H Q E := ⟨x, ns, m, rfl, h, hl, q⟩
theorem ok_lcut {f : Addr} {fd : FuncData} (T : Top K mg) (F : FnP K "_law_cut" s__law_cut f fd) : FnOk P w K mg base CX0 1 f fd P__law_cut (spCut K) := by
  refine F.ok sc__law_cut (fun vs H Q E h => ?_) (fun cdv A outer s H vs Q E hr h => ?_)
  · obtain ⟨x, ns, m, rfl, _⟩ := h
    rfl
  · obtain ⟨x, ns, m, rfl, hx, hl, q⟩ := h
    rcases hx with hx | hx
    · refine ⟨_, PSs.nox (pss_cons (ps_set (i := 2) sc__law_cut.nd rfl (by first | exact Or.inl rfl | exact Or.inr rfl) (pe_lst pa_nil))
    (pss_cons (ps_for PassesOwn.never rfl (k_pil (K := K) (by rfl) (pv 0)) (pg_name (i := 3) sc__law_cut.nd rfl (by first | exact Or.inl rfl | exact Or.inr rfl))
    (pss_one (ps_expr (pe_bm PySem.F.plainAttrs_list PySem.F.slot_list_append PySem.F.type_list_append mt_append (pv 2) (pa_cons (pe_ifExp (pt_cmpR op_gt (pv 3) (pv 1) (nomark _)) (pv 1) (pe_ifExp (pt_cmpR op_gt (pe_op op_sub pe_int (pv 3)) (pv 1) (nomark _)) (pe_op op_sub pe_int (pv 1)) (pv 3))) pa_nil)))))
    (pss_one (ps_ret (pe_callTy (k_tuple (K := K) (by rfl)) (by rfl) T.z_tuple (by decide +kernel) (pa_cons (pv 2) pa_nil)))))), ?_⟩
      try simp only [cxK]
      rw [show L2.start N__law_cut [.ref x, .int m] = [some (.ref x), some (.int m), none, none] from rfl]
      walk_at "go"
      rename_i D hD
      have s0 : Same H (upd H D (.lst [])) := same_new hD
      refine forL (xs := ns.map V.int) ⟨fun i σ' H' => ∃ y, σ' = [some (.ref x), some (.int m), some (.ref D), y] ∧ H' = upd H D (.lst (((ns.take i).map (cutI m)).map V.int)), ⟨_, rfl, rfl⟩, ?_, ?_, ?_⟩
      · rintro i σ' H' _ ⟨y, rfl, rfl⟩
        exact (same_new hD).seq hx
      · rintro i x' σ' H' hxi ⟨y, rfl, rfl⟩
        rw [List.getElem?_map, Option.map_eq_some_iff] at hxi
        obtain ⟨n, hn, rfl⟩ := hxi
        have hi : i < ns.length := (List.getElem?_eq_some_iff.mp hn).1
        have put : ∀ v : Int, v = cutI m n → rAppend (.ref D) [.int v] (upd H D (.lst (((ns.take i).map (cutI m)).map V.int))) fun _ H1 => ∃ y, [some (V.ref x), some (.int m), some (.ref D), some (.int n)] = [some (.ref x), some (.int m), some (.ref D), y] ∧ H1 = upd H D (.lst (((ns.take (i + 1)).map (cutI m)).map V.int)) := by
          rintro v rfl
          refine g_app upd_same (by simp only [List.length_map, List.length_take]; omega) ⟨_, rfl, ?_⟩
          rw [upd_upd, List.take_add_one, hn, List.map_append, List.map_append]
          rfl
        walk_at "go"
        refine g_iteD (fun h1 => ?_) (fun h1 => ?_)
        · walk_at "go"
          exact put _ (by unfold cutI; rw [if_pos h1])
        · walk_at "go"
          refine g_iteD (fun h2 => ?_) (fun h2 => ?_)
          · walk_at "go"
            exact put _ (by unfold cutI; rw [if_neg h1, if_pos h2])
          · walk_at "go"
            exact put _ (by unfold cutI; rw [if_neg h1, if_neg h2])
      · rintro σ' H' ⟨y, rfl, rfl⟩
        rw [List.length_map, List.take_length]
        walk_at "go"
        rename_i t ht
        exact q t _ ((same_new hD).free ht) ((same_new hD).trans (same_new ht)) upd_same
    · refine ⟨_, PSs.nox (pss_cons (ps_set (i := 2) sc__law_cut.nd rfl (by first | exact Or.inl rfl | exact Or.inr rfl) (pe_lst pa_nil))
    (pss_cons (ps_for PassesOwn.never rfl (k_pit (K := K) (by rfl) (pv 0)) (pg_name (i := 3) sc__law_cut.nd rfl (by first | exact Or.inl rfl | exact Or.inr rfl))
    (pss_one (ps_expr (pe_bm PySem.F.plainAttrs_list PySem.F.slot_list_append PySem.F.type_list_append mt_append (pv 2) (pa_cons (pe_ifExp (pt_cmpR op_gt (pv 3) (pv 1) (nomark _)) (pv 1) (pe_ifExp (pt_cmpR op_gt (pe_op op_sub pe_int (pv 3)) (pv 1) (nomark _)) (pe_op op_sub pe_int (pv 1)) (pv 3))) pa_nil)))))
    (pss_one (ps_ret (pe_callTy (k_tuple (K := K) (by rfl)) (by rfl) T.z_tuple (by decide +kernel) (pa_cons (pv 2) pa_nil)))))), ?_⟩
      try simp only [cxK]
      rw [show L2.start N__law_cut [.ref x, .int m] = [some (.ref x), some (.int m), none, none] from rfl]
      walk_at "go"
      rename_i D hD
      have s0 : Same H (upd H D (.lst [])) := same_new hD
      refine forT (xs := ns.map V.int) ⟨fun i σ' H' => ∃ y, σ' = [some (.ref x), some (.int m), some (.ref D), y] ∧ H' = upd H D (.lst (((ns.take i).map (cutI m)).map V.int)), ⟨_, rfl, rfl⟩, ?_, ?_, ?_⟩
      · rintro i σ' H' _ ⟨y, rfl, rfl⟩
        exact seqT_same (same_new hD) hx
      · rintro i x' σ' H' hxi ⟨y, rfl, rfl⟩
        rw [List.getElem?_map, Option.map_eq_some_iff] at hxi
        obtain ⟨n, hn, rfl⟩ := hxi
        have hi : i < ns.length := (List.getElem?_eq_some_iff.mp hn).1
        have put : ∀ v : Int, v = cutI m n → rAppend (.ref D) [.int v] (upd H D (.lst (((ns.take i).map (cutI m)).map V.int))) fun _ H1 => ∃ y, [some (V.ref x), some (.int m), some (.ref D), some (.int n)] = [some (.ref x), some (.int m), some (.ref D), y] ∧ H1 = upd H D (.lst (((ns.take (i + 1)).map (cutI m)).map V.int)) := by
          rintro v rfl
          refine g_app upd_same (by simp only [List.length_map, List.length_take]; omega) ⟨_, rfl, ?_⟩
          rw [upd_upd, List.take_add_one, hn, List.map_append, List.map_append]
          rfl
        walk_at "go"
        refine g_iteD (fun h1 => ?_) (fun h1 => ?_)
        · walk_at "go"
          exact put _ (by unfold cutI; rw [if_pos h1])
        · walk_at "go"
          refine g_iteD (fun h2 => ?_) (fun h2 => ?_)
          · walk_at "go"
            exact put _ (by unfold cutI; rw [if_neg h1, if_pos h2])
          · walk_at "go"
            exact put _ (by unfold cutI; rw [if_neg h1, if_neg h2])
      · rintro σ' H' ⟨y, rfl, rfl⟩
        rw [List.length_map, List.take_length]
        walk_at "go"
        rename_i t ht
        exact q t _ ((same_new hD).free ht) ((same_new hD).trans (same_new ht)) upd_same
theorem c_lcut (T : Top K mg) : Cal P w K mg base "_law_cut" 1 P__law_cut (spCut K) := cal_mk T.f__law_cut (ok_lcut T) (fun F => F.bindsN fun _ _ _ _ _ _ us hl => match us, hl with | [_, _], _ => rfl)
end

set_option Elab.async false
set_option linter.all false
set_option maxRecDepth 100000
set_option maxHeartbeats 4000000
open PySem PySem.Spec L2

section
variable {P : Program} {w : World} {K : PySem.W.Frag} {mg : Str → Option Value} {base : Heap}

/-- a table: rows of numbers -/
def Grid (K : PySem.W.Frag) (H : Hp) (g : Addr) (rs : List (List Int)) : Prop := ∃ ps : List Addr, Sq K H g (ps.map V.ref) ∧ ps.length = rs.length ∧ ∀ (i : Nat) (r : List Int), rs[i]? = some r → ∃ p, ps[i]? = some p ∧ Sq K H p (r.map V.int)
theorem Grid.same {K : PySem.W.Frag} {H H' : Hp} {g : Addr} {rs : List (List Int)} (h : Grid K H g rs) (s : Same H H') : Grid K H' g rs := by
  obtain ⟨ps, a, b, c⟩ := h
  exact ⟨ps, a.same s, b, fun i r e => by
    obtain ⟨p, e2, q⟩ := c i r e
    exact ⟨p, e2, q.same s⟩⟩
/-- the sum of the first products -/
def dotN (r xs : List Int) : Nat → Int
  | 0 => 0
  | j + 1 => dotN r xs j + xs.getD j 0 * r.getD j 0
def dotI (r xs : List Int) : Int := dotN r xs xs.length
theorem at_nat {ns : List Int} {i : Nat} {n : Int} (h : ns[i]? = some n) : atI (ns.map V.int) (0 + (i : Int)) = some (.int n) := by
  rw [Int.zero_add]
  exact atI_nat (by rw [List.getElem?_map, h]; rfl)
theorem at_ref {ps : List Addr} {i : Nat} {p : Addr} (h : ps[i]? = some p) : atI (ps.map V.ref) (0 + (i : Int)) = some (.ref p) := by
  rw [Int.zero_add]
  exact atI_nat (by rw [List.getElem?_map, h]; rfl)
theorem get_ltI {α : Type} {xs : List α} {i : Nat} (h : i < xs.length) : ∃ v, xs[i]? = some v := ⟨xs[i], List.getElem?_eq_getElem h⟩
theorem ixN_at {n i : Nat} (h : i < n) : ixN n (0 + (i : Int)) = some i := by
  rw [Int.zero_add]
  rw [ixN_pos (by omega) (by omega), Int.toNat_natCast]
theorem half_at {α : Type} {rs : List α} {i : Nat} {r : α} (h : rs[i]? = some r) (f f' : α → Int) :
    ((rs.take i).map f' ++ (rs.drop i).map f)[i]? = some (f r) ∧ ((rs.take i).map f' ++ (rs.drop i).map f).set i (f' r) = (rs.take (i + 1)).map f' ++ (rs.drop (i + 1)).map f := by
  obtain ⟨hi, e⟩ := List.getElem?_eq_some_iff.mp h
  have hl : ((rs.take i).map f').length = i := by rw [List.length_map, List.length_take]; omega
  have hd : rs.drop i = r :: rs.drop (i + 1) := by rw [List.drop_eq_getElem_cons hi, e]
  constructor
  · rw [List.getElem?_append_right (by omega), hl, Nat.sub_self, hd]
    rfl
  · rw [List.set_append_right _ _ (by omega), hl, Nat.sub_self, hd, List.take_add_one, h, List.map_append, List.append_assoc]
    rfl
theorem dotN_succ {r xs : List Int} {j : Nat} {a b : Int} (h1 : xs[j]? = some a) (h2 : r[j]? = some b) : dotN r xs (j + 1) = dotN r xs j + a * b := by
  show dotN r xs j + xs.getD j 0 * r.getD j 0 = _
  rw [List.getD_eq_getElem?_getD, List.getD_eq_getElem?_getD, h1, h2]
  rfl
def Sml (n : Int) : Prop := -1000000000000000000000000000000000000000000 ≤ n ∧ n ≤ 1000000000000000000000000000000000000000000
theorem mulW {i j : Int} (h1 : Sml i) (h2 : Sml j) : CMulW i j := by
  have a : ∀ x : Int, Sml x → x.natAbs < 2 ^ 200 := fun x hx => Nat.lt_of_le_of_lt (m := 1000000000000000000000000000000000000000000) (by obtain ⟨h, h'⟩ := hx; omega) (by decide)
  have e : ∀ x : Int, Sml x → x.natAbs.log2 < 200 := fun x hx => PySem.Flt.log2_lt_of (by decide) (a x hx)
  have b1 := e i h1
  have b2 := e j h2
  show i.natAbs.log2 + j.natAbs.log2 < 1000000
  omega
def Sz (n : Nat) (rs : List (List Int)) (xs : List Int) : Prop := rs.length = n ∧ xs.length = n ∧ n ≤ 1000 ∧ (∀ x ∈ xs, Sml x) ∧ ∀ r ∈ rs, r.length = n ∧ ∀ x ∈ r, Sml x
def spCol (K : PySem.W.Frag) : Sp := fun vs H Q _ => ∃ (g x : Addr) (n : Nat) (rs : List (List Int)) (xs : List Int), vs = [.ref g, .ref x] ∧ Grid K H g rs ∧ Sq K H x (xs.map V.int) ∧ Sz n rs xs ∧
  ∀ (p : Addr) (H' : Hp), H p = none → Same H H' → H' p = some (.tup ((rs.map (fun r => dotI r xs)).map V.int)) → Q (.ref p) H'
theorem g_col {g x : Addr} {n : Nat} {rs : List (List Int)} {xs : List Int} {H : Hp} {Q : VK} {E : XK} (h1 : Grid K H g rs) (h2 : Sq K H x (xs.map V.int)) (h3 : Sz n rs xs)
    (q : ∀ (p : Addr) (H' : Hp), H p = none → Same H H' → H' p = some (.tup ((rs.map (fun r => dotI r xs)).map V.int)) → Q (.ref p) H') : spCol K [.ref g, .ref x] H Q E := ⟨g, x, n, rs, xs, rfl, h1, h2, h3, q⟩
theorem ok_col {f : Addr} {fd : FuncData} (T : Top K mg) (F : FnP K "_law_by_columns" s__law_by_columns f fd) : FnOk P w K mg base CX0 1 f fd P__law_by_columns (spCol K) := by
  refine F.ok sc__law_by_columns (fun vs H Q E h => ?_) (fun cdv A outer s H vs Q E hr h => ?_)
  · obtain ⟨g, x, n, rs, xs, rfl, _⟩ := h
    rfl
  · obtain ⟨g, x, n, rs, xs, rfl, hg, hx, ⟨z1, z2, z3, z4, z5⟩, q⟩ := h
    refine ⟨_, PSs.nox (pss_cons (ps_setLc (i := 2) (own := [("k", 3)]) (g := gName 3) (by rfl) sc__law_by_columns.nd rfl rfl (sw_true rfl rfl rfl (by decide +kernel)) (pi_range1 (by rfl) T.z_range (pa_cons (pe_callB (k_len (K := K) (by rfl)) (by rfl) T.z_len (by decide +kernel) (pa_cons (pv 1) pa_nil)) pa_nil)) (blkOk_by (own := [("k", 3)]) (N := N__law_by_columns) (sc := defScope s__law_by_columns) (by decide +kernel)) (fun _ _ _ _ _ => pg_name (i := 3) sc__law_by_columns.nd rfl (Or.inl rfl)) (fun _ _ _ _ _ => pts_nil) (fun _ _ _ _ _ => pe_int))
    (pss_cons (ps_for PassesOwn.never rfl (pi_range1 (by rfl) T.z_range (pa_cons (pe_callB (k_len (K := K) (by rfl)) (by rfl) T.z_len (by decide +kernel) (pa_cons (pv 1) pa_nil)) pa_nil)) (pg_name (i := 4) sc__law_by_columns.nd rfl (by first | exact Or.inl rfl | exact Or.inr rfl))
    (pss_one (ps_for PassesOwn.never rfl (pi_range1 (by rfl) T.z_range (pa_cons (pe_callB (k_len (K := K) (by rfl)) (by rfl) T.z_len (by decide +kernel) (pa_cons (pv 1) pa_nil)) pa_nil)) (pg_name (i := 5) sc__law_by_columns.nd rfl (by first | exact Or.inl rfl | exact Or.inr rfl))
    (pss_one (ps_asg (pe_op op_add (pe_ix (k_ix (K := K) (by rfl)) (pv 2) (pv 5) (fun _ _ => rfl)) (pe_op op_mulW (pe_ix (k_ix (K := K) (by rfl)) (pv 1) (pv 4) (fun _ _ => rfl)) (pe_ix (k_ix (K := K) (by rfl)) (pe_ix (k_ix (K := K) (by rfl)) (pv 0) (pv 5) (fun _ _ => rfl)) (pv 4) (fun _ _ => rfl)))) (pg_sub (pv 2) (pv 5) set_list))))))
    (pss_one (ps_ret (pe_callTy (k_tuple (K := K) (by rfl)) (by rfl) T.z_tuple (by decide +kernel) (pa_cons (pv 2) pa_nil)))))), ?_⟩
    try simp only [cxK]
    rw [show L2.start N__law_by_columns [.ref g, .ref x] = [some (.ref g), some (.ref x), none, none, none, none] from rfl]
    have hx' : SqL K H x (xs.map V.int) ∨ SqT K H x (xs.map V.int) := hx
    walk_at "go"
    rw [List.length_map, z2]
    refine g_rng1 ⟨by omega, by omega⟩ ?_
    rw [Int.toNat_natCast]
    refine lcR (σ0 := [some (.ref g), some (.ref x), none, none, none, none]) rfl fun D hD => ⟨fun i H' => H' = upd H D (.lst ((List.replicate i (0 : Int)).map V.int)), rfl, ?_, ?_⟩
    · rintro i H' hi rfl
      walk_at "go"
      refine g_turnD upd_same (by rw [List.length_map, List.length_replicate]; omega) ?_
      dsimp only
      rw [upd_upd, List.replicate_succ', List.map_append]
      rfl
    rintro H' rfl
    have xq : ∀ ws : List V, SqL K (upd H D (.lst ws)) x (xs.map V.int) ∨ SqT K (upd H D (.lst ws)) x (xs.map V.int) := fun ws => hx.same (same_new hD)
    have x1 := xq ((List.replicate n (0 : Int)).map V.int)
    walk_at "go"
    rw [List.length_map, z2]
    refine g_rng1 ⟨by omega, by omega⟩ ?_
    rw [Int.toNat_natCast]
    refine forR (n := n) ⟨fun j σ' H' => ∃ y4 y5, σ' = [some (.ref g), some (.ref x), some (.ref D), none, y4, y5] ∧ H' = upd H D (.lst ((rs.map (fun r => dotN r xs j)).map V.int)), ⟨_, _, rfl, ?_⟩, ?_, ?_⟩
    · rw [← z1]
      congr 3
      exact List.map_const'.symm
    · rintro j σ' H' hj ⟨y4, y5, rfl, rfl⟩
      have x2 := xq ((rs.map (fun r => dotN r xs j)).map V.int)
      walk_at "go"
      rw [List.length_map, z2]
      refine g_rng1 ⟨by omega, by omega⟩ ?_
      rw [Int.toNat_natCast]
      refine forR (n := n) ⟨fun i σ' H' => ∃ y5, σ' = [some (.ref g), some (.ref x), some (.ref D), none, some (.int (0 + (j : Int))), y5] ∧ H' = upd H D (.lst (((rs.take i).map (fun r => dotN r xs (j + 1)) ++ (rs.drop i).map (fun r => dotN r xs j)).map V.int)), ⟨_, rfl, rfl⟩, ?_, ?_⟩
      · rintro i σ' H' hi ⟨y5, rfl, rfl⟩
        obtain ⟨r, hr⟩ := get_ltI (xs := rs) (i := i) (by omega)
        obtain ⟨ps, g1, g2, g3⟩ := hg
        obtain ⟨p, hp, hpr⟩ := g3 i r hr
        obtain ⟨z6, z7⟩ := z5 r (List.mem_of_getElem? hr)
        obtain ⟨a, ha⟩ := get_ltI (xs := xs) (i := j) (by omega)
        obtain ⟨b, hb⟩ := get_ltI (xs := r) (i := j) (by omega)
        obtain ⟨v1, v2⟩ := half_at hr (fun r => dotN r xs j) (fun r => dotN r xs (j + 1))
        generalize hws : (rs.take i).map (fun r => dotN r xs (j + 1)) ++ (rs.drop i).map (fun r => dotN r xs j) = ws at v1 v2 ⊢
        have x3 := xq (ws.map V.int)
        have gq : SqL K (upd H D (.lst (ws.map V.int))) g (ps.map V.ref) ∨ SqT K (upd H D (.lst (ws.map V.int))) g (ps.map V.ref) := g1.same (same_new hD)
        have pq : SqL K (upd H D (.lst (ws.map V.int))) p (r.map V.int) ∨ SqT K (upd H D (.lst (ws.map V.int))) p (r.map V.int) := hpr.same (same_new hD)
        have a1 := at_nat v1
        have a2 := at_nat ha
        have a3 := at_ref hp
        have a4 := at_nat hb
        have mw : CMulW a b := mulW (z4 a (List.mem_of_getElem? ha)) (z7 b (List.mem_of_getElem? hb))
        have hw : i < ws.length := (List.getElem?_eq_some_iff.mp v1).1
        walk_at "go"
        refine g_setL upd_same (ixN_at (by rw [List.length_map]; exact hw)) ?_
        refine ⟨_, rfl, ?_⟩
        rw [upd_upd, ← v2, List.map_set, ← dotN_succ ha hb]
      · rintro σ' H' ⟨y5, rfl, rfl⟩
        refine ⟨_, _, rfl, ?_⟩
        rw [← z1, List.take_length, List.drop_length, List.map_nil, List.append_nil]
    · rintro σ' H' ⟨y4, y5, rfl, rfl⟩
      walk_at "go"
      rename_i t ht
      refine q t _ ((same_new hD).free ht) ((same_new hD).trans (same_new ht)) ?_
      rw [upd_same]
      show _ = some (HO.tup ((rs.map (fun r => dotN r xs xs.length)).map V.int))
      rw [z2]
theorem c_col (T : Top K mg) : Cal P w K mg base "_law_by_columns" 1 P__law_by_columns (spCol K) := cal_mk T.f__law_by_columns (ok_col T) (fun F => F.bindsN fun _ _ _ _ _ _ us hl => match us, hl with | [_, _], _ => rfl)
end

set_option Elab.async false
set_option linter.all false
set_option maxRecDepth 100000
set_option maxHeartbeats 4000000
open PySem PySem.Spec L2

section
variable {P : Program} {w : World} {K : PySem.W.Frag} {mg : Str → Option Value} {base : Heap}

/-! what stands on the heap beside the bag -/
def Rw (H : Hp) (a p : Addr) (ns : List Int) : Prop := p ≠ a ∧ H p = some (.lst (ns.map V.int))
theorem Rw.chg {H H' : Hp} {a p : Addr} {ns : List Int} (h : Rw H a p ns) (c : Chg a H H') : Rw H' a p ns := ⟨h.1, c _ _ h.1 h.2⟩
theorem Rw.sq {K : PySem.W.Frag} {H : Hp} {a p : Addr} {ns : List Int} (h : Rw H a p ns) : Sq K H p (ns.map V.int) := .inl (.of h.2)
def GridL (H : Hp) (a g : Addr) (rs : List (List Int)) : Prop := g ≠ a ∧ ∃ ps : List Addr, H g = some (.lst (ps.map V.ref)) ∧ ps.length = rs.length ∧ ∀ (i : Nat) (r : List Int), rs[i]? = some r → ∃ p, ps[i]? = some p ∧ Rw H a p r
theorem GridL.chg {H H' : Hp} {a g : Addr} {rs : List (List Int)} (h : GridL H a g rs) (c : Chg a H H') : GridL H' a g rs := by
  obtain ⟨n, ps, e, l, k⟩ := h
  exact ⟨n, ps, c _ _ n e, l, fun i r e2 => by
    obtain ⟨p, e3, z⟩ := k i r e2
    exact ⟨p, e3, z.chg c⟩⟩
theorem GridL.grid {K : PySem.W.Frag} {H : Hp} {a g : Addr} {rs : List (List Int)} (h : GridL H a g rs) : Grid K H g rs := by
  obtain ⟨n, ps, e, l, k⟩ := h
  exact ⟨ps, .inl (.of e), l, fun i r e2 => by
    obtain ⟨p, e3, z⟩ := k i r e2
    exact ⟨p, e3, z.sq⟩⟩
theorem dpAll_ints {K : PySem.W.Frag} {H : Hp} : ∀ ns : List Int, DpAll K H (ns.map V.int) (ns.map PyData.int)
  | [] => .nil
  | _ :: r => .cons (.int _) (dpAll_ints r)
def dT (ns : List Int) : PyData := .tuple (ns.map PyData.int)
theorem dp_tupI {K : PySem.W.Frag} {H : Hp} {p : Addr} {ns : List Int} (h : H p = some (.tup (ns.map V.int))) : Dp K H (.ref p) (dT ns) := .tup (.of h) (dpAll_ints ns)
theorem depth_ints (ns : List Int) : PyData.depthAll (ns.map PyData.int) = 0 := by
  induction ns with
  | nil => rfl
  | cons n r ih =>
    show max (PyData.depth (.int n)) (PyData.depthAll (r.map PyData.int)) = 0
    rw [ih]
    rfl
theorem depth_dT (ns : List Int) : (dT ns).depth = 1 := by
  show PyData.depthAll (ns.map PyData.int) + 1 = 1
  rw [depth_ints]
theorem small_ints (ns : List Int) : smallAll (ns.map PyData.int) = true := by
  induction ns with
  | nil => rfl
  | cons n r ih =>
    show (smallD (.int n) && smallAll (r.map PyData.int)) = true
    rw [ih]
    rfl
theorem small_dT {ns : List Int} (h : ns.length ≤ 1000) : smallD (dT ns) = true := by
  show (decide ((ns.map PyData.int).length ≤ 1000) && smallAll (ns.map PyData.int)) = true
  rw [small_ints, List.length_map, decide_eq_true h]
  rfl
/-- two tuples of the same numbers -/
theorem g_likeT {p q : Addr} {ns ms : List Int} {H : Hp} {Q : VK} {E : XK} (h1 : H p = some (.tup (ns.map V.int))) (h2 : H q = some (.tup (ms.map V.int))) (e : ns = ms) (hl : ns.length ≤ 1000) (k : ∀ H', Same H H' → Q (.bl true) H') : spLike K 2 [.ref p, .ref q] H Q E := by
  subst e
  exact g_likeD (dp_tupI h1) (dp_tupI h2) (by rw [depth_dT]; decide) (small_dT hl) k
theorem g_likeI {i j : Int} {H : Hp} {Q : VK} {E : XK} (e : i = j) (k : ∀ H', Same H H' → Q (.bl true) H') : spLike K 2 [.int i, .int j] H Q E := by
  subst e
  exact g_likeD (.int i) (.int i) (Nat.zero_le _) rfl k
/-! the promises of the program's functions -/
def addI (xs ys : List Int) : List Int := List.zipWith (· + ·) xs ys
def spAdd (K : PySem.W.Frag) : Sp := fun vs H Q _ => ∃ (x y : Addr) (xs ys : List Int), vs = [.ref x, .ref y] ∧ Sq K H x (xs.map V.int) ∧ Sq K H y (ys.map V.int) ∧ xs.length = ys.length ∧ xs.length ≤ 1000 ∧
  ∀ (p : Addr) (H' : Hp), H p = none → Same H H' → H' p = some (.tup ((addI xs ys).map V.int)) → Q (.ref p) H'
theorem g_add {x y : Addr} {xs ys : List Int} {H : Hp} {Q : VK} {E : XK} (h1 : Sq K H x (xs.map V.int)) (h2 : Sq K H y (ys.map V.int)) (h3 : xs.length = ys.length) (h4 : xs.length ≤ 1000)
    (q : ∀ (p : Addr) (H' : Hp), H p = none → Same H H' → H' p = some (.tup ((addI xs ys).map V.int)) → Q (.ref p) H') : spAdd K [.ref x, .ref y] H Q E := ⟨x, y, xs, ys, rfl, h1, h2, h3, h4, q⟩
def spCutP (K : PySem.W.Frag) : Sp := fun vs H Q _ => ∃ (x : Addr) (ns : List Int) (m : Int), vs = [.ref x, .int m] ∧ Sq K H x (ns.map V.int) ∧ ns.length ≤ 1000 ∧ 1 ≤ m ∧
  ∀ (p : Addr) (H' : Hp), H p = none → Same H H' → H' p = some (.tup ((ns.map (cutI m)).map V.int)) → Q (.ref p) H'
theorem g_cutP {x : Addr} {ns : List Int} {m : Int} {H : Hp} {Q : VK} {E : XK} (h : Sq K H x (ns.map V.int)) (hl : ns.length ≤ 1000) (hm : 1 ≤ m)
    (q : ∀ (p : Addr) (H' : Hp), H p = none → Same H H' → H' p = some (.tup ((ns.map (cutI m)).map V.int)) → Q (.ref p) H') : spCutP K [.ref x, .int m] H Q E := ⟨x, ns, m, rfl, h, hl, hm, q⟩
def spDot (K : PySem.W.Frag) : Sp := fun vs H Q _ => ∃ (x y : Addr) (xs ys : List Int), vs = [.ref x, .ref y] ∧ Sq K H x (xs.map V.int) ∧ Sq K H y (ys.map V.int) ∧ xs.length = ys.length ∧ xs.length ≤ 1000 ∧ (∀ n ∈ xs, Sml n) ∧ (∀ n ∈ ys, Sml n) ∧
  ∀ (H' : Hp), Same H H' → Q (.int (dotI xs ys)) H'
theorem g_dot {x y : Addr} {xs ys : List Int} {H : Hp} {Q : VK} {E : XK} (h1 : Sq K H x (xs.map V.int)) (h2 : Sq K H y (ys.map V.int)) (h3 : xs.length = ys.length) (h4 : xs.length ≤ 1000) (h5 : ∀ n ∈ xs, Sml n) (h6 : ∀ n ∈ ys, Sml n)
    (q : ∀ (H' : Hp), Same H H' → Q (.int (dotI xs ys)) H') : spDot K [.ref x, .ref y] H Q E := ⟨x, y, xs, ys, rfl, h1, h2, h3, h4, h5, h6, q⟩
def upI (n : Int) : Int := if n > 0 then n else 0
def spUp (K : PySem.W.Frag) : Sp := fun vs H Q _ => ∃ (x : Addr) (ns : List Int), vs = [.ref x] ∧ Sq K H x (ns.map V.int) ∧ ns.length ≤ 1000 ∧
  ∀ (p : Addr) (H' : Hp), H p = none → Same H H' → H' p = some (.tup ((ns.map upI).map V.int)) → Q (.ref p) H'
theorem g_up {x : Addr} {ns : List Int} {H : Hp} {Q : VK} {E : XK} (h : Sq K H x (ns.map V.int)) (hl : ns.length ≤ 1000)
    (q : ∀ (p : Addr) (H' : Hp), H p = none → Same H H' → H' p = some (.tup ((ns.map upI).map V.int)) → Q (.ref p) H') : spUp K [.ref x] H Q E := ⟨x, ns, rfl, h, hl, q⟩
end

set_option Elab.async false
set_option linter.all false
set_option maxRecDepth 100000
set_option maxHeartbeats 4000000
open PySem PySem.Spec L2

section
variable {P : Program} {w : World} {K : PySem.W.Frag} {mg : Str → Option Value} {base : Heap}
/-! the program -/
theorem Sq.b {H : Hp} {p : Addr} {xs : List V} (h : Sq K H p xs) : ∃ k, SqB k K H p xs := by
  rcases h with h | h
  · exact ⟨true, h⟩
  · exact ⟨false, h⟩
theorem chg_sqB {k : Bool} {H H' : Hp} {D p : Addr} {xs : List V} (c : SqB k K H p xs) (d : Chg D H H') (hD : H D = none) : SqB k K H' p xs := sqB_same c (chg_same d hD)
theorem take_zip {f : Int → Int → Int} {xs ys : List Int} {i : Nat} {a b : Int} (h1 : xs[i]? = some a) (h2 : ys[i]? = some b) :
    (List.zipWith f xs ys).take (i + 1) = (List.zipWith f xs ys).take i ++ [f a b] := by
  rw [List.take_add_one, List.getElem?_zipWith, h1, h2]
  rfl
theorem prods_dot {xs ys : List Int} (h : xs.length = ys.length) : ∀ j, j ≤ xs.length → ((List.zipWith (· * ·) xs ys).take j).sum = dotN xs ys j
  | 0, _ => rfl
  | j + 1, hj => by
    have e1 : xs[j]? = some xs[j] := List.getElem?_eq_getElem (by omega)
    have e2 : ys[j]? = some (ys[j]'(by omega)) := List.getElem?_eq_getElem (by omega)
    rw [take_zip e1 e2, List.sum_append, prods_dot h j (by omega), dotN_succ e2 e1, Int.mul_comm]
    simp
theorem filter_all (S : List Int) (f : Int → V) : (S.filter (fun _ => true)).map f = S.map f := by
  congr 1
  induction S with
  | nil => rfl
  | cons x r ih => rw [List.filter_cons_of_pos rfl, ih]
def qMax2 : List V → Hp → VK → Prop := fun xs H Q => ∃ i j, xs = [.int i, .int j] ∧ Q (.int (if j > i then j else i)) H
theorem c_max2 {X : Cx} (c : X.calm = true) : CallR X (.builtin "max") qMax2 := call_max2 c
theorem g_max2 {i j : Int} {H : Hp} {Q : VK} (h : Q (.int (if j > i then j else i)) H) : qMax2 [.int i, .int j] H Q := ⟨i, j, rfl, h⟩
def qMin2 : List V → Hp → VK → Prop := fun xs H Q => ∃ i j, xs = [.int i, .int j] ∧ Q (.int (if j < i then j else i)) H
theorem c_min2 {X : Cx} (c : X.calm = true) : CallR X (.builtin "min") qMin2 := call_min2 c
theorem g_min2 {i j : Int} {H : Hp} {Q : VK} (h : Q (.int (if j < i then j else i)) H) : qMin2 [.int i, .int j] H Q := ⟨i, j, rfl, h⟩
local macro_rules | `(tactic| walk_at "s") => `(tactic| first
  | with_reducible refine' g_max2 ?_
  | with_reducible refine' g_min2 ?_
  | with_reducible refine' g_iZm ?_)
theorem ok_dot (T : Top K mg) {f : Addr} {fd : FuncData} (F : FnP K "dot" s_dot f fd) : FnOk P w K mg base CX0 3 f fd P_dot (spDot K) := by
  refine F.ok sc_dot (fun vs H Q E h => ?_) (fun cdv A outer s H vs Q E hr h => ?_)
  · obtain ⟨x, y, xs, ys, rfl, _⟩ := h
    rfl
  · obtain ⟨x, y, xs, ys, rfl, h1, h2, h3, h4, h5, h6, q⟩ := h
    obtain ⟨k, c1⟩ := h1.b
    obtain ⟨l, c2⟩ := h2.b
    refine ⟨_, PSs.nox (pss_one (ps_ret (pe_callB (k_sum (K := K) (by rfl) (by rfl)) (by rfl) T.z_sum (by decide +kernel) (pa_cons (pe_lc (own := [("first", 2), ("second", 3)]) (g := gTup K 2 (gCons (gName 2) (gCons (gName 3) gNil))) (by rfl) sc_dot.nd (k_zm (K := K) (by rfl) (by rfl) T.z_zip (pa_cons (pv 0) (pa_cons (pv 1) pa_nil))) (blkOk_by (own := [("first", 2), ("second", 3)]) (N := N_dot) (sc := defScope s_dot) (by decide +kernel)) (fun _ _ _ _ _ => (k_pgt (K := K) (n := 2) (by rfl) (by rfl) (pgs_cons (pg_name (i := 2) sc_dot.nd rfl (Or.inl rfl)) (pgs_cons (pg_name (i := 3) sc_dot.nd rfl (Or.inl rfl)) pgs_nil)) (by rfl) (by rfl))) (fun _ _ _ _ _ => pts_nil) (fun _ _ _ _ _ => (pe_op op_mulW (pv 2) (pv 3)))) pa_nil)))), ?_⟩
    try simp only [cxK]
    rw [show L2.start N_dot [V.ref x, V.ref y] = [some (.ref x), some (.ref y), none, none] from rfl]
    walk_at "go"
    refine g_zm c1 c2 ?_
    refine lcM (xs := xs.map V.int) (ys := ys.map V.int) (by rw [List.length_map, List.length_map]; exact h3) (σ0 := [some (.ref x), some (.ref y), none, none]) rfl fun D hD =>
      ⟨fun i H' => H' D = some (.lst (((List.zipWith (· * ·) xs ys).take i).map V.int)) ∧ Chg D H H', ⟨upd_same, Chg.upd⟩, ?_, ?_, ?_⟩
    · rintro i H' ⟨_, ch⟩
      exact ⟨chg_sqB c1 ch hD, chg_sqB c2 ch hD⟩
    · rintro i x' y' U H' hx hy ⟨e1, ch⟩ hU
      rw [List.getElem?_map, Option.map_eq_some_iff] at hx hy
      obtain ⟨n, hn, rfl⟩ := hx
      obtain ⟨m, hm, rfl⟩ := hy
      have i1 : i < xs.length := (List.getElem?_eq_some_iff.mp hn).1
      have nU : U ≠ D := Ne.symm (ne_of_none e1 hU)
      have mw : CMulW n m := mulW (h5 n (List.mem_of_getElem? hn)) (h6 m (List.mem_of_getElem? hm))
      walk_at "go"
      have e3 : upd H' U (.tup [V.int n, V.int m]) D = some (.lst (((List.zipWith (· * ·) xs ys).take i).map V.int)) := by walk_at "h"
      refine g_turnD e3 (by rw [List.length_map, List.length_take]; omega) ⟨?_, by walk_at "chg"⟩
      rw [upd_same, take_zip hn hm, List.map_append]
      rfl
    · rintro H' ⟨e1, ch⟩
      have lz : (List.zipWith (· * ·) xs ys).length = xs.length := by rw [List.length_zipWith]; omega
      rw [List.length_map, List.take_of_length_le (by omega)] at e1
      walk_at "go"
      have e : (List.zipWith (· * ·) xs ys).sum = dotI xs ys := by
        have z := prods_dot h3 xs.length (Nat.le_refl _)
        rw [List.take_of_length_le (by omega)] at z
        rw [z]
        unfold dotI
        rw [h3]
      rw [e]
      exact q _ (chg_same ch hD)
theorem ok_added (T : Top K mg) {f : Addr} {fd : FuncData} (F : FnP K "added" s_added f fd) : FnOk P w K mg base CX0 5 f fd P_added (spAdd K) := by
  refine F.ok sc_added (fun vs H Q E h => ?_) (fun cdv A outer s H vs Q E hr h => ?_)
  · obtain ⟨x, y, xs, ys, rfl, _⟩ := h
    rfl
  · obtain ⟨x, y, xs, ys, rfl, h1, h2, h3, h4, q⟩ := h
    obtain ⟨k, c1⟩ := h1.b
    obtain ⟨l, c2⟩ := h2.b
    refine ⟨_, PSs.nox (pss_one (ps_ret (pe_callTy (k_tuple (K := K) (by rfl)) (by rfl) T.z_tuple (by decide +kernel) (pa_cons (pe_lc (own := [("first", 2), ("second", 3)]) (g := gTup K 2 (gCons (gName 2) (gCons (gName 3) gNil))) (by rfl) sc_added.nd (k_zm (K := K) (by rfl) (by rfl) T.z_zip (pa_cons (pv 0) (pa_cons (pv 1) pa_nil))) (blkOk_by (own := [("first", 2), ("second", 3)]) (N := N_added) (sc := defScope s_added) (by decide +kernel)) (fun _ _ _ _ _ => (k_pgt (K := K) (n := 2) (by rfl) (by rfl) (pgs_cons (pg_name (i := 2) sc_added.nd rfl (Or.inl rfl)) (pgs_cons (pg_name (i := 3) sc_added.nd rfl (Or.inl rfl)) pgs_nil)) (by rfl) (by rfl))) (fun _ _ _ _ _ => pts_nil) (fun _ _ _ _ _ => (pe_op op_add (pv 2) (pv 3)))) pa_nil)))), ?_⟩
    try simp only [cxK]
    rw [show L2.start N_added [V.ref x, V.ref y] = [some (.ref x), some (.ref y), none, none] from rfl]
    walk_at "go"
    refine g_zm c1 c2 ?_
    refine lcM (xs := xs.map V.int) (ys := ys.map V.int) (by rw [List.length_map, List.length_map]; exact h3) (σ0 := [some (.ref x), some (.ref y), none, none]) rfl fun D hD =>
      ⟨fun i H' => H' D = some (.lst (((addI xs ys).take i).map V.int)) ∧ Chg D H H', ⟨upd_same, Chg.upd⟩, ?_, ?_, ?_⟩
    · rintro i H' ⟨_, ch⟩
      exact ⟨chg_sqB c1 ch hD, chg_sqB c2 ch hD⟩
    · rintro i x' y' U H' hx hy ⟨e1, ch⟩ hU
      rw [List.getElem?_map, Option.map_eq_some_iff] at hx hy
      obtain ⟨n, hn, rfl⟩ := hx
      obtain ⟨m, hm, rfl⟩ := hy
      have i1 : i < xs.length := (List.getElem?_eq_some_iff.mp hn).1
      have nU : U ≠ D := Ne.symm (ne_of_none e1 hU)
      walk_at "go"
      have e3 : upd H' U (.tup [V.int n, V.int m]) D = some (.lst (((addI xs ys).take i).map V.int)) := by walk_at "h"
      refine g_turnD e3 (by rw [List.length_map, List.length_take]; omega) ⟨?_, by walk_at "chg"⟩
      rw [upd_same]
      show some (HO.lst (((List.zipWith (· + ·) xs ys).take i).map V.int ++ [V.int (n + m)])) = some (HO.lst (((List.zipWith (· + ·) xs ys).take (i + 1)).map V.int))
      rw [take_zip hn hm, List.map_append]
      rfl
    · rintro H' ⟨e1, ch⟩
      have lz : (addI xs ys).length = xs.length := by unfold addI; rw [List.length_zipWith]; omega
      rw [List.length_map, List.take_of_length_le (by omega)] at e1
      walk_at "go"
      rename_i t ht
      exact q t _ ((chg_same ch hD).free ht) ((chg_same ch hD).trans (same_new ht)) upd_same
theorem ok_cut (T : Top K mg) {f : Addr} {fd : FuncData} (F : FnP K "cut" s_cut f fd) : FnOk P w K mg base CX0 5 f fd P_cut (spCutP K) := by
  have val : ∀ m n : Int, 1 ≤ m → (if (if n < m then n else m) > -m then (if n < m then n else m) else -m) = cutI m n := by
    intro m n hm
    unfold cutI
    repeat' split
    all_goals omega
  refine F.ok sc_cut (fun vs H Q E h => ?_) (fun cdv A outer s H vs Q E hr h => ?_)
  · obtain ⟨x, ns, m, rfl, _⟩ := h
    rfl
  · obtain ⟨x, ns, m, rfl, hx, hl, hm, q⟩ := h
    rcases hx with hx | hx
    · refine ⟨_, PSs.nox (pss_one (ps_ret (pe_callTy (k_tuple (K := K) (by rfl)) (by rfl) T.z_tuple (by decide +kernel) (pa_cons (pe_lc (own := [("number", 2)]) (g := gName 2) (by rfl) sc_cut.nd (k_pil (K := K) (by rfl) (pv 0)) (blkOk_by (own := [("number", 2)]) (N := N_cut) (sc := defScope s_cut) (by decide +kernel)) (fun _ _ _ _ _ => pg_name (i := 2) sc_cut.nd rfl (Or.inl rfl)) (fun _ _ _ _ _ => pts_nil) (fun _ _ _ _ _ => (pe_callB (c_max2 (by rfl)) (by rfl) T.z_max (by decide +kernel) (pa_cons (pe_un un_neg (pv 1)) (pa_cons (pe_callB (c_min2 (by rfl)) (by rfl) T.z_min (by decide +kernel) (pa_cons (pv 1) (pa_cons (pv 2) pa_nil))) pa_nil))))) pa_nil)))), ?_⟩
      try simp only [cxK]
      rw [show L2.start N_cut [.ref x, .int m] = [some (.ref x), some (.int m), none] from rfl]
      walk_at "go"
      refine lcP (S := ns) (f := fun n => .int (cutI m n)) (p := fun _ => true) (σ0 := [some (.ref x), some (.int m), none]) rfl hx hl ?_ ?_
      · intro D acc n N hD hk hy1 _
        have hy2 := hy1 rfl
        walk_at "go"
        rw [val m n hm]
        exact hy2
      intro D hD
      rw [filter_all]
      have eL : SqL K (upd H D (.lst (ns.map fun n => V.int (cutI m n)))) D (ns.map fun n => V.int (cutI m n)) := .of upd_same
      walk_at "go"
      rename_i t ht
      exact q t _ ((same_new hD).free ht) ((same_new hD).trans (same_new ht)) (by rw [upd_same, List.map_map]; rfl)
    · refine ⟨_, PSs.nox (pss_one (ps_ret (pe_callTy (k_tuple (K := K) (by rfl)) (by rfl) T.z_tuple (by decide +kernel) (pa_cons (pe_lc (own := [("number", 2)]) (g := gName 2) (by rfl) sc_cut.nd (k_pit (K := K) (by rfl) (pv 0)) (blkOk_by (own := [("number", 2)]) (N := N_cut) (sc := defScope s_cut) (by decide +kernel)) (fun _ _ _ _ _ => pg_name (i := 2) sc_cut.nd rfl (Or.inl rfl)) (fun _ _ _ _ _ => pts_nil) (fun _ _ _ _ _ => (pe_callB (c_max2 (by rfl)) (by rfl) T.z_max (by decide +kernel) (pa_cons (pe_un un_neg (pv 1)) (pa_cons (pe_callB (c_min2 (by rfl)) (by rfl) T.z_min (by decide +kernel) (pa_cons (pv 1) (pa_cons (pv 2) pa_nil))) pa_nil))))) pa_nil)))), ?_⟩
      try simp only [cxK]
      rw [show L2.start N_cut [.ref x, .int m] = [some (.ref x), some (.int m), none] from rfl]
      walk_at "go"
      refine lcPT (S := ns) (f := fun n => .int (cutI m n)) (p := fun _ => true) (σ0 := [some (.ref x), some (.int m), none]) rfl hx hl ?_ ?_
      · intro D acc n N hD hk hy1 _
        have hy2 := hy1 rfl
        walk_at "go"
        rw [val m n hm]
        exact hy2
      intro D hD
      rw [filter_all]
      have eL : SqL K (upd H D (.lst (ns.map fun n => V.int (cutI m n)))) D (ns.map fun n => V.int (cutI m n)) := .of upd_same
      walk_at "go"
      rename_i t ht
      exact q t _ ((same_new hD).free ht) ((same_new hD).trans (same_new ht)) (by rw [upd_same, List.map_map]; rfl)
theorem ok_raised (T : Top K mg) {f : Addr} {fd : FuncData} (F : FnP K "raised" s_raised f fd) : FnOk P w K mg base CX0 5 f fd P_raised (spUp K) := by
  refine F.ok sc_raised (fun vs H Q E h => ?_) (fun cdv A outer s H vs Q E hr h => ?_)
  · obtain ⟨x, ns, rfl, _⟩ := h
    rfl
  · obtain ⟨x, ns, rfl, hx, hl, q⟩ := h
    rcases hx with hx | hx
    · refine ⟨_, PSs.nox (pss_one (ps_ret (pe_callTy (k_tuple (K := K) (by rfl)) (by rfl) T.z_tuple (by decide +kernel) (pa_cons (pe_lc (own := [("number", 1)]) (g := gName 1) (by rfl) sc_raised.nd (k_pil (K := K) (by rfl) (pv 0)) (blkOk_by (own := [("number", 1)]) (N := N_raised) (sc := defScope s_raised) (by decide +kernel)) (fun _ _ _ _ _ => pg_name (i := 1) sc_raised.nd rfl (Or.inl rfl)) (fun _ _ _ _ _ => pts_nil) (fun _ _ _ _ _ => (pe_callB (c_max2 (by rfl)) (by rfl) T.z_max (by decide +kernel) (pa_cons pe_int (pa_cons (pv 1) pa_nil))))) pa_nil)))), ?_⟩
      try simp only [cxK]
      rw [show L2.start N_raised [.ref x] = [some (.ref x), none] from rfl]
      walk_at "go"
      refine lcP (S := ns) (f := fun n => .int (upI n)) (p := fun _ => true) (σ0 := [some (.ref x), none]) rfl hx hl ?_ ?_
      · intro D acc n N hD hk hy1 _
        have hy2 := hy1 rfl
        walk_at "go"
        exact hy2
      intro D hD
      rw [filter_all]
      have eL : SqL K (upd H D (.lst (ns.map fun n => V.int (upI n)))) D (ns.map fun n => V.int (upI n)) := .of upd_same
      walk_at "go"
      rename_i t ht
      exact q t _ ((same_new hD).free ht) ((same_new hD).trans (same_new ht)) (by rw [upd_same, List.map_map]; rfl)
    · refine ⟨_, PSs.nox (pss_one (ps_ret (pe_callTy (k_tuple (K := K) (by rfl)) (by rfl) T.z_tuple (by decide +kernel) (pa_cons (pe_lc (own := [("number", 1)]) (g := gName 1) (by rfl) sc_raised.nd (k_pit (K := K) (by rfl) (pv 0)) (blkOk_by (own := [("number", 1)]) (N := N_raised) (sc := defScope s_raised) (by decide +kernel)) (fun _ _ _ _ _ => pg_name (i := 1) sc_raised.nd rfl (Or.inl rfl)) (fun _ _ _ _ _ => pts_nil) (fun _ _ _ _ _ => (pe_callB (c_max2 (by rfl)) (by rfl) T.z_max (by decide +kernel) (pa_cons pe_int (pa_cons (pv 1) pa_nil))))) pa_nil)))), ?_⟩
      try simp only [cxK]
      rw [show L2.start N_raised [.ref x] = [some (.ref x), none] from rfl]
      walk_at "go"
      refine lcPT (S := ns) (f := fun n => .int (upI n)) (p := fun _ => true) (σ0 := [some (.ref x), none]) rfl hx hl ?_ ?_
      · intro D acc n N hD hk hy1 _
        have hy2 := hy1 rfl
        walk_at "go"
        exact hy2
      intro D hD
      rw [filter_all]
      have eL : SqL K (upd H D (.lst (ns.map fun n => V.int (upI n)))) D (ns.map fun n => V.int (upI n)) := .of upd_same
      walk_at "go"
      rename_i t ht
      exact q t _ ((same_new hD).free ht) ((same_new hD).trans (same_new ht)) (by rw [upd_same, List.map_map]; rfl)
theorem c_dot (T : Top K mg) : Cal P w K mg base "dot" 3 P_dot (spDot K) := cal_mk T.f_dot (ok_dot T) (fun F => F.bindsN fun _ _ _ _ _ _ us hl => match us, hl with | [_, _], _ => rfl)
theorem ok_times (T : Top K mg) {f : Addr} {fd : FuncData} (F : FnP K "times" s_times f fd) : FnOk P w K mg base CX0 5 f fd P_times (spCol K) := by
  have C_dot := c_dot (P := P) (w := w) (base := base) T
  refine F.ok sc_times (fun vs H Q E h => ?_) (fun cdv A outer s H vs Q E hr h => ?_)
  · obtain ⟨g, x, n, rs, xs, rfl, _⟩ := h
    rfl
  · obtain ⟨g, x, n, rs, xs, rfl, ⟨ps, hg, hps, hrow⟩, hx, ⟨z1, z2, z3, z4, z5⟩, q⟩ := h
    obtain ⟨k, c1⟩ := hg.b
    have step : ∀ (D : Addr) (i : Nat) (p : Addr) (H' : Hp), H D = none → ps[i]? = some p → Chg D H H' → H' D = some (.lst (((rs.take i).map (fun r => dotI r xs)).map V.int)) →
        ∃ r, rs[i]? = some r ∧ Sq K H' p (r.map V.int) ∧ Sq K H' x (xs.map V.int) ∧ r.length = n ∧ (∀ k ∈ r, Sml k) := by
      intro D i p H' hD hp ch _
      have hi : i < rs.length := by have := (List.getElem?_eq_some_iff.mp hp).1; omega
      have e : rs[i]? = some rs[i] := List.getElem?_eq_getElem hi
      obtain ⟨p', hp', sq⟩ := hrow i _ e
      obtain rfl : p = p' := Option.some.inj (hp.symm.trans hp')
      have sm := chg_same ch hD
      exact ⟨_, e, lt_same sm sq, lt_same sm hx, z5 _ (List.mem_of_getElem? e)⟩
    cases k
    · have c1 : SqT K H g (ps.map V.ref) := c1
      refine ⟨_, PSs.nox (pss_one (ps_ret (pe_callTy (k_tuple (K := K) (by rfl)) (by rfl) T.z_tuple (by decide +kernel) (pa_cons (pe_lc (own := [("line", 2)]) (g := gName 2) (by rfl) sc_times.nd (k_pit (K := K) (by rfl) (pv 0)) (blkOk_by (own := [("line", 2)]) (N := N_times) (sc := defScope s_times) (by decide +kernel)) (fun _ _ _ _ _ => pg_name (i := 2) sc_times.nd rfl (Or.inl rfl)) (fun _ _ _ _ _ => pts_nil) (fun _ _ _ _ _ => (pe_cal C_dot (hr.mono (by first | decide | omega)) (by rfl) (pa_cons (pv 2) (pa_cons (pv 1) pa_nil))))) pa_nil)))), ?_⟩
      try simp only [cxK]
      rw [show L2.start N_times [V.ref g, V.ref x] = [some (.ref g), some (.ref x), none] from rfl]
      walk_at "go"
      refine lcT (xs := ps.map V.ref) (σ0 := [some (.ref g), some (.ref x), none]) rfl fun D hD =>
        ⟨fun i H' => H' D = some (.lst (((rs.take i).map (fun r => dotI r xs)).map V.int)) ∧ Chg D H H', ⟨upd_same, Chg.upd⟩, ?_, ?_, ?_⟩
      · rintro i H' _ ⟨_, ch⟩
        exact seqT_same (chg_same ch hD) c1
      · rintro i v H' hv ⟨e1, ch⟩
        rw [List.getElem?_map, Option.map_eq_some_iff] at hv
        obtain ⟨p, hp, rfl⟩ := hv
        obtain ⟨r, hr1, s1, s2, l1, m1⟩ := step D i p H' hD hp ch e1
        have i1 : i < rs.length := (List.getElem?_eq_some_iff.mp hr1).1
        walk_at "go"
        refine g_dot s1 s2 (by omega) (by omega) m1 z4 fun H3 s3 => ?_
        refine g_turnD (s3 _ _ e1) (by rw [List.length_map, List.length_map, List.length_take]; omega) ⟨?_, by walk_at "chg"⟩
        rw [upd_same, List.take_add_one, hr1, List.map_append, List.map_append]
        rfl
      · rintro H' ⟨e1, ch⟩
        rw [List.length_map, List.take_of_length_le (by omega)] at e1
        walk_at "go"
        rename_i t ht
        exact q t _ ((chg_same ch hD).free ht) ((chg_same ch hD).trans (same_new ht)) upd_same
    · have c1 : SqL K H g (ps.map V.ref) := c1
      refine ⟨_, PSs.nox (pss_one (ps_ret (pe_callTy (k_tuple (K := K) (by rfl)) (by rfl) T.z_tuple (by decide +kernel) (pa_cons (pe_lc (own := [("line", 2)]) (g := gName 2) (by rfl) sc_times.nd (k_pil (K := K) (by rfl) (pv 0)) (blkOk_by (own := [("line", 2)]) (N := N_times) (sc := defScope s_times) (by decide +kernel)) (fun _ _ _ _ _ => pg_name (i := 2) sc_times.nd rfl (Or.inl rfl)) (fun _ _ _ _ _ => pts_nil) (fun _ _ _ _ _ => (pe_cal C_dot (hr.mono (by first | decide | omega)) (by rfl) (pa_cons (pv 2) (pa_cons (pv 1) pa_nil))))) pa_nil)))), ?_⟩
      try simp only [cxK]
      rw [show L2.start N_times [V.ref g, V.ref x] = [some (.ref g), some (.ref x), none] from rfl]
      walk_at "go"
      refine lcL (xs := ps.map V.ref) (σ0 := [some (.ref g), some (.ref x), none]) rfl fun D hD =>
        ⟨fun i H' => H' D = some (.lst (((rs.take i).map (fun r => dotI r xs)).map V.int)) ∧ Chg D H H', ⟨upd_same, Chg.upd⟩, ?_, ?_, ?_⟩
      · rintro i H' _ ⟨_, ch⟩
        exact (chg_same ch hD).seq c1
      · rintro i v H' hv ⟨e1, ch⟩
        rw [List.getElem?_map, Option.map_eq_some_iff] at hv
        obtain ⟨p, hp, rfl⟩ := hv
        obtain ⟨r, hr1, s1, s2, l1, m1⟩ := step D i p H' hD hp ch e1
        have i1 : i < rs.length := (List.getElem?_eq_some_iff.mp hr1).1
        walk_at "go"
        refine g_dot s1 s2 (by omega) (by omega) m1 z4 fun H3 s3 => ?_
        refine g_turnD (s3 _ _ e1) (by rw [List.length_map, List.length_map, List.length_take]; omega) ⟨?_, by walk_at "chg"⟩
        rw [upd_same, List.take_add_one, hr1, List.map_append, List.map_append]
        rfl
      · rintro H' ⟨e1, ch⟩
        rw [List.length_map, List.take_of_length_le (by omega)] at e1
        walk_at "go"
        rename_i t ht
        exact q t _ ((chg_same ch hD).free ht) ((chg_same ch hD).trans (same_new ht)) upd_same
theorem c_times (T : Top K mg) : Cal P w K mg base "times" 5 P_times (spCol K) := cal_mk T.f_times (ok_times T) (fun F => F.bindsN fun _ _ _ _ _ _ us hl => match us, hl with | [_, _], _ => rfl)
theorem c_added (T : Top K mg) : Cal P w K mg base "added" 5 P_added (spAdd K) := cal_mk T.f_added (ok_added T) (fun F => F.bindsN fun _ _ _ _ _ _ us hl => match us, hl with | [_, _], _ => rfl)
theorem c_cut (T : Top K mg) : Cal P w K mg base "cut" 5 P_cut (spCutP K) := cal_mk T.f_cut (ok_cut T) (fun F => F.bindsN fun _ _ _ _ _ _ us hl => match us, hl with | [_, _], _ => rfl)
theorem c_raised (T : Top K mg) : Cal P w K mg base "raised" 5 P_raised (spUp K) := cal_mk T.f_raised (ok_raised T) (fun F => F.bindsN fun _ _ _ _ _ _ us hl => match us, hl with | [_], _ => rfl)
theorem kc_times_0_row_table (T : Top K mg) : KCal P w K mg base "times" 5 0 ["row", "table"] (fun vs zs => pick [(2, 1), (2, 0)] vs [] zs) (spCol K) := kcal_mk (ps := P_times) T.f_times (ok_times T) (fun F => kbindsN F 0 ["row", "table"] [(2, 1), (2, 0)] fun _ _ _ _ _ _ us ws l1 l2 => match us, ws, l1, l2 with | [], [_, _], _, _ => rfl)
theorem kc_added_0_other_one (T : Top K mg) : KCal P w K mg base "added" 5 0 ["other", "one"] (fun vs zs => pick [(2, 1), (2, 0)] vs [] zs) (spAdd K) := kcal_mk (ps := P_added) T.f_added (ok_added T) (fun F => kbindsN F 0 ["other", "one"] [(2, 1), (2, 0)] fun _ _ _ _ _ _ us ws l1 l2 => match us, ws, l1, l2 with | [], [_, _], _, _ => rfl)
theorem kc_cut_0_cap_row (T : Top K mg) : KCal P w K mg base "cut" 5 0 ["cap", "row"] (fun vs zs => pick [(2, 1), (2, 0)] vs [] zs) (spCutP K) := kcal_mk (ps := P_cut) T.f_cut (ok_cut T) (fun F => kbindsN F 0 ["cap", "row"] [(2, 1), (2, 0)] fun _ _ _ _ _ _ us ws l1 l2 => match us, ws, l1, l2 with | [], [_, _], _, _ => rfl)
theorem kc_dot_0_other_one (T : Top K mg) : KCal P w K mg base "dot" 3 0 ["other", "one"] (fun vs zs => pick [(2, 1), (2, 0)] vs [] zs) (spDot K) := kcal_mk (ps := P_dot) T.f_dot (ok_dot T) (fun F => kbindsN F 0 ["other", "one"] [(2, 1), (2, 0)] fun _ _ _ _ _ _ us ws l1 l2 => match us, ws, l1, l2 with | [], [_, _], _, _ => rfl)
theorem kc_raised_0_row (T : Top K mg) : KCal P w K mg base "raised" 5 0 ["row"] (fun vs zs => pick [(2, 0)] vs [] zs) (spUp K) := kcal_mk (ps := P_raised) T.f_raised (ok_raised T) (fun F => kbindsN F 0 ["row"] [(2, 0)] fun _ _ _ _ _ _ us ws l1 l2 => match us, ws, l1, l2 with | [], [_], _, _ => rfl)
end

set_option Elab.async false
set_option linter.all false
set_option maxRecDepth 100000
set_option maxHeartbeats 4000000
open PySem PySem.Spec L2

section
variable {P : Program} {w : World} {K : PySem.W.Frag} {mg : Str → Option Value} {base : Heap}

theorem Ob.chg {H H' : Hp} {a p : Addr} {xs : List V} (h : Ob H p xs) (n : p ≠ a) (c : Chg a H H') : Ob H' p xs := by
  rcases h with h | h
  · exact .inl (c _ _ n h)
  · exact .inr (c _ _ n h)
theorem Ob.put {H : Hp} {D p : Addr} {o : HO} {xs : List V} (h : Ob H p xs) (n : p ≠ D) : Ob (L2.upd H D o) p xs := by
  rcases h with h | h
  · exact .inl (h_ne n h)
  · exact .inr (h_ne n h)
/-- a table of lists or tuples -/
def GridO (H : Hp) (a g : Addr) (rs : List (List Int)) : Prop := g ≠ a ∧ ∃ ps : List Addr, Ob H g (ps.map V.ref) ∧ ps.length = rs.length ∧ ∀ (i : Nat) (r : List Int), rs[i]? = some r → ∃ p, ps[i]? = some p ∧ p ≠ a ∧ Ob H p (r.map V.int)
theorem GridO.chg {H H' : Hp} {a g : Addr} {rs : List (List Int)} (h : GridO H a g rs) (c : Chg a H H') : GridO H' a g rs := by
  obtain ⟨n, ps, e, l, k⟩ := h
  exact ⟨n, ps, e.chg n c, l, fun i r e2 => by
    obtain ⟨p, e3, m, z⟩ := k i r e2
    exact ⟨p, e3, m, z.chg m c⟩⟩
theorem GridO.grid {K : PySem.W.Frag} {H : Hp} {a g : Addr} {rs : List (List Int)} (h : GridO H a g rs) : Grid K H g rs := by
  obtain ⟨n, ps, e, l, k⟩ := h
  exact ⟨ps, e.sq, l, fun i r e2 => by
    obtain ⟨p, e3, m, z⟩ := k i r e2
    exact ⟨p, e3, z.sq⟩⟩
def Tp (H : Hp) (a p : Addr) (ns : List Int) : Prop := p ≠ a ∧ H p = some (.tup (ns.map V.int))
theorem Tp.chg {H H' : Hp} {a p : Addr} {ns : List Int} (h : Tp H a p ns) (c : Chg a H H') : Tp H' a p ns := ⟨h.1, c _ _ h.1 h.2⟩
/-- the lists that a comprehension over the rows has made so far -/
def Made (H : Hp) (a l D : Addr) (rs : List (List Int)) (H1 : Hp) (i : Nat) : Prop := ∃ qs : List Addr, H D = some (.lst (qs.map V.ref)) ∧ qs.length = i ∧
  (∀ (k : Nat) (q : Addr) (r : List Int), qs[k]? = some q → rs[k]? = some r → q ≠ a ∧ q ≠ D ∧ Ob H q (r.map V.int)) ∧ Bag H a l ∧ Chg a H1 H
theorem Made.next {H H2 H1 : Hp} {a l D q : Addr} {rs : List (List Int)} {i : Nat} {r : List Int} (h : Made H a l D rs H1 i) (hD : H1 D = none) (naD : D ≠ a) (nlD : D ≠ l) (hr : rs[i]? = some r) (hi : i < 1000)
    (fq : H q = none) (nq : q ≠ a) (B2 : Bag H2 a l) (c2 : Chg a H H2) (ob : Ob H2 q (r.map V.int)) : TurnD D (fun H' => Made H' a l D rs H1 (i + 1)) (.ref q) H2 := by
  obtain ⟨qs, e, hl, k, B, c⟩ := h
  have e2 := c2 _ _ naD e
  refine g_turnD e2 (by rw [List.length_map]; omega) ⟨qs ++ [q], by rw [upd_same, List.map_append]; rfl, by simp [hl], ?_, bag_chg B2 naD nlD, (c.trans c2).putn hD⟩
  intro j q' r' h1 h2
  by_cases hj : j < qs.length
  · rw [List.getElem?_append_left hj] at h1
    obtain ⟨k1, k2, k3⟩ := k j q' r' h1 h2
    exact ⟨k1, k2, (k3.chg k1 c2).put k2⟩
  · have ej : j = i := by
      have := (List.getElem?_eq_some_iff.mp h1).1
      rw [List.length_append] at this
      simp only [List.length_cons, List.length_nil] at this
      omega
    subst ej
    rw [List.getElem?_append_right (by omega), hl, Nat.sub_self] at h1
    obtain rfl : q = q' := Option.some.inj h1
    obtain rfl : r = r' := Option.some.inj (hr.symm.trans h2)
    have nD : q ≠ D := Ne.symm (ne_of_none e fq)
    exact ⟨nq, nD, ob.put nD⟩
theorem Made.grid {H H1 : Hp} {a l D : Addr} {rs : List (List Int)} (h : Made H a l D rs H1 rs.length) (naD : D ≠ a) : GridO H a D rs := by
  obtain ⟨qs, e, hl, k, _, _⟩ := h
  refine ⟨naD, qs, .inl e, hl, fun i r hr => ?_⟩
  obtain ⟨q, hq⟩ := get_ltI (xs := qs) (i := i) (by rw [hl]; exact (List.getElem?_eq_some_iff.mp hr).1)
  obtain ⟨k1, _, k3⟩ := k i q r hq hr
  exact ⟨q, hq, k1, k3⟩
theorem Ob.ne {H : Hp} {p t : Addr} {xs : List V} (h : Ob H p xs) (ht : H t = none) : p ≠ t := by
  rcases h with h | h <;> exact ne_of_none h ht
theorem Made.gridT {H : Hp} {a D t : Addr} {rs : List (List Int)} {qs : List Addr} (hl : qs.length = rs.length)
    (k : ∀ (k : Nat) (q : Addr) (r : List Int), qs[k]? = some q → rs[k]? = some r → q ≠ a ∧ q ≠ D ∧ Ob H q (r.map V.int)) (ht : H t = none) (nta : t ≠ a) : GridO (L2.upd H t (.tup (qs.map V.ref))) a t rs := by
  refine ⟨nta, qs, .inr upd_same, hl, fun i r hr => ?_⟩
  obtain ⟨q, hq⟩ := get_ltI (xs := qs) (i := i) (by rw [hl]; exact (List.getElem?_eq_some_iff.mp hr).1)
  obtain ⟨k1, _, k3⟩ := k i q r hq hr
  exact ⟨q, hq, k1, k3.put (k3.ne ht)⟩
theorem at_getD {ns : List Int} {k : Nat} (h : k < ns.length) : atI (ns.map V.int) (0 + (k : Int)) = some (.int (ns.getD k 0)) := at_nat (by rw [List.getD_eq_getElem?_getD, List.getElem?_eq_getElem h]; rfl)
theorem range_add {xs ys : List Int} {n : Nat} (h1 : xs.length = n) (h2 : ys.length = n) : ((List.range n).filter fun _ => true).map (fun k => V.int (xs.getD k 0 + ys.getD k 0)) = (addI xs ys).map V.int := by
  rw [List.filter_eq_self.mpr (fun _ _ => rfl)]
  refine List.ext_getElem? fun i => ?_
  rw [List.getElem?_map, List.getElem?_map]
  unfold addI
  rw [List.getElem?_zipWith]
  by_cases hi : i < n
  · rw [List.getElem?_range hi, List.getElem?_eq_getElem (show i < xs.length by omega), List.getElem?_eq_getElem (show i < ys.length by omega)]
    show some (V.int (xs.getD i 0 + ys.getD i 0)) = _
    rw [List.getD_eq_getElem?_getD, List.getD_eq_getElem?_getD, List.getElem?_eq_getElem (show i < xs.length by omega), List.getElem?_eq_getElem (show i < ys.length by omega)]
    rfl
  · rw [List.getElem?_eq_none (by rw [List.length_range]; omega), List.getElem?_eq_none (show xs.length ≤ i by omega)]
    rfl
theorem addI_comm (xs ys : List Int) : addI xs ys = addI ys xs := by
  unfold addI
  exact List.zipWith_comm_of_comm (fun a b => Int.add_comm a b)
theorem addI_len {xs ys : List Int} {n : Nat} (h1 : xs.length = n) (h2 : ys.length = n) : (addI xs ys).length = n := by
  unfold addI
  rw [List.length_zipWith, h1, h2, Nat.min_self]
theorem dotN_comm (r xs : List Int) : ∀ j, dotN r xs j = dotN xs r j
  | 0 => rfl
  | j + 1 => by
    show dotN r xs j + xs.getD j 0 * r.getD j 0 = dotN xs r j + r.getD j 0 * xs.getD j 0
    rw [dotN_comm r xs j, Int.mul_comm]
theorem filter_yes (xs : List Int) (f : Int → Int) : (xs.filter fun _ => true).map (fun i => V.int (f i)) = (xs.map f).map V.int := by
  rw [List.filter_eq_self.mpr (fun _ _ => rfl), List.map_map]
  rfl
def spSums : Sp := fun vs H Q _ => ∃ (a l x y g : Addr) (n : Nat) (m : Int) (xs ys : List Int) (rs : List (List Int)), vs = [.ref a, .ref x, .ref y, .ref g, .int m] ∧ Bag H a l ∧ Rw H a x xs ∧ Rw H a y ys ∧ GridL H a g rs ∧
  Sz n rs xs ∧ (ys.length = n ∧ ∀ k ∈ ys, Sml k) ∧ 1 ≤ m ∧ ∀ H', Bag H' a l → Chg a H H' → Q (.bl true) H'
theorem ok_sums {f : Addr} {fd : FuncData} (T : Top K mg) (F : FnP K "_law_sums_so" s__law_sums_so f fd) : FnOk P w K mg base CX0 6 f fd P__law_sums_so spSums := by
  have C__law_by_columns := c_col (P := P) (w := w) (base := base) T
  have C__law_cut := c_lcut (P := P) (w := w) (base := base) T
  have C__law_passed := c_passed (P := P) (w := w) (base := base) T
  have C__law_like := c_like (P := P) (w := w) (base := base) T 2
  have C_times := c_times (P := P) (w := w) (base := base) T
  have C_added := c_added (P := P) (w := w) (base := base) T
  have C_cut := c_cut (P := P) (w := w) (base := base) T
  have C_dot := c_dot (P := P) (w := w) (base := base) T
  have C_raised := c_raised (P := P) (w := w) (base := base) T
  have KC_times_0_row_table := kc_times_0_row_table (P := P) (w := w) (base := base) T
  have KC_added_0_other_one := kc_added_0_other_one (P := P) (w := w) (base := base) T
  have KC_cut_0_cap_row := kc_cut_0_cap_row (P := P) (w := w) (base := base) T
  have KC_dot_0_other_one := kc_dot_0_other_one (P := P) (w := w) (base := base) T
  have KC_raised_0_row := kc_raised_0_row (P := P) (w := w) (base := base) T
  refine F.ok sc__law_sums_so (fun vs H Q E h => ?_) (fun cdv A outer s H vs Q E hr h => ?_)
  · obtain ⟨a, l, x, y, g, n, m, xs, ys, rs, rfl, _⟩ := h
    rfl
  · obtain ⟨a, l, x, y, g, n, m, xs, ys, rs, rfl, hB, hx, hy, hg, sz, ⟨yl, ysm⟩, hm, q⟩ := h
    refine ⟨_, PSs.nox (pss_cons (ps_set (i := 5) sc__law_sums_so.nd rfl (by first | exact Or.inl rfl | exact Or.inr rfl) (pe_callB (k_len (K := K) (by rfl)) (by rfl) T.z_len (by decide +kernel) (pa_cons (pv 1) pa_nil)))
    (pss_cons (ps_set (i := 6) sc__law_sums_so.nd rfl (by first | exact Or.inl rfl | exact Or.inr rfl) (pe_cal C__law_by_columns (hr.mono (by first | decide | omega)) (by rfl) (pa_cons (pv 3) (pa_cons (pv 1) pa_nil))))
    (pss_cons (ps_if (pt_not (pt_val (pe_cal C__law_like (hr.mono (by first | decide | omega)) (by rfl) (pa_cons (pe_cal C_times (hr.mono (by first | decide | omega)) (by rfl) (pa_cons (pe_lc (own := [("lot", 7)]) (g := gName 7) (by rfl) sc__law_sums_so.nd (k_pil (K := K) (by rfl) (pv 3)) (blkOk_by (own := [("lot", 7)]) (N := N__law_sums_so) (sc := defScope s__law_sums_so) (by decide +kernel)) (fun _ _ _ _ _ => pg_name (i := 7) sc__law_sums_so.nd rfl (Or.inl rfl)) (fun _ _ _ _ _ => pts_nil) (fun _ _ _ _ _ => (pe_cal C__law_passed (hr.mono (by first | decide | omega)) (by rfl) (pa_cons (pv 0) (pa_cons (pv 7) pa_nil))))) (pa_cons (pe_cal C__law_passed (hr.mono (by first | decide | omega)) (by rfl) (pa_cons (pv 0) (pa_cons (pv 1) pa_nil))) pa_nil))) (pa_cons (pv 6) pa_nil)))))
    (pss_one (ps_ret pe_bl))
    pss_nil)
    (pss_cons (ps_if (pt_not (pt_val (pe_cal C__law_like (hr.mono (by first | decide | omega)) (by rfl) (pa_cons (pe_kcal0 KC_times_0_row_table (hr.mono (by first | decide | omega)) (by rfl) (pk_cons (pe_cal C__law_passed (hr.mono (by first | decide | omega)) (by rfl) (pa_cons (pv 0) (pa_cons (pv 1) pa_nil))) (pk_cons (pe_callTy (k_tuple (K := K) (by rfl)) (by rfl) T.z_tuple (by decide +kernel) (pa_cons (pe_lc (own := [("lot", 7)]) (g := gName 7) (by rfl) sc__law_sums_so.nd (k_pil (K := K) (by rfl) (pv 3)) (blkOk_by (own := [("lot", 7)]) (N := N__law_sums_so) (sc := defScope s__law_sums_so) (by decide +kernel)) (fun _ _ _ _ _ => pg_name (i := 7) sc__law_sums_so.nd rfl (Or.inl rfl)) (fun _ _ _ _ _ => pts_nil) (fun _ _ _ _ _ => (pe_callTy (k_tuple (K := K) (by rfl)) (by rfl) T.z_tuple (by decide +kernel) (pa_cons (pv 7) pa_nil)))) pa_nil)) pk_nil)) ) (pa_cons (pv 6) pa_nil)))))
    (pss_one (ps_ret pe_bl))
    pss_nil)
    (pss_cons (ps_set (i := 8) sc__law_sums_so.nd rfl (by first | exact Or.inl rfl | exact Or.inr rfl) (pe_callTy (k_tuple (K := K) (by rfl)) (by rfl) T.z_tuple (by decide +kernel) (pa_cons (pe_lc (own := [("k", 9)]) (g := gName 9) (by rfl) sc__law_sums_so.nd (pi_range1 (by rfl) T.z_range (pa_cons (pv 5) pa_nil)) (blkOk_by (own := [("k", 9)]) (N := N__law_sums_so) (sc := defScope s__law_sums_so) (by decide +kernel)) (fun _ _ _ _ _ => pg_name (i := 9) sc__law_sums_so.nd rfl (Or.inl rfl)) (fun _ _ _ _ _ => pts_nil) (fun _ _ _ _ _ => (pe_op op_add (pe_ix (k_ix (K := K) (by rfl)) (pv 1) (pv 9) (fun _ _ => rfl)) (pe_ix (k_ix (K := K) (by rfl)) (pv 2) (pv 9) (fun _ _ => rfl))))) pa_nil)))
    (pss_cons (ps_if (pt_not (pt_val (pe_cal C__law_like (hr.mono (by first | decide | omega)) (by rfl) (pa_cons (pe_cal C_added (hr.mono (by first | decide | omega)) (by rfl) (pa_cons (pe_cal C__law_passed (hr.mono (by first | decide | omega)) (by rfl) (pa_cons (pv 0) (pa_cons (pv 1) pa_nil))) (pa_cons (pe_cal C__law_passed (hr.mono (by first | decide | omega)) (by rfl) (pa_cons (pv 0) (pa_cons (pv 2) pa_nil))) pa_nil))) (pa_cons (pv 8) pa_nil)))))
    (pss_one (ps_ret pe_bl))
    pss_nil)
    (pss_cons (ps_if (PW.pt (pw_or (pt_not (pt_val (pe_cal C__law_like (hr.mono (by first | decide | omega)) (by rfl) (pa_cons (pe_kcal0 KC_added_0_other_one (hr.mono (by first | decide | omega)) (by rfl) (pk_cons (pe_callTy (k_list (K := K) (by rfl)) (by rfl) T.z_list (by decide +kernel) (pa_cons (pv 1) pa_nil)) (pk_cons (pe_callTy (k_tuple (K := K) (by rfl)) (by rfl) T.z_tuple (by decide +kernel) (pa_cons (pv 2) pa_nil)) pk_nil)) ) (pa_cons (pv 8) pa_nil))))) (pw_or1 (pt_not (pt_val (pe_cal C__law_like (hr.mono (by first | decide | omega)) (by rfl) (pa_cons (pe_cal C_cut (hr.mono (by first | decide | omega)) (by rfl) (pa_cons (pe_callTy (k_list (K := K) (by rfl)) (by rfl) T.z_list (by decide +kernel) (pa_cons (pv 1) pa_nil)) (pa_cons (pv 4) pa_nil))) (pa_cons (pe_cal C__law_cut (hr.mono (by first | decide | omega)) (by rfl) (pa_cons (pv 1) (pa_cons (pv 4) pa_nil))) pa_nil))))))))
    (pss_one (ps_ret pe_bl))
    pss_nil)
    (pss_cons (ps_if (pt_not (pt_val (pe_cal C__law_like (hr.mono (by first | decide | omega)) (by rfl) (pa_cons (pe_kcal0 KC_cut_0_cap_row (hr.mono (by first | decide | omega)) (by rfl) (pk_cons (pv 4) (pk_cons (pv 8) pk_nil)) ) (pa_cons (pe_cal C__law_cut (hr.mono (by first | decide | omega)) (by rfl) (pa_cons (pv 8) (pa_cons (pv 4) pa_nil))) pa_nil)))))
    (pss_one (ps_ret pe_bl))
    pss_nil)
    (pss_cons (ps_set (i := 10) sc__law_sums_so.nd rfl (by first | exact Or.inl rfl | exact Or.inr rfl) pe_int)
    (pss_cons (ps_for PassesOwn.never rfl (pi_range1 (by rfl) T.z_range (pa_cons (pv 5) pa_nil)) (pg_name (i := 9) sc__law_sums_so.nd rfl (by first | exact Or.inl rfl | exact Or.inr rfl))
    (pss_one (ps_set (i := 10) sc__law_sums_so.nd rfl (by first | exact Or.inl rfl | exact Or.inr rfl) (pe_op op_add (pv 10) (pe_op op_mulW (pe_ix (k_ix (K := K) (by rfl)) (pv 1) (pv 9) (fun _ _ => rfl)) (pe_ix (k_ix (K := K) (by rfl)) (pv 2) (pv 9) (fun _ _ => rfl)))))))
    (pss_cons (ps_if (PW.pt (pw_or (pt_not (pt_val (pe_cal C__law_like (hr.mono (by first | decide | omega)) (by rfl) (pa_cons (pe_cal C_dot (hr.mono (by first | decide | omega)) (by rfl) (pa_cons (pe_cal C__law_passed (hr.mono (by first | decide | omega)) (by rfl) (pa_cons (pv 0) (pa_cons (pv 1) pa_nil))) (pa_cons (pe_cal C__law_passed (hr.mono (by first | decide | omega)) (by rfl) (pa_cons (pv 0) (pa_cons (pv 2) pa_nil))) pa_nil))) (pa_cons (pv 10) pa_nil))))) (pw_or1 (pt_not (pt_val (pe_cal C__law_like (hr.mono (by first | decide | omega)) (by rfl) (pa_cons (pe_kcal0 KC_dot_0_other_one (hr.mono (by first | decide | omega)) (by rfl) (pk_cons (pv 1) (pk_cons (pv 2) pk_nil)) ) (pa_cons (pv 10) pa_nil))))))))
    (pss_one (ps_ret pe_bl))
    pss_nil)
    (pss_cons (ps_set (i := 11) sc__law_sums_so.nd rfl (by first | exact Or.inl rfl | exact Or.inr rfl) (pe_callTy (k_tuple (K := K) (by rfl)) (by rfl) T.z_tuple (by decide +kernel) (pa_cons (pe_lc (own := [("n", 12)]) (g := gName 12) (by rfl) sc__law_sums_so.nd (k_pil (K := K) (by rfl) (pv 1)) (blkOk_by (own := [("n", 12)]) (N := N__law_sums_so) (sc := defScope s__law_sums_so) (by decide +kernel)) (fun _ _ _ _ _ => pg_name (i := 12) sc__law_sums_so.nd rfl (Or.inl rfl)) (fun _ _ _ _ _ => pts_nil) (fun _ _ _ _ _ => (pe_ifExp (pt_cmpR op_gt (pv 12) pe_int (nomark _)) (pv 12) pe_int))) pa_nil)))
    (pss_one (ps_ret (pe_and (pe_cal C__law_like (hr.mono (by first | decide | omega)) (by rfl) (pa_cons (pe_cal C_raised (hr.mono (by first | decide | omega)) (by rfl) (pa_cons (pe_cal C__law_passed (hr.mono (by first | decide | omega)) (by rfl) (pa_cons (pv 0) (pa_cons (pv 1) pa_nil))) pa_nil)) (pa_cons (pv 11) pa_nil))) (pe_one (pe_cal C__law_like (hr.mono (by first | decide | omega)) (by rfl) (pa_cons (pe_kcal0 KC_raised_0_row (hr.mono (by first | decide | omega)) (by rfl) (pk_cons (pe_callTy (k_list (K := K) (by rfl)) (by rfl) T.z_list (by decide +kernel) (pa_cons (pv 1) pa_nil)) pk_nil) ) (pa_cons (pv 11) pa_nil))))))))))))))))))), ?_⟩
    try simp only [cxK]
    clear C__law_by_columns C__law_cut C__law_passed C__law_like C_times C_added C_cut C_dot C_raised KC_times_0_row_table KC_added_0_other_one KC_cut_0_cap_row KC_dot_0_other_one KC_raised_0_row F T
    have z := sz
    obtain ⟨z1, z2, z3, z4, z5⟩ := z
    rw [show L2.start N__law_sums_so [.ref a, .ref x, .ref y, .ref g, .int m] = [some (.ref a), some (.ref x), some (.ref y), some (.ref g), some (.int m), none, none, none, none, none, none, none, none] from rfl]
    have hx0 := hx.2
    have hg0 := hg
    obtain ⟨ga, gs, ge, gl, gk⟩ := hg0
    walk_at "go"
    rw [List.length_map, z2]
    refine g_col hg.grid hx.sq sz fun p1 H1 f1 s1 e1 => ?_
    have ch1 : Chg a H H1 := (sm_chg s1)
    have B1 := bag_sm hB s1
    have t1 : Tp H1 a p1 (rs.map fun r => dotI r xs) := ⟨ne_bag hB f1, e1⟩
    have ge1 := ch1 _ _ ga ge
    walk_at "go"
    refine lcL (xs := gs.map V.ref) (σ0 := [some (.ref a), some (.ref x), some (.ref y), some (.ref g), some (.int m), some (.int n), some (.ref p1), none, none, none, none, none, none]) rfl fun D hD => ?_
    obtain ⟨naD, nlD⟩ := bag_apart B1 hD
    refine ⟨fun i H' => Made H' a l D rs H1 i, ⟨[], upd_same, rfl, (fun k q r h => by simp at h), bag_new B1 hD, Chg.refl.lay hD⟩, ?_, ?_, ?_⟩
    · rintro i H' _ ⟨qs, e, hl, k, B, c⟩
      exact .of (c _ _ ga ge1)
    · rintro i x' H' hxi hM
      have hM2 := hM
      obtain ⟨qs, e, hl, k, B, c⟩ := hM2
      rw [List.getElem?_map, Option.map_eq_some_iff] at hxi
      obtain ⟨p, hp, rfl⟩ := hxi
      obtain ⟨r, hr⟩ := get_ltI (xs := rs) (i := i) (by rw [← gl]; exact (List.getElem?_eq_some_iff.mp hp).1)
      obtain ⟨p', hp', pr⟩ := gk i r hr
      obtain rfl : p = p' := Option.some.inj (hp.symm.trans hp')
      have pr' := (pr.chg ch1).chg c
      walk_at "go"
      refine g_passed B pr'.1 pr'.2 fun q H2 fq nq1 nq2 B2 c2 ob => ?_
      exact hM.next hD naD nlD hr (by have := (List.getElem?_eq_some_iff.mp hr).1; omega) fq nq1 B2 c2 ob
    · rintro H2 hM
      rw [List.length_map, gl] at hM
      have g2 := hM.grid naD
      obtain ⟨_, _, _, _, B2, c2⟩ := hM
      have ch2 := ch1.trans c2
      walk_at "go"
      have hx2 := hx.chg ch2
      refine g_passed B2 hx2.1 hx2.2 fun w3 H3 fq nq1 nq2 B3 c3 ob => ?_
      have ch3 := ch2.trans c3
      walk_at "go"
      refine g_col (g2.chg c3).grid ob.sq sz fun p4 H4 f4 s4 e4 => ?_
      have ch4 := ch3.trans (sm_chg s4)
      have B4 := bag_sm B3 s4
      have t4 := t1.chg ((c2.trans c3).trans (sm_chg s4))
      walk_at "go"
      refine g_likeT e4 t4.2 rfl (by rw [List.length_map]; omega) fun H5 s5 => ?_
      have ch5 := ch4.trans (sm_chg s5)
      have B5 := bag_sm B4 s5
      have t5 := t4.chg (sm_chg s5)
      clear c2 c3 s4 s5 e4 f4 g2 ob fq
      walk_at "go"
      have hx5 := hx.chg ch5
      refine g_passed B5 hx5.1 hx5.2 fun w6 H6 f6 nw1 nw2 B6 c6 ob6 => ?_
      have ch6 := ch5.trans c6
      have t6 := t5.chg c6
      have ge6 := ch6 _ _ ga ge
      walk_at "go"
      refine lcL (xs := gs.map V.ref) (σ0 := [some (.ref a), some (.ref x), some (.ref y), some (.ref g), some (.int m), some (.int n), some (.ref p1), none, none, none, none, none, none]) rfl fun D hD => ?_
      obtain ⟨naD, nlD⟩ := bag_apart B6 hD
      refine ⟨fun i H' => Made H' a l D rs H6 i, ⟨[], upd_same, rfl, (fun k q r h => by simp at h), bag_new B6 hD, Chg.refl.lay hD⟩, ?_, ?_, ?_⟩
      · rintro i H' _ ⟨qs, e, hl, k, B, c⟩
        exact .of (c _ _ ga ge6)
      · rintro i x' H' hxi hM
        have hM2 := hM
        obtain ⟨qs, e, hl, k, B, c⟩ := hM2
        rw [List.getElem?_map, Option.map_eq_some_iff] at hxi
        obtain ⟨p, hp, rfl⟩ := hxi
        obtain ⟨r, hr⟩ := get_ltI (xs := rs) (i := i) (by rw [← gl]; exact (List.getElem?_eq_some_iff.mp hp).1)
        obtain ⟨p', hp', pr⟩ := gk i r hr
        obtain rfl : p = p' := Option.some.inj (hp.symm.trans hp')
        have pr' := ((pr.chg ch6).chg c).2
        walk_at "go"
        rename_i t ht
        obtain ⟨na, nl⟩ := bag_apart B ht
        exact hM.next hD naD nlD hr (by have := (List.getElem?_eq_some_iff.mp hr).1; omega) ht na (bag_new B ht) (Chg.new ht) (.inr upd_same)
      rintro H7 hM
      rw [List.length_map, gl] at hM
      obtain ⟨qs, e7, hl7, k7, B7, c7⟩ := hM
      walk_at "go"
      rename_i t ht
      obtain ⟨nta, ntl⟩ := bag_apart B7 ht
      have g8 := Made.gridT (a := a) (rs := rs) hl7 k7 ht nta
      have c8 : Chg a H6 (upd H7 t (.tup (qs.map V.ref))) := c7.lay ht
      have B8 := bag_new (o := .tup (qs.map V.ref)) B7 ht
      generalize upd H7 t (.tup (qs.map V.ref)) = H8 at g8 c8 B8 ⊢
      refine g_col g8.grid (ob6.chg nw1 c8).sq sz fun p9 H9 f9 s9 e9 => ?_
      have c9 := c8.trans (sm_chg s9)
      have ch9 := ch6.trans c9
      have t9 := t6.chg c9
      have B9 := bag_sm B8 s9
      walk_at "go"
      refine g_likeT e9 t9.2 rfl (by rw [List.length_map]; omega) fun H10 s10 => ?_
      have ch10 := ch9.trans (sm_chg s10)
      have B10 := bag_sm B9 s10
      clear s9 s10 c9 c8 t9 g8 e9 f9 ch9 B9 B8 B7 e7 k7 ob6 c7 ch6 t6
      have hx10 := (hx.chg ch10).2
      have hy10 := (hy.chg ch10).2
      walk_at "go"
      rw [Int.toNat_natCast]
      refine lcPR (n := n) (f := fun k => .int (xs.getD k 0 + ys.getD k 0)) (p := fun _ => true) (σ0 := [some (.ref a), some (.ref x), some (.ref y), some (.ref g), some (.int m), some (.int n), some (.ref p1), none, none, none, none, none, none]) rfl (by omega) ?_ ?_
      · intro D acc k N hD hk hy1 _
        have a1 := at_getD (ns := xs) (k := k) (by omega)
        have a2 := at_getD (ns := ys) (k := k) (by omega)
        walk_at "go"
        exact hy1 rfl
      intro D hD
      rw [range_add z2 yl]
      walk_at "go"
      rename_i t ht
      have B11 := bag_new (o := .tup ((addI xs ys).map V.int)) (bag_new (o := .lst ((addI xs ys).map V.int)) B10 hD) ht
      have tb : Tp (upd (upd H10 D (.lst ((addI xs ys).map V.int))) t (.tup ((addI xs ys).map V.int))) a t (addI xs ys) := ⟨ne_bag (bag_new (o := .lst ((addI xs ys).map V.int)) B10 hD) ht, upd_same⟩
      have ch11 : Chg a H (upd (upd H10 D (.lst ((addI xs ys).map V.int))) t (.tup ((addI xs ys).map V.int))) := (ch10.lay (o := .lst ((addI xs ys).map V.int)) hD).lay (o := .tup ((addI xs ys).map V.int)) ht
      clear hx10 hy10 B10
      generalize upd (upd H10 D (.lst ((addI xs ys).map V.int))) t (.tup ((addI xs ys).map V.int)) = H11 at B11 tb ch11 ⊢
      clear ch10 hD ht
      have hx11 := hx.chg ch11
      refine g_passed B11 hx11.1 hx11.2 fun w12 H12 f12 nw12 _ B12 c12 ob12 => ?_
      have ch12 := ch11.trans c12
      have hy12 := hy.chg ch12
      walk_at "go"
      refine g_passed B12 hy12.1 hy12.2 fun w13 H13 f13 nw13 _ B13 c13 ob13 => ?_
      have ch13 := ch12.trans c13
      walk_at "go"
      refine g_add (ob12.chg nw12 c13).sq ob13.sq (by omega) (by omega) fun p14 H14 f14 s14 e14 => ?_
      have ch14 := ch13.trans (sm_chg s14)
      have tb14 := tb.chg ((c12.trans c13).trans (sm_chg s14))
      have B14 := bag_sm B13 s14
      walk_at "go"
      refine g_likeT e14 tb14.2 rfl (by rw [addI_len z2 yl]; omega) fun H15 s15 => ?_
      have ch15 := ch14.trans (sm_chg s15)
      have tb15 := tb14.chg (sm_chg s15)
      have B15 := bag_sm B14 s15
      clear tb14 tb c12 c13 s14 s15 e14 f14 ob12 ob13 ch11 ch12 ch13 ch14 hx11 hy12 f12 f13 B11 B12 B13 B14
      have hx15 := (hx.chg ch15).2
      have hy15 := (hy.chg ch15).2
      walk_at "go"
      rename_i l16 h16 t16 ht16
      refine g_add (x := t16) (y := l16) (xs := ys) (ys := xs) (.inr (.of upd_same)) (.inl (.of (by walk_at "h"))) (by omega) (by omega) fun p17 H17 f17 s17 e17 => ?_
      have ch17 : Chg a H H17 := ((ch15.lay h16).lay ht16).trans (sm_chg s17)
      have tb17 : Tp H17 a t (addI xs ys) := tb15.chg ((((Chg.refl).lay h16).lay ht16).trans (sm_chg s17))
      have B17 := bag_sm (bag_new (bag_new B15 h16) ht16) s17
      walk_at "go"
      refine g_likeT e17 tb17.2 (addI_comm ys xs) (by rw [addI_len yl z2]; omega) fun H18 s18 => ?_
      have ch18 := ch17.trans (sm_chg s18)
      have tb18 := tb17.chg (sm_chg s18)
      have B18 := bag_sm B17 s18
      clear tb17 tb15 s17 s18 e17 f17 ch15 ch17 B15 B17 hx15 hy15 h16 ht16
      have hx18 := (hx.chg ch18).2
      walk_at "go"
      rename_i l19 h19
      refine g_cutP (x := l19) (ns := xs) (.inl (.of upd_same)) (by omega) hm fun p20 H20 f20 s20 e20 => ?_
      have ch20 : Chg a H H20 := (ch18.lay h19).trans (sm_chg s20)
      have tb20 : Tp H20 a t (addI xs ys) := tb18.chg (((Chg.refl).lay h19).trans (sm_chg s20))
      have B20 := bag_sm (bag_new B18 h19) s20
      have n20 : p20 ≠ a := ne_bag (bag_new B18 h19) f20
      have tc20 : Tp H20 a p20 (xs.map (cutI m)) := ⟨n20, e20⟩
      clear e20 f20 s20 ch18 tb18 B18 h19 hx18
      walk_at "go"
      refine g_cutR (hx.chg ch20).sq (by omega) fun p21 H21 f21 s21 e21 => ?_
      have ch21 := ch20.trans (sm_chg s21)
      have tb21 := tb20.chg (sm_chg s21)
      have tc21 := tc20.chg (sm_chg s21)
      have B21 := bag_sm B20 s21
      walk_at "go"
      refine g_likeT tc21.2 e21 rfl (by rw [List.length_map]; omega) fun H22 s22 => ?_
      have ch22 := ch21.trans (sm_chg s22)
      have tb22 := tb21.chg (sm_chg s22)
      have B22 := bag_sm B21 s22
      clear e21 f21 s21 s22 ch20 ch21 tb20 tb21 tc20 tc21 B20 B21
      walk_at "go"
      refine g_cutP (.inr (.of tb22.2)) (by rw [addI_len z2 yl]; omega) hm fun p23 H23 f23 s23 e23 => ?_
      have ch23 := ch22.trans (sm_chg s23)
      have tb23 := tb22.chg (sm_chg s23)
      have B23 := bag_sm B22 s23
      have tc23 : Tp H23 a p23 ((addI xs ys).map (cutI m)) := ⟨ne_bag B22 f23, e23⟩
      walk_at "go"
      refine g_cutR (.inr (.of tb23.2)) (by rw [addI_len z2 yl]; omega) fun p24 H24 f24 s24 e24 => ?_
      have ch24 := ch23.trans (sm_chg s24)
      have tc24 := tc23.chg (sm_chg s24)
      have B24 := bag_sm B23 s24
      walk_at "go"
      refine g_likeT tc24.2 e24 rfl (by rw [List.length_map, addI_len z2 yl]; omega) fun H25 s25 => ?_
      have ch25 := ch24.trans (sm_chg s25)
      have B25 := bag_sm B24 s25
      clear s23 s24 s25 e23 e24 f23 f24 ch22 ch23 ch24 tb22 tb23 tc23 tc24 B22 B23 B24
      have hx25 := (hx.chg ch25).2
      have hy25 := (hy.chg ch25).2
      walk_at "go"
      rw [Int.toNat_natCast]
      refine forR (n := n) ⟨fun i σ' H' => ∃ v, σ' = [some (.ref a), some (.ref x), some (.ref y), some (.ref g), some (.int m), some (.int n), some (.ref p1), none, some (.ref t), v, some (.int (dotN ys xs i)), none, none] ∧ H' = H25, ⟨_, rfl, rfl⟩, ?_, ?_⟩
      · rintro i σ' H' hi ⟨v, rfl, rfl⟩
        obtain ⟨b1, hb1⟩ := get_ltI (xs := xs) (i := i) (by omega)
        obtain ⟨b2, hb2⟩ := get_ltI (xs := ys) (i := i) (by omega)
        have a1 := at_nat hb1
        have a2 := at_nat hb2
        have mw : CMulW b1 b2 := mulW (z4 _ (List.mem_of_getElem? hb1)) (ysm _ (List.mem_of_getElem? hb2))
        walk_at "go"
        rw [← dotN_succ hb1 hb2]
        exact ⟨_, rfl, rfl⟩
      rintro σ' H' ⟨v, rfl, rfl⟩
      clear hx25 hy25
      walk_at "go"
      have hx25 := hx.chg ch25
      refine g_passed B25 hx25.1 hx25.2 fun w26 H26 f26 nw26 _ B26 c26 ob26 => ?_
      have ch26 := ch25.trans c26
      have hy26 := hy.chg ch26
      walk_at "go"
      refine g_passed B26 hy26.1 hy26.2 fun w27 H27 f27 nw27 _ B27 c27 ob27 => ?_
      have ch27 := ch26.trans c27
      walk_at "go"
      refine g_dot (ob26.chg nw26 c27).sq ob27.sq (by omega) (by omega) z4 ysm fun H28 s28 => ?_
      have ch28 := ch27.trans (sm_chg s28)
      have B28 := bag_sm B27 s28
      walk_at "go"
      refine g_likeI (by unfold dotI; rw [dotN_comm, yl]) fun H29 s29 => ?_
      have ch29 := ch28.trans (sm_chg s29)
      have B29 := bag_sm B28 s29
      clear c26 c27 s28 s29 ob26 ob27 hx25 hy26 f26 f27 ch25 ch26 ch27 ch28 B25 B26 B27 B28
      walk_at "go"
      refine g_dot (x := y) (y := x) (hy.chg ch29).sq (hx.chg ch29).sq (by omega) (by omega) ysm z4 fun H30 s30 => ?_
      have ch30 := ch29.trans (sm_chg s30)
      have B30 := bag_sm B29 s30
      walk_at "go"
      refine g_likeI (by unfold dotI; rw [z2]) fun H31 s31 => ?_
      have ch31 := ch30.trans (sm_chg s31)
      have B31 := bag_sm B30 s31
      clear s30 s31 ch29 ch30 B29 B30
      have hx31 := (hx.chg ch31).2
      walk_at "go"
      refine lcP (S := xs) (f := fun i => .int (upI i)) (p := fun _ => true) (σ0 := [some (.ref a), some (.ref x), some (.ref y), some (.ref g), some (.int m), some (.int n), some (.ref p1), none, some (.ref t), v, some (.int (dotN ys xs n)), none, none]) rfl (.of hx31) (by omega) ?_ ?_
      · intro D acc k N hD hk hy1 _
        have hy2 := hy1 rfl
        walk_at "go"
        refine g_iteD (fun h1 => ?_) (fun h1 => ?_)
        · walk_at "go"
          rw [show upI k = k from if_pos h1] at hy2
          exact hy2
        · walk_at "go"
          rw [show upI k = 0 from if_neg h1] at hy2
          exact hy2
      intro D hD
      rw [filter_yes]
      walk_at "go"
      rename_i t32 ht32
      have B32 := bag_new (o := .tup ((xs.map upI).map V.int)) (bag_new (o := .lst ((xs.map upI).map V.int)) B31 hD) ht32
      have tu : Tp (upd (upd H31 D (.lst ((xs.map upI).map V.int))) t32 (.tup ((xs.map upI).map V.int))) a t32 (xs.map upI) := ⟨ne_bag (bag_new (o := .lst ((xs.map upI).map V.int)) B31 hD) ht32, upd_same⟩
      have ch32 : Chg a H (upd (upd H31 D (.lst ((xs.map upI).map V.int))) t32 (.tup ((xs.map upI).map V.int))) := (ch31.lay (o := .lst ((xs.map upI).map V.int)) hD).lay (o := .tup ((xs.map upI).map V.int)) ht32
      generalize upd (upd H31 D (.lst ((xs.map upI).map V.int))) t32 (.tup ((xs.map upI).map V.int)) = H32 at B32 tu ch32 ⊢
      clear hx31 ch31 B31 hD ht32
      have hx32 := hx.chg ch32
      refine g_passed B32 hx32.1 hx32.2 fun w33 H33 f33 nw33 _ B33 c33 ob33 => ?_
      have ch33 := ch32.trans c33
      walk_at "go"
      refine g_up ob33.sq (by omega) fun p34 H34 f34 s34 e34 => ?_
      have ch34 := ch33.trans (sm_chg s34)
      have tu34 := tu.chg (c33.trans (sm_chg s34))
      have B34 := bag_sm B33 s34
      walk_at "go"
      refine g_likeT e34 tu34.2 rfl (by rw [List.length_map]; omega) fun H35 s35 => ?_
      have ch35 := ch34.trans (sm_chg s35)
      have tu35 := tu34.chg (sm_chg s35)
      have B35 := bag_sm B34 s35
      clear s34 s35 e34 f34 f33 c33 ob33 hx32 ch32 ch33 ch34 B32 B33 B34 tu tu34
      have hx35 := (hx.chg ch35).2
      walk_at "go"
      rename_i l36 h36
      refine g_up (x := l36) (ns := xs) (.inl (.of upd_same)) (by omega) fun p37 H37 f37 s37 e37 => ?_
      have ch37 : Chg a H H37 := (ch35.lay h36).trans (sm_chg s37)
      have tu37 : Tp H37 a t32 (xs.map upI) := tu35.chg (((Chg.refl).lay h36).trans (sm_chg s37))
      have B37 := bag_sm (bag_new B35 h36) s37
      walk_at "go"
      refine g_likeT e37 tu37.2 rfl (by rw [List.length_map]; omega) fun H38 s38 => ?_
      exact q _ (bag_sm B37 s38) (ch37.trans (sm_chg s38))
theorem c_sums (T : Top K mg) : Cal P w K mg base "_law_sums_so" 6 P__law_sums_so spSums := cal_mk T.f__law_sums_so (ok_sums T) (fun F => F.bindsN fun _ _ _ _ _ _ us hl => match us, hl with | [_, _, _, _, _], _ => rfl)
end

set_option Elab.async false
set_option linter.all false
set_option maxRecDepth 100000
set_option maxHeartbeats 4000000
open PySem PySem.Spec L2

def qIntB : List V → Hp → VK → Prop := fun xs H Q => ∃ b, xs = [.bl b] ∧ Q (.int (if b then 1 else 0)) H
theorem c_intB {X : Cx} : CallR X (.type "int") qIntB := fun pins s σ H xs us Q I r h => call_int1 pins s σ H xs us Q I r (.inr h)
theorem g_intB {p : Prop} [Decidable p] {H : Hp} {Q : VK} (h : Q (.int (if p then 1 else 0)) H) : qIntB [.bl (decide p)] H Q := ⟨decide p, rfl, by
  by_cases c : p
  · rw [if_pos c] at h; rw [if_pos (decide_eq_true c)]; exact h
  · rw [if_neg c] at h; rw [if_neg (by simp [c])]; exact h⟩
local macro_rules | `(tactic| walk_at "s") => `(tactic| first
  | with_reducible refine' g_intB ?_)
section
variable {P : Program} {w : World} {K : PySem.W.Frag} {mg : Str → Option Value} {base : Heap}

theorem addI_getD {xs ys : List Int} {n i : Nat} (h1 : xs.length = n) (h2 : ys.length = n) (h : i < n) : (addI xs ys).getD i 0 = xs.getD i 0 + ys.getD i 0 := by
  unfold addI
  rw [List.getD_eq_getElem?_getD, List.getElem?_zipWith, List.getElem?_eq_getElem (show i < xs.length by omega), List.getElem?_eq_getElem (show i < ys.length by omega), List.getD_eq_getElem?_getD, List.getD_eq_getElem?_getD, List.getElem?_eq_getElem (show i < xs.length by omega), List.getElem?_eq_getElem (show i < ys.length by omega)]
  rfl
theorem dot_add {r xs ys : List Int} {n : Nat} (h1 : xs.length = n) (h2 : ys.length = n) : ∀ j, j ≤ n → dotN r (addI xs ys) j = dotN r xs j + dotN r ys j
  | 0, _ => rfl
  | j + 1, h => by
    show dotN r (addI xs ys) j + (addI xs ys).getD j 0 * r.getD j 0 = (dotN r xs j + xs.getD j 0 * r.getD j 0) + (dotN r ys j + ys.getD j 0 * r.getD j 0)
    rw [dot_add h1 h2 j (by omega), addI_getD h1 h2 (by omega), Int.add_mul]
    omega
theorem map_add {xs ys : List Int} {n : Nat} (h1 : xs.length = n) (h2 : ys.length = n) : ∀ rs : List (List Int), rs.map (fun r => dotI r (addI xs ys)) = addI (rs.map fun r => dotI r xs) (rs.map fun r => dotI r ys)
  | [] => rfl
  | r :: rs => by
    show dotI r (addI xs ys) :: rs.map (fun r => dotI r (addI xs ys)) = (dotI r xs + dotI r ys) :: addI (rs.map fun r => dotI r xs) (rs.map fun r => dotI r ys)
    rw [map_add h1 h2 rs]
    congr 1
    unfold dotI
    rw [addI_len h1 h2, h1, h2, dot_add h1 h2 n (Nat.le_refl n)]
theorem cut_cut {k m x : Int} (h1 : 1 ≤ k) (h2 : k ≤ m) : cutI k (cutI m x) = cutI k x := by
  unfold cutI
  repeat' split
  all_goals omega
theorem cut_cut2 {k m x : Int} (h1 : 1 ≤ k) (h2 : k ≤ m) : cutI m (cutI k x) = cutI k x := by
  unfold cutI
  repeat' split
  all_goals omega
theorem map_cut {k m : Int} (h1 : 1 ≤ k) (h2 : k ≤ m) (xs : List Int) : (xs.map (cutI m)).map (cutI k) = xs.map (cutI k) := by
  rw [List.map_map]
  exact List.map_congr_left fun x _ => cut_cut h1 h2
theorem map_cut2 {k m : Int} (h1 : 1 ≤ k) (h2 : k ≤ m) (xs : List Int) : (xs.map (cutI k)).map (cutI m) = xs.map (cutI k) := by
  rw [List.map_map]
  exact List.map_congr_left fun x _ => cut_cut2 h1 h2
theorem up_less (xs : List Int) : addI (xs.map upI) (((xs.map fun n => 0 - n).map upI).map fun n => 0 - n) = xs := by
  induction xs with
  | nil => rfl
  | cons x r ih =>
    show (upI x + (0 - upI (0 - x))) :: addI (r.map upI) (((r.map fun n => 0 - n).map upI).map fun n => 0 - n) = x :: r
    rw [ih]
    congr 1
    unfold upI
    repeat' split
    all_goals omega
def unitI (n : Nat) : List (List Int) := (List.range n).map fun i => (List.range n).map fun j => if i = j then (1 : Int) else 0
theorem unit_dot {n i : Nat} (xs : List Int) (hi : i < n) : ∀ j, j ≤ n → dotN ((List.range n).map fun j => if i = j then (1 : Int) else 0) xs j = if i < j then xs.getD i 0 else 0
  | 0, _ => by rw [if_neg (by omega)]; rfl
  | j + 1, h => by
    show dotN ((List.range n).map fun j => if i = j then (1 : Int) else 0) xs j + xs.getD j 0 * ((List.range n).map fun j => if i = j then (1 : Int) else 0).getD j 0 = _
    rw [unit_dot xs hi j (by omega)]
    have e : ((List.range n).map fun j => if i = j then (1 : Int) else 0).getD j 0 = if i = j then 1 else 0 := by
      rw [List.getD_eq_getElem?_getD, List.getElem?_map, List.getElem?_range (by omega)]
      rfl
    rw [e]
    by_cases c : i = j
    · subst c
      rw [if_neg (by omega), if_pos rfl, if_pos (by omega)]
      omega
    · rw [if_neg c]
      by_cases d : i < j
      · rw [if_pos d, if_pos (by omega)]; omega
      · rw [if_neg d, if_neg (by omega)]; omega
theorem unit_times {n : Nat} {xs : List Int} (h : xs.length = n) : ((unitI n).map fun r => dotI r xs) = xs := by
  subst h
  refine List.ext_getElem? fun i => ?_
  unfold unitI
  rw [List.getElem?_map, List.getElem?_map]
  by_cases hi : i < xs.length
  · rw [List.getElem?_range hi, List.getElem?_eq_getElem hi]
    show some (dotN ((List.range xs.length).map fun j => if i = j then (1 : Int) else 0) xs xs.length) = some (xs[i]'hi)
    rw [unit_dot xs hi _ (Nat.le_refl _), if_pos hi, List.getD_eq_getElem?_getD, List.getElem?_eq_getElem hi]
    rfl
  · rw [List.getElem?_eq_none (by rw [List.length_range]; omega), List.getElem?_eq_none (show xs.length ≤ i by omega)]
    rfl
theorem add_sml {xs ys : List Int} (h1 : Sm 10000000000000000000000000000000000000000 xs) (h2 : Sm 10000000000000000000000000000000000000000 ys) : ∀ k ∈ addI xs ys, Sml k := by
  intro k hk
  obtain ⟨i, hi⟩ := List.mem_iff_getElem?.mp hk
  unfold addI at hi
  rw [List.getElem?_zipWith] at hi
  cases e1 : xs[i]? with
  | none => rw [e1] at hi; cases hi
  | some u =>
    cases e2 : ys[i]? with
    | none => rw [e1, e2] at hi; cases hi
    | some v =>
      rw [e1, e2] at hi
      obtain rfl := Option.some.inj hi
      have a := h1 u (List.mem_of_getElem? e1)
      have b := h2 v (List.mem_of_getElem? e2)
      exact ⟨by omega, by omega⟩
/-- the reading of the nested comprehension -/
def tUnit (iw iu : Nat) : TS := fun D σ H => ∃ n : Nat, 15 ≤ σ.length ∧ σ[iw]? = some (some (.int n)) ∧ n ≤ 1000 ∧ ∀ (u : Addr) (ps : List Addr) (H' : Hp), H u = none → Same H H' → H' u = some (.lst (ps.map V.ref)) → ps.length = n →
  (∀ (i : Nat) (p : Addr), ps[i]? = some p → H' p = some (.lst (((List.range n).map fun j => if i = j then (1 : Int) else 0).map V.int))) → D.nx (σ.set iu (some (.ref u))) H'
theorem g_unit {D : Ends} {σ : L2.St} {H : Hp} (h : tUnit 5 11 D σ H) :
    tAsg (tLc (iRng1 (tCons (tVar 5) tNil)) (gName 13) tYes (tLc (iRng1 (tCons (tVar 5) tNil)) (gName 12) tYes (tCB qIntB (tCons (tOp rEq (tVar 13) (tVar 12)) tNil)) [12]) [13]) (gName 11) D σ H := by
  obtain ⟨n, hlen, hw, hn, q⟩ := h
  have l5 : 5 < σ.length := (List.getElem?_eq_some_iff.mp hw).1
  have up : ∀ i : Nat, ((i : Nat) : Int) = 0 + (i : Int) := fun i => by omega
  have v5 : ∀ (s : L2.St) (R : VK) (H1 : Hp), s[5]? = some (some (.int (n : Int))) → R (.int n) H1 → tVar 5 s H1 R := fun s R H1 e r => ⟨_, e, r⟩
  refine g_asg (g_lc (g_iRng1 (g_cons (v5 _ _ _ hw (g_nil (g_rng1 ⟨by omega, by omega⟩ ?_))))))
  rw [Int.toNat_natCast]
  have w5 : (wipe σ [13])[5]? = some (some (.int (n : Int))) := by
    show (σ.set 13 none)[5]? = _
    rw [List.getElem?_set_ne (by decide)]
    exact hw
  refine lcR (σ0 := wipe σ [13]) rfl fun D1 hD1 => ⟨fun i H' => ∃ ps : List Addr, H' D1 = some (.lst (ps.map V.ref)) ∧ ps.length = i ∧ Chg D1 H H' ∧
    ∀ (k : Nat) (p : Addr), ps[k]? = some p → p ≠ D1 ∧ H' p = some (.lst (((List.range n).map fun j => if k = j then (1 : Int) else 0).map V.int)), ⟨[], upd_same, rfl, Chg.upd, fun k p e => by cases e⟩, ?_, ?_⟩
  · rintro i H' hi ⟨ps, e1, el, ch, rows⟩
    refine g_turn1 (show TurnB _ _ _ _ D1 _ ((wipe σ [13]).set 13 (some (.int (0 + (i : Int))))) H' from g_turnB (by show (((σ.set 13 none).set 13 _).set 13 none) = σ.set 13 none; rw [List.set_set, List.set_set]) (g_yes (g_turnCt ?_)))
    have hs13 : ((wipe σ [13]).set 13 (some (.int (0 + (i : Int)))))[13]? = some (some (.int (0 + (i : Int)))) := by
      show ((σ.set 13 none).set 13 _)[13]? = _
      rw [List.getElem?_set_self (by rw [List.length_set]; omega)]
    have hs5 : ((wipe σ [13]).set 13 (some (.int (0 + (i : Int)))))[5]? = some (some (.int (n : Int))) := by
      rw [List.getElem?_set_ne (by decide)]
      exact w5
    have hsl : 15 ≤ ((wipe σ [13]).set 13 (some (.int (0 + (i : Int))))).length := by
      show 15 ≤ ((σ.set 13 none).set 13 _).length
      rw [List.length_set, List.length_set]
      exact hlen
    generalize (wipe σ [13]).set 13 (some (V.int (0 + (i : Int)))) = τ at hs13 hs5 hsl ⊢
    refine g_lc (g_iRng1 (g_cons (v5 _ _ _ hs5 (g_nil (g_rng1 ⟨by omega, by omega⟩ ?_)))))
    rw [Int.toNat_natCast]
    refine lcR (σ0 := wipe τ [12]) rfl fun D2 hD2 => ⟨fun j H2 => H2 = upd H' D2 (.lst ((((List.range n).map fun j => if i = j then (1 : Int) else 0).take j).map V.int)), rfl, ?_, ?_⟩
    · rintro j H2 hj rfl
      refine g_turn1 (show TurnB _ _ _ _ D2 _ ((wipe τ [12]).set 12 (some (.int (0 + (j : Int))))) _ from g_turnB (by show (((τ.set 12 none).set 12 _).set 12 none) = τ.set 12 none; rw [List.set_set, List.set_set]) (g_yes (g_turnCt ?_)))
      have a13 : ((wipe τ [12]).set 12 (some (.int (0 + (j : Int)))))[13]? = some (some (.int (0 + (i : Int)))) := by
        show ((τ.set 12 none).set 12 _)[13]? = _
        rw [List.getElem?_set_ne (by decide), List.getElem?_set_ne (by decide)]
        exact hs13
      have a12 : ((wipe τ [12]).set 12 (some (.int (0 + (j : Int)))))[12]? = some (some (.int (0 + (j : Int)))) := by
        show ((τ.set 12 none).set 12 _)[12]? = _
        rw [List.getElem?_set_self (by rw [List.length_set]; omega)]
      refine g_cb (g_cons (g_op ⟨_, a13, ⟨_, a12, g_eqI (g_nil (g_intB ?_))⟩⟩))
      refine g_turnD upd_same (by rw [List.length_map, List.length_take, List.length_map, List.length_range]; omega) ?_
      dsimp only
      rw [upd_upd, List.take_add_one, List.getElem?_map, List.getElem?_range hj, List.map_append]
      have ee : (if (0 : Int) + (i : Int) = 0 + (j : Int) then (1 : Int) else 0) = if i = j then 1 else 0 := by
        by_cases c : i = j
        · rw [if_pos c, if_pos (by omega)]
        · rw [if_neg c, if_neg (by omega)]
      rw [ee]
      rfl
    · rintro H2 rfl
      rw [List.take_of_length_le (by rw [List.length_map, List.length_range]; exact Nat.le_refl _)]
      have n2 : D1 ≠ D2 := ne_of_none e1 hD2
      refine g_turnD (D := D1) (show upd H' D2 _ D1 = some (.lst (ps.map V.ref)) by rw [upd_ne n2]; exact e1) (by rw [List.length_map]; omega) ⟨ps ++ [D2], ?_, ?_, ?_, ?_⟩
      · rw [upd_same, List.map_append]; rfl
      · rw [List.length_append, el]; rfl
      · exact ((ch.trans (Chg.new hD2)).trans Chg.upd)
      · intro k p hk
        rw [List.getElem?_append] at hk
        by_cases c : k < ps.length
        · rw [if_pos c] at hk
          obtain ⟨a, b⟩ := rows k p hk
          refine ⟨a, ?_⟩
          rw [upd_ne a, upd_ne (ne_of_none b hD2)]
          exact b
        · rw [if_neg c] at hk
          have kz : k - ps.length = 0 := by
            have := (List.getElem?_eq_some_iff.mp hk).1
            simp at this
            omega
          have ek : k = i := by omega
          rw [kz] at hk
          obtain rfl : D2 = p := Option.some.inj hk
          subst ek
          exact ⟨Ne.symm n2, by rw [upd_ne (Ne.symm n2), upd_same]⟩
  · rintro H' ⟨ps, e1, el, ch, rows⟩
    exact q D1 ps H' hD1 (chg_same ch hD1) e1 el fun i p e => (rows i p e).2
def spRules : Sp := fun vs H Q _ => ∃ (a l x y g : Addr) (n : Nat) (m : Int) (xs ys : List Int) (rs : List (List Int)), vs = [.ref a, .ref x, .ref y, .ref g, .int m] ∧ Bag H a l ∧ Rw H a x xs ∧ Rw H a y ys ∧ GridL H a g rs ∧
  Sz n rs xs ∧ ys.length = n ∧ Sm 10000000000000000000000000000000000000000 xs ∧ Sm 10000000000000000000000000000000000000000 ys ∧ 1 ≤ m ∧ ∀ H', Bag H' a l → Chg a H H' → Q (.bl true) H'
theorem ok_rules {f : Addr} {fd : FuncData} (T : Top K mg) (F : FnP K "_law_rules_so" s__law_rules_so f fd) : FnOk P w K mg base CX0 6 f fd P__law_rules_so spRules := by
  have C__law_draw := c_draw1 (P := P) (w := w) (base := base) T
  have C__law_like := c_like (P := P) (w := w) (base := base) T 2
  have C_times := c_times (P := P) (w := w) (base := base) T
  have C_added := c_added (P := P) (w := w) (base := base) T
  have C_cut := c_cut (P := P) (w := w) (base := base) T
  have C_dot := c_dot (P := P) (w := w) (base := base) T
  have C_raised := c_raised (P := P) (w := w) (base := base) T
  refine F.ok sc__law_rules_so (fun vs H Q E h => ?_) (fun cdv A outer s H vs Q E hr h => ?_)
  · obtain ⟨a, l, x, y, g, n, m, xs, ys, rs, rfl, _⟩ := h
    rfl
  · obtain ⟨a, l, x, y, g, n, m, xs, ys, rs, rfl, hB, hx, hy, hg, sz, yl, sx, sy, hm, q⟩ := h
    refine ⟨_, PSs.nox (pss_cons (ps_set (i := 5) sc__law_rules_so.nd rfl (by first | exact Or.inl rfl | exact Or.inr rfl) (pe_callB (k_len (K := K) (by rfl)) (by rfl) T.z_len (by decide +kernel) (pa_cons (pv 1) pa_nil)))
    (pss_cons (ps_asg (pe_tup (pa_cons (pe_cal C_times (hr.mono (by first | decide | omega)) (by rfl) (pa_cons (pv 3) (pa_cons (pv 1) pa_nil))) (pa_cons (pe_cal C_times (hr.mono (by first | decide | omega)) (by rfl) (pa_cons (pv 3) (pa_cons (pv 2) pa_nil))) pa_nil))) (k_pgt (K := K) (n := 2) (by rfl) (by rfl) (pgs_cons (pg_name (i := 6) sc__law_rules_so.nd rfl (by first | exact Or.inl rfl | exact Or.inr rfl)) (pgs_cons (pg_name (i := 7) sc__law_rules_so.nd rfl (by first | exact Or.inl rfl | exact Or.inr rfl)) pgs_nil)) (by rfl) (by rfl)))
    (pss_cons (ps_if (pt_not (pt_val (pe_cal C__law_like (hr.mono (by first | decide | omega)) (by rfl) (pa_cons (pe_cal C_times (hr.mono (by first | decide | omega)) (by rfl) (pa_cons (pv 3) (pa_cons (pe_cal C_added (hr.mono (by first | decide | omega)) (by rfl) (pa_cons (pv 1) (pa_cons (pv 2) pa_nil))) pa_nil))) (pa_cons (pe_cal C_added (hr.mono (by first | decide | omega)) (by rfl) (pa_cons (pv 6) (pa_cons (pv 7) pa_nil))) pa_nil)))))
    (pss_one (ps_ret pe_bl))
    pss_nil)
    (pss_cons (ps_set (i := 8) sc__law_rules_so.nd rfl (by first | exact Or.inl rfl | exact Or.inr rfl) (pe_op op_add pe_int (pe_cal C__law_draw (hr.mono (by first | decide | omega)) (by rfl) (pa_cons (pv 0) (pa_cons (pe_callB (c_min2 (by rfl)) (by rfl) T.z_min (by decide +kernel) (pa_cons (pv 4) (pa_cons pe_int pa_nil))) pa_nil)))))
    (pss_cons (ps_if (PW.pt (pw_or (pt_not (pt_val (pe_cal C__law_like (hr.mono (by first | decide | omega)) (by rfl) (pa_cons (pe_cal C_cut (hr.mono (by first | decide | omega)) (by rfl) (pa_cons (pe_cal C_cut (hr.mono (by first | decide | omega)) (by rfl) (pa_cons (pv 1) (pa_cons (pv 4) pa_nil))) (pa_cons (pv 8) pa_nil))) (pa_cons (pe_cal C_cut (hr.mono (by first | decide | omega)) (by rfl) (pa_cons (pv 1) (pa_cons (pv 8) pa_nil))) pa_nil))))) (pw_or1 (pt_not (pt_val (pe_cal C__law_like (hr.mono (by first | decide | omega)) (by rfl) (pa_cons (pe_cal C_cut (hr.mono (by first | decide | omega)) (by rfl) (pa_cons (pe_cal C_cut (hr.mono (by first | decide | omega)) (by rfl) (pa_cons (pv 1) (pa_cons (pv 8) pa_nil))) (pa_cons (pv 4) pa_nil))) (pa_cons (pe_cal C_cut (hr.mono (by first | decide | omega)) (by rfl) (pa_cons (pv 1) (pa_cons (pv 8) pa_nil))) pa_nil))))))))
    (pss_one (ps_ret pe_bl))
    pss_nil)
    (pss_cons (ps_setLc (i := 9) (own := [("n", 10)]) (g := gName 10) (by rfl) sc__law_rules_so.nd rfl rfl (sw_true rfl rfl rfl (by decide +kernel)) (k_pit (K := K) (by rfl) (pe_cal C_raised (hr.mono (by first | decide | omega)) (by rfl) (pa_cons (pe_lc (own := [("n", 10)]) (g := gName 10) (by rfl) sc__law_rules_so.nd (k_pil (K := K) (by rfl) (pv 1)) (blkOk_by (own := [("n", 10)]) (N := N__law_rules_so) (sc := defScope s__law_rules_so) (by decide +kernel)) (fun _ _ _ _ _ => pg_name (i := 10) sc__law_rules_so.nd rfl (by first | exact Or.inl rfl | exact Or.inr rfl)) (fun _ _ _ _ _ => pts_nil) (fun _ _ _ _ _ => (pe_op op_sub pe_int (pv 10)))) pa_nil))) (blkOk_by (own := [("n", 10)]) (N := N__law_rules_so) (sc := defScope s__law_rules_so) (by decide +kernel)) (fun _ _ _ _ _ => pg_name (i := 10) sc__law_rules_so.nd rfl (by first | exact Or.inl rfl | exact Or.inr rfl)) (fun _ _ _ _ _ => pts_nil) (fun _ _ _ _ _ => (pe_op op_sub pe_int (pv 10))))
    (pss_cons (ps_if (pt_not (pt_val (pe_cal C__law_like (hr.mono (by first | decide | omega)) (by rfl) (pa_cons (pe_cal C_added (hr.mono (by first | decide | omega)) (by rfl) (pa_cons (pe_cal C_raised (hr.mono (by first | decide | omega)) (by rfl) (pa_cons (pv 1) pa_nil)) (pa_cons (pv 9) pa_nil))) (pa_cons (pe_callTy (k_tuple (K := K) (by rfl)) (by rfl) T.z_tuple (by decide +kernel) (pa_cons (pv 1) pa_nil)) pa_nil)))))
    (pss_one (ps_ret pe_bl))
    pss_nil)
    (pss_cons (ps_weak (u := tUnit 5 11) (ps_setLc (i := 11) (own := [("i", 13)]) (g := gName 13) (by rfl) sc__law_rules_so.nd rfl rfl (sw_true rfl rfl rfl (by decide +kernel)) (pi_range1 (by rfl) T.z_range (pa_cons (pv 5) pa_nil)) (blkOk_by (own := [("i", 13)]) (N := N__law_rules_so) (sc := defScope s__law_rules_so) (by decide +kernel)) (fun _ _ _ _ _ => pg_name (i := 13) sc__law_rules_so.nd rfl (by first | exact Or.inl rfl | exact Or.inr rfl)) (fun _ _ _ _ _ => pts_nil) (fun _ _ _ _ _ => (pe_lc (own := [("j", 12)]) (g := gName 12) (by rfl) sc__law_rules_so.nd (pi_range1 (by rfl) T.z_range (pa_cons (pv 5) pa_nil)) (blkOk_rel (own := [("j", 12)]) (N := N__law_rules_so) (sc := defScope s__law_rules_so) (by decide +kernel)) (fun _ _ _ _ _ => pg_name (i := 12) sc__law_rules_so.nd rfl (by first | exact Or.inl rfl | exact Or.inr rfl)) (fun _ _ _ _ _ => pts_nil) (fun _ _ _ _ _ => (pe_callTy c_intB (by rfl) T.z_int (by decide +kernel) (pa_cons (pe_cmpR op_eq (pv 13) (pv 12) (nomark _)) pa_nil)))))) (fun D σ H h => g_unit h))
    (pss_cons (ps_if (pt_not (pt_val (pe_cal C__law_like (hr.mono (by first | decide | omega)) (by rfl) (pa_cons (pe_cal C_times (hr.mono (by first | decide | omega)) (by rfl) (pa_cons (pv 11) (pa_cons (pv 1) pa_nil))) (pa_cons (pe_callTy (k_tuple (K := K) (by rfl)) (by rfl) T.z_tuple (by decide +kernel) (pa_cons (pv 1) pa_nil)) pa_nil)))))
    (pss_one (ps_ret pe_bl))
    pss_nil)
    (pss_one (ps_ret (pe_callB (k_all (K := K) (by rfl) (by rfl)) (by rfl) T.z_all (by decide +kernel) (pa_cons (pe_lc (own := [("k", 14)]) (g := gName 14) (by rfl) sc__law_rules_so.nd (pi_range1 (by rfl) T.z_range (pa_cons (pv 5) pa_nil)) (blkOk_by (own := [("k", 14)]) (N := N__law_rules_so) (sc := defScope s__law_rules_so) (by decide +kernel)) (fun _ _ _ _ _ => pg_name (i := 14) sc__law_rules_so.nd rfl (by first | exact Or.inl rfl | exact Or.inr rfl)) (fun _ _ _ _ _ => pts_nil) (fun _ _ _ _ _ => (pe_cmpR op_eq (pe_ix (k_ix (K := K) (by rfl)) (pv 6) (pv 14) (fun _ _ => rfl)) (pe_cal C_dot (hr.mono (by first | decide | omega)) (by rfl) (pa_cons (pe_ix (k_ix (K := K) (by rfl)) (pv 3) (pv 14) (fun _ _ => rfl)) (pa_cons (pv 1) pa_nil))) (nomark _)))) pa_nil))))))))))))), ?_⟩
    try simp only [cxK]
    clear C__law_draw C__law_like C_times C_added C_cut C_dot C_raised F T
    have z := sz
    obtain ⟨z1, z2, z3, z4, z5⟩ := z
    rw [show L2.start N__law_rules_so [.ref a, .ref x, .ref y, .ref g, .int m] = [some (.ref a), some (.ref x), some (.ref y), some (.ref g), some (.int m), none, none, none, none, none, none, none, none, none, none] from rfl]
    have hx0 := hx.2
    walk_at "go"
    rw [List.length_map, z2]
    have sm2 : ∀ ws : List Int, Sm 10000000000000000000000000000000000000000 ws → ∀ k ∈ ws, Sml k := fun ws h k hk => by
      have := h k hk
      exact ⟨by omega, by omega⟩
    have szy : Sz n rs ys := ⟨z1, yl, z3, sm2 ys sy, z5⟩
    have szs : Sz n rs (addI xs ys) := ⟨z1, addI_len z2 yl, z3, add_sml sx sy, z5⟩
    refine g_col hg.grid hx.sq sz fun p1 H1 f1 s1 e1 => ?_
    have ch1 : Chg a H H1 := sm_chg s1
    have B1 := bag_sm hB s1
    have t1 : Tp H1 a p1 (rs.map fun r => dotI r xs) := ⟨ne_bag hB f1, e1⟩
    walk_at "go"
    refine g_col (hg.chg ch1).grid (hy.chg ch1).sq szy fun p2 H2 f2 s2 e2 => ?_
    have ch2 : Chg a H H2 := ch1.trans (sm_chg s2)
    have B2 := bag_sm B1 s2
    have t2 : Tp H2 a p2 (rs.map fun r => dotI r ys) := ⟨ne_bag B1 f2, e2⟩
    have t21 := t1.chg (sm_chg s2)
    walk_at "go"
    rename_i q3 h3
    have ch3 := ch2.lay (o := .tup [.ref p1, .ref p2]) h3
    have B3 := bag_new (o := .tup [.ref p1, .ref p2]) B2 h3
    have t3 := t21.chg (Chg.new (o := .tup [.ref p1, .ref p2]) h3)
    have t32 := t2.chg (Chg.new (o := .tup [.ref p1, .ref p2]) h3)
    generalize upd H2 q3 (.tup [.ref p1, .ref p2]) = H3 at ch3 B3 t3 t32 ⊢
    clear h3 ch2 ch1 B1 B2 t1 t2 t21 s1 s2 e1 e2 f1 f2
    refine g_add (hx.chg ch3).sq (hy.chg ch3).sq (by omega) (by omega) fun p4 H4 f4 s4 e4 => ?_
    have ch4 := ch3.trans (sm_chg s4)
    have B4 := bag_sm B3 s4
    walk_at "go"
    refine g_col (hg.chg ch4).grid (.inr (.of e4)) szs fun p5 H5 f5 s5 e5 => ?_
    have ch5 := ch4.trans (sm_chg s5)
    have B5 := bag_sm B4 s5
    have t5 : Tp H5 a p5 (rs.map fun r => dotI r (addI xs ys)) := ⟨ne_bag B4 f5, e5⟩
    have t51 := t3.chg ((sm_chg s4).trans (sm_chg s5))
    have t52 := t32.chg ((sm_chg s4).trans (sm_chg s5))
    walk_at "go"
    refine g_add (.inr (.of t51.2)) (.inr (.of t52.2)) (by rw [List.length_map, List.length_map]) (by rw [List.length_map]; omega) fun p6 H6 f6 s6 e6 => ?_
    have ch6 := ch5.trans (sm_chg s6)
    have B6 := bag_sm B5 s6
    walk_at "go"
    refine g_likeT (t5.chg (sm_chg s6)).2 e6 (map_add z2 yl rs) (by rw [List.length_map]; omega) fun H7 s7 => ?_
    have ch7 := ch6.trans (sm_chg s7)
    have B7 := bag_sm B6 s7
    have t7 := (t51.chg (sm_chg s6)).chg (sm_chg s7)
    clear s4 s5 s6 s7 e4 e5 e6 f4 f5 f6 ch3 ch4 ch5 ch6 B3 B4 B5 B6 t3 t32 t5 t51 t52
    walk_at "go"
    refine ⟨m, 100, rfl, ?_⟩
    have hk0 : ∃ k : Int, (if 100 < m then 100 else m) = k ∧ 1 ≤ k ∧ k ≤ 100 ∧ k ≤ m := by
      by_cases c : 100 < m
      · exact ⟨100, if_pos c, by omega, by omega, by omega⟩
      · exact ⟨m, if_neg c, by omega, by omega, by omega⟩
    obtain ⟨k, ek, k1, k2, k3⟩ := hk0
    rw [ek]
    walk_at "go"
    refine g_drawB B7 ⟨by omega, by omega⟩ fun r8 H8 r8a r8b B8 c8 => ?_
    have ch8 := ch7.trans c8
    have t8 := t7.chg c8
    have hc1 : 1 ≤ 1 + r8 := by omega
    have hc2 : 1 + r8 ≤ m := by omega
    clear ch7 t7 B7 c8
    walk_at "go"
    generalize 1 + r8 = lw at hc1 hc2 ⊢
    refine g_cutP (hx.chg ch8).sq (by omega) hm fun p9 H9 f9 s9 e9 => ?_
    have ch9 := ch8.trans (sm_chg s9)
    have B9 := bag_sm B8 s9
    walk_at "go"
    refine g_cutP (.inr (.of e9)) (by rw [List.length_map]; omega) hc1 fun p10 H10 f10 s10 e10 => ?_
    have ch10 := ch9.trans (sm_chg s10)
    have B10 := bag_sm B9 s10
    have u10 : Tp H10 a p10 _ := ⟨ne_bag B9 f10, e10⟩
    walk_at "go"
    refine g_cutP (hx.chg ch10).sq (by omega) hc1 fun p11 H11 f11 s11 e11 => ?_
    have ch11 := ch10.trans (sm_chg s11)
    have B11 := bag_sm B10 s11
    walk_at "go"
    refine g_likeT (u10.chg (sm_chg s11)).2 e11 (map_cut hc1 hc2 xs) (by rw [List.length_map, List.length_map]; omega) fun H12 s12 => ?_
    have ch12 := ch11.trans (sm_chg s12)
    have B12 := bag_sm B11 s12
    have t12 := t8.chg ((((sm_chg s9).trans (sm_chg s10)).trans (sm_chg s11)).trans (sm_chg s12))
    clear s9 s10 s11 s12 e9 e10 e11 f9 f10 f11 ch8 ch9 ch10 ch11 B8 B9 B10 B11 u10 t8
    walk_at "go"
    refine g_cutP (hx.chg ch12).sq (by omega) hc1 fun p9 H9 f9 s9 e9 => ?_
    have ch9 := ch12.trans (sm_chg s9)
    have B9 := bag_sm B12 s9
    walk_at "go"
    refine g_cutP (.inr (.of e9)) (by rw [List.length_map]; omega) hm fun p10 H10 f10 s10 e10 => ?_
    have ch10 := ch9.trans (sm_chg s10)
    have B10 := bag_sm B9 s10
    have u10 : Tp H10 a p10 _ := ⟨ne_bag B9 f10, e10⟩
    walk_at "go"
    refine g_cutP (hx.chg ch10).sq (by omega) hc1 fun p11 H11 f11 s11 e11 => ?_
    have ch11 := ch10.trans (sm_chg s11)
    have B11 := bag_sm B10 s11
    walk_at "go"
    refine g_likeT (u10.chg (sm_chg s11)).2 e11 (map_cut2 hc1 hc2 xs) (by rw [List.length_map, List.length_map]; omega) fun H13 s13 => ?_
    have ch13 := ch11.trans (sm_chg s13)
    have B13 := bag_sm B11 s13
    have t13 := t12.chg ((((sm_chg s9).trans (sm_chg s10)).trans (sm_chg s11)).trans (sm_chg s13))
    clear s9 s10 s11 s13 e9 e10 e11 f9 f10 f11 ch12 ch9 ch10 ch11 B12 B9 B10 B11 u10 t12
    have hx13 := (hx.chg ch13).2
    walk_at "go"
    refine lcP (S := xs) (f := fun i => .int (0 - i)) (p := fun _ => true) (σ0 := [some (.ref a), some (.ref x), some (.ref y), some (.ref g), some (.int m), some (.int n), some (.ref p1), some (.ref p2), some (.int lw), none, none, none, none, none, none]) rfl (.of hx13) (by omega) ?_ ?_
    · intro D acc k N hD hk hy1 _
      have hy2 := hy1 rfl
      walk_at "go"
      exact hy2
    intro D hD
    rw [filter_yes xs (fun i => 0 - i)]
    have B14 := bag_new (o := .lst ((xs.map fun i => 0 - i).map V.int)) B13 hD
    have ch14 := ch13.lay (o := .lst ((xs.map fun i => 0 - i).map V.int)) hD
    have t14 := t13.chg (Chg.new (o := .lst ((xs.map fun i => 0 - i).map V.int)) hD)
    clear hx13
    walk_at "go"
    refine g_up (x := D) (ns := xs.map fun i => 0 - i) (.inl (.of upd_same)) (by rw [List.length_map]; omega) fun p15 H15 f15 s15 e15 => ?_
    have ch15 := ch14.trans (sm_chg s15)
    have B15 := bag_sm B14 s15
    have t15 := t14.chg (sm_chg s15)
    clear s15 ch14 B14 t14 hD ch13 B13 t13
    walk_at "go"
    refine lcPT (S := (xs.map fun i => 0 - i).map upI) (f := fun i => .int (0 - i)) (p := fun _ => true) (σ0 := [some (.ref a), some (.ref x), some (.ref y), some (.ref g), some (.int m), some (.int n), some (.ref p1), some (.ref p2), some (.int lw), none, none, none, none, none, none]) rfl (.of e15) (by rw [List.length_map, List.length_map]; omega) ?_ ?_
    · intro D acc k N hD hk hy1 _
      have hy2 := hy1 rfl
      walk_at "go"
      exact hy2
    intro D hD
    rw [filter_yes ((xs.map fun i => 0 - i).map upI) (fun i => 0 - i)]
    have B16 := bag_new (o := .lst ((((xs.map fun i => 0 - i).map upI).map fun i => 0 - i).map V.int)) B15 hD
    have ch16 := ch15.lay (o := .lst ((((xs.map fun i => 0 - i).map upI).map fun i => 0 - i).map V.int)) hD
    have t16 := t15.chg (Chg.new (o := .lst ((((xs.map fun i => 0 - i).map upI).map fun i => 0 - i).map V.int)) hD)
    have d16 : Rw (upd H15 D (.lst ((((xs.map fun i => 0 - i).map upI).map fun i => 0 - i).map V.int))) a D (((xs.map fun i => 0 - i).map upI).map fun i => 0 - i) := ⟨ne_bag B15 hD, upd_same⟩
    generalize upd H15 D (.lst ((((xs.map fun i => 0 - i).map upI).map fun i => 0 - i).map V.int)) = H16 at B16 ch16 t16 d16 ⊢
    clear hD e15 f15 ch15 B15 t15
    walk_at "go"
    refine g_up (hx.chg ch16).sq (by omega) fun p17 H17 f17 s17 e17 => ?_
    have ch17 := ch16.trans (sm_chg s17)
    have B17 := bag_sm B16 s17
    have t17 := t16.chg (sm_chg s17)
    walk_at "go"
    refine g_add (.inr (.of e17)) (d16.chg (sm_chg s17)).sq (by simp only [List.length_map]) (by rw [List.length_map]; omega) fun p18 H18 f18 s18 e18 => ?_
    have ch18 := ch17.trans (sm_chg s18)
    have B18 := bag_sm B17 s18
    have t18 := t17.chg (sm_chg s18)
    have u18 : Tp H18 a p18 _ := ⟨ne_bag B17 f18, e18⟩
    have hx18 := (hx.chg ch18).2
    walk_at "go"
    rename_i p19 h19
    refine g_likeT (u18.chg (Chg.new h19)).2 upd_same (up_less xs) (by rw [up_less]; omega) fun H20 s20 => ?_
    have ch20 : Chg a H H20 := (ch18.lay h19).trans (sm_chg s20)
    have B20 := bag_sm (bag_new B18 h19) s20
    have t20 : Tp H20 a p1 _ := t18.chg ((Chg.new h19).trans (sm_chg s20))
    clear s17 s18 s20 e17 e18 f17 f18 h19 hx18 u18 d16 ch16 ch17 ch18 B16 B17 B18 t16 t17 t18
    walk_at "go"
    refine ⟨n, Nat.le_refl 15, rfl, z3, fun u ps H21 fu su eu lu ku => ?_⟩
    have ch21 := ch20.trans (sm_chg su)
    have B21 := bag_sm B20 su
    have t21 := t20.chg (sm_chg su)
    have gu : Grid K H21 u (unitI n) := ⟨ps, .inl (.of eu), by unfold unitI; rw [List.length_map, List.length_range]; exact lu, fun i r hr => by
      unfold unitI at hr
      rw [List.getElem?_map, Option.map_eq_some_iff] at hr
      obtain ⟨i', hi', rfl⟩ := hr
      obtain ⟨hi2, e2⟩ := List.getElem?_eq_some_iff.mp hi'
      rw [List.getElem_range] at e2
      subst e2
      obtain ⟨p, hp⟩ := get_ltI (xs := ps) (i := i) (by rw [lu]; rw [List.length_range] at hi2; exact hi2)
      exact ⟨p, hp, .inl (.of (ku i p hp))⟩⟩
    have szu : Sz n (unitI n) xs := ⟨by unfold unitI; rw [List.length_map, List.length_range], z2, z3, z4, fun r hr => by
      unfold unitI at hr
      rw [List.mem_map] at hr
      obtain ⟨i, _, rfl⟩ := hr
      refine ⟨by rw [List.length_map, List.length_range], fun k hk => ?_⟩
      rw [List.mem_map] at hk
      obtain ⟨j, _, rfl⟩ := hk
      by_cases c : i = j
      · rw [if_pos c]; exact ⟨by decide, by decide⟩
      · rw [if_neg c]; exact ⟨by decide, by decide⟩⟩
    have hx21 := hx.chg ch21
    rw [show ([some (V.ref a), some (V.ref x), some (V.ref y), some (V.ref g), some (V.int m), some (V.int n), some (V.ref p1), some (V.ref p2), some (V.int lw), some (V.ref D), none, none, none, none, none] : L2.St).set 11 (some (V.ref u)) =
      [some (V.ref a), some (V.ref x), some (V.ref y), some (V.ref g), some (V.int m), some (V.int n), some (V.ref p1), some (V.ref p2), some (V.int lw), some (V.ref D), none, some (V.ref u), none, none, none] from rfl]
    walk_at "go"
    refine g_col gu hx21.sq szu fun p22 H22 f22 s22 e22 => ?_
    have ch22 := ch21.trans (sm_chg s22)
    have B22 := bag_sm B21 s22
    have u22 : Tp H22 a p22 _ := ⟨ne_bag B21 f22, e22⟩
    have t22 := t21.chg (sm_chg s22)
    have hx22 := (hx.chg ch22).2
    walk_at "go"
    rename_i p23 h23
    refine g_likeT (u22.chg (Chg.new h23)).2 upd_same (unit_times z2) (by rw [unit_times z2]; omega) fun H24 s24 => ?_
    have ch24 : Chg a H H24 := (ch22.lay h23).trans (sm_chg s24)
    have B24 := bag_sm (bag_new B22 h23) s24
    have t24 : Tp H24 a p1 _ := t22.chg ((Chg.new h23).trans (sm_chg s24))
    clear su eu fu ku gu szu hx21 s22 s24 e22 f22 h23 hx22 u22 ch20 ch21 ch22 B20 B21 B22 t20 t21 t22
    walk_at "go"
    rw [Int.toNat_natCast]
    refine lcR (n := n) (σ0 := [some (.ref a), some (.ref x), some (.ref y), some (.ref g), some (.int m), some (.int n), some (.ref p1), some (.ref p2), some (.int lw), some (.ref D), none, some (.ref u), none, none, none]) rfl fun D2 hD2 =>
      ⟨fun i H' => H' D2 = some (.lst ((List.replicate i true).map V.bl)) ∧ Chg D2 H24 H', ⟨upd_same, Chg.upd⟩, ?_, ?_⟩
    · rintro i H' hi ⟨e1, c1⟩
      have s := chg_same c1 hD2
      have ch := ch24.trans (sm_chg s)
      have tf := t24.chg (sm_chg s)
      obtain ⟨ga, gs, ge, gl, gk⟩ := hg.chg ch
      obtain ⟨r, hr⟩ := get_ltI (xs := rs) (i := i) (by omega)
      obtain ⟨pr, hp, rw1⟩ := gk i r hr
      obtain ⟨rl, rsm⟩ := z5 r (List.mem_of_getElem? hr)
      have a1 : atI ((rs.map fun r => dotI r xs).map V.int) (0 + (i : Int)) = some (.int (dotI r xs)) := at_nat (by rw [List.getElem?_map, hr]; rfl)
      have a2 := at_ref hp
      have tf2 := tf.2
      walk_at "go"
      refine g_dot (x := pr) (y := x) rw1.sq (hx.chg ch).sq (by omega) (by omega) rsm z4 fun H3 s3 => ?_
      walk_at "go"
      have e3 : H3 D2 = some (.lst ((List.replicate i true).map V.bl)) := s3 _ _ e1
      rw [decide_eq_true rfl]
      refine g_turnD e3 (by rw [List.length_map, List.length_replicate]; omega) ⟨?_, ?_⟩
      · rw [upd_same, List.replicate_succ', List.map_append]
        rfl
      · exact (c1.trans (sm_chg s3)).put
    · rintro H' ⟨e1, c1⟩
      have s := chg_same c1 hD2
      walk_at "go"
      rw [all_rep]
      exact q _ (bag_sm B24 s) (ch24.trans (sm_chg s))
theorem c_rules (T : Top K mg) : Cal P w K mg base "_law_rules_so" 6 P__law_rules_so spRules := cal_mk T.f__law_rules_so (ok_rules T) (fun F => F.bindsN fun _ _ _ _ _ _ us hl => match us, hl with | [_, _, _, _, _], _ => rfl)
end

set_option Elab.async false
set_option linter.all false
set_option maxRecDepth 100000
set_option maxHeartbeats 4000000
open PySem PySem.Spec L2

section
variable {P : Program} {w : World} {K : PySem.W.Frag} {mg : Str → Option Value} {base : Heap}
theorem shaped_dT (ns : List Int) : SeqAt.shaped (dT ns) = true := by
  obtain ⟨h1, h2⟩ := can_ints ns
  unfold SeqAt.shaped
  show (PyData.canLayAll0 (dInts ns) && decide (PyData.depth (.tuple (dInts ns)) ≤ 64)) = true
  rw [show PyData.canLayAll0 (dInts ns) = true from h1]
  exact decide_eq_true (by show PyData.depthAll (dInts ns) + 1 ≤ 64; rw [h2]; decide)
/-- the rows: lists of their own -/
def Rows (H : Hp) (a l px py g : Addr) (rs : List (List Int)) : Prop := g ≠ a ∧ ∃ ps : List Addr, H g = some (.lst (ps.map V.ref)) ∧ ps.length = rs.length ∧
  ∀ (i : Nat) (r : List Int), rs[i]? = some r → ∃ p, ps[i]? = some p ∧ Rw H a p r ∧ p ≠ px ∧ p ≠ py ∧ p ≠ l
theorem Rows.chg {H H' : Hp} {a l px py g : Addr} {rs : List (List Int)} (h : Rows H a l px py g rs) (c : Chg a H H') : Rows H' a l px py g rs := by
  obtain ⟨n, ps, e, hl, k⟩ := h
  exact ⟨n, ps, c _ _ n e, hl, fun i r e2 => by
    obtain ⟨p, e3, z, y⟩ := k i r e2
    exact ⟨p, e3, z.chg c, y⟩⟩
theorem Rows.grid {H : Hp} {a l px py g : Addr} {rs : List (List Int)} (h : Rows H a l px py g rs) : GridL H a g rs := by
  obtain ⟨n, ps, e, hl, k⟩ := h
  exact ⟨n, ps, e, hl, fun i r e2 => by
    obtain ⟨p, e3, z, _⟩ := k i r e2
    exact ⟨p, e3, z⟩⟩
/-- tuples within a tuple -/
def Tups (H : Hp) (a g : Addr) (rs : List (List Int)) : Prop := g ≠ a ∧ ∃ ps : List Addr, H g = some (.tup (ps.map V.ref)) ∧ ps.length = rs.length ∧
  ∀ (i : Nat) (r : List Int), rs[i]? = some r → ∃ p, ps[i]? = some p ∧ Tp H a p r
theorem Tups.chg {H H' : Hp} {a g : Addr} {rs : List (List Int)} (h : Tups H a g rs) (c : Chg a H H') : Tups H' a g rs := by
  obtain ⟨n, ps, e, l, k⟩ := h
  exact ⟨n, ps, c _ _ n e, l, fun i r e2 => by
    obtain ⟨p, e3, z⟩ := k i r e2
    exact ⟨p, e3, z.chg c⟩⟩
theorem Tups.grid {K : PySem.W.Frag} {H : Hp} {a g : Addr} {rs : List (List Int)} (h : Tups H a g rs) : Grid K H g rs := by
  obtain ⟨n, ps, e, l, k⟩ := h
  exact ⟨ps, .inr (.of e), l, fun i r e2 => by
    obtain ⟨p, e3, z⟩ := k i r e2
    exact ⟨p, e3, .inr (.of z.2)⟩⟩
/-- the tuples of the rows so far -/
def TupsN (mk : List V → HO) (H : Hp) (a l D : Addr) (rs : List (List Int)) (H1 : Hp) (i : Nat) : Prop := ∃ qs : List Addr, H D = some (.lst (qs.map V.ref)) ∧ qs.length = i ∧
  (∀ (k : Nat) (r : List Int), k < i → rs[k]? = some r → ∃ q, qs[k]? = some q ∧ q ≠ D ∧ q ≠ a ∧ H q = some (mk (r.map V.int))) ∧ Bag H a l ∧ Chg a H1 H
theorem TupsN.next {mk : List V → HO} {H H1 : Hp} {a l D t : Addr} {rs : List (List Int)} {i : Nat} {r : List Int} (h : TupsN mk H a l D rs H1 i) (hD : H1 D = none) (naD : D ≠ a) (nlD : D ≠ l) (hr : rs[i]? = some r) (hi : i < 1000) (ht : H t = none) :
    TurnD D (fun H' => TupsN mk H' a l D rs H1 (i + 1)) (.ref t) (upd H t (mk (r.map V.int))) := by
  obtain ⟨qs, e, hl, k, B, c⟩ := h
  have nD : D ≠ t := ne_of_none e ht
  have nta : t ≠ a := ne_bag B ht
  refine g_turnD (show upd H t (mk (r.map V.int)) D = some (.lst (qs.map V.ref)) by rw [upd_ne nD]; exact e) (by rw [List.length_map]; omega)
    ⟨qs ++ [t], by rw [upd_same, List.map_append]; rfl, by simp [hl], ?_, bag_chg (bag_new B ht) naD nlD, (c.lay ht).putn hD⟩
  intro j r' hj hr'
  by_cases c : j < i
  · obtain ⟨p, hp, pD, pa, pe⟩ := k j r' c hr'
    refine ⟨p, by rw [List.getElem?_append_left (by omega)]; exact hp, pD, pa, ?_⟩
    rw [upd_ne pD, upd_ne (ne_of_none pe ht)]
    exact pe
  · have ej : j = i := by omega
    subst ej
    obtain rfl : r = r' := Option.some.inj (hr.symm.trans hr')
    refine ⟨t, by rw [List.getElem?_append_right (by omega), hl, Nat.sub_self]; rfl, Ne.symm nD, nta, ?_⟩
    rw [upd_ne (Ne.symm nD), upd_same]
theorem tups_done {H : Hp} {a t : Addr} {D : Addr} {rs : List (List Int)} {qs : List Addr} (hl : qs.length = rs.length)
    (k : ∀ (k : Nat) (r : List Int), k < rs.length → rs[k]? = some r → ∃ q, qs[k]? = some q ∧ q ≠ D ∧ Tp H a q r) (ht : H t = none) (nta : t ≠ a) : Tups (upd H t (.tup (qs.map V.ref))) a t rs := by
  refine ⟨nta, qs, upd_same, hl, fun i r hr => ?_⟩
  obtain ⟨q, hq, _, pa, pe⟩ := k i r (List.getElem?_eq_some_iff.mp hr).1 hr
  exact ⟨q, hq, pa, by rw [upd_ne (ne_of_none pe ht)]; exact pe⟩
theorem eqv_dT (ns : List Int) : PyData.eqv (dT ns) (dT ns) = true := by
  have e : PyData.eqv (dT ns) (dT ns) = decide (ns = ns) := eqv_ints ns ns
  rw [e]
  exact decide_eq_true rfl
def dG (rs : List (List Int)) : PyData := .tuple (rs.map dT)
theorem eqv_dG : ∀ rs : List (List Int), PyData.eqvAll (rs.map dT) (rs.map dT) = true
  | [] => rfl
  | r :: rs => by
    show (PyData.eqv (dT r) (dT r) && PyData.eqvAll (rs.map dT) (rs.map dT)) = true
    rw [eqv_dT, eqv_dG rs]
    rfl
theorem can_dT (ns : List Int) : PyData.canLay0 (dT ns) = true := (can_ints ns).1
theorem dep_dT (ns : List Int) : PyData.depth (dT ns) = 1 := depth_dT ns
theorem can_dG : ∀ rs : List (List Int), PyData.canLayAll0 (rs.map dT) = true ∧ PyData.depthAll (rs.map dT) ≤ 1
  | [] => ⟨rfl, Nat.zero_le _⟩
  | r :: rs => by
    obtain ⟨h1, h2⟩ := can_dG rs
    refine ⟨?_, ?_⟩
    · show (PyData.canLay0 (dT r) && PyData.canLayAll0 (rs.map dT)) = true
      rw [can_dT, h1]
      rfl
    · show max (PyData.depth (dT r)) (PyData.depthAll (rs.map dT)) ≤ 1
      rw [dep_dT]
      omega
theorem shaped_dG (rs : List (List Int)) : SeqAt.shaped (dG rs) = true := by
  obtain ⟨h1, h2⟩ := can_dG rs
  unfold SeqAt.shaped
  show (PyData.canLayAll0 (rs.map dT) && decide (PyData.depth (.tuple (rs.map dT)) ≤ 64)) = true
  rw [h1]
  exact decide_eq_true (by show PyData.depthAll (rs.map dT) + 1 ≤ 64; omega)
theorem g_neD1 {H : Hp} {Q : VK} {x y : V} {d : PyData} (h1 : Dp K H x d) (h2 : Dp K H y d) (s : SeqAt.shaped d = true) (e : PyData.eqv d d = true) (q : Q (.bl false) H) : rNeD K x y H Q := ⟨d, d, h1, h2, s, s, by rw [e]; exact q⟩
theorem g_neT {H : Hp} {Q : VK} {p q : Addr} {ns : List Int} (h1 : H p = some (.tup (ns.map V.int))) (h2 : H q = some (.tup (ns.map V.int))) (k : Q (.bl false) H) : rNeD K (.ref p) (.ref q) H Q := g_neD1 (dp_tupI h1) (dp_tupI h2) (shaped_dT ns) (eqv_dT ns) k
theorem dp_row {H : Hp} {a : Addr} : ∀ (ps : List Addr) (rs : List (List Int)), ps.length = rs.length → (∀ (i : Nat) (r : List Int), rs[i]? = some r → ∃ p, ps[i]? = some p ∧ Tp H a p r) → DpAll K H (ps.map V.ref) (rs.map dT)
  | [], [], _, _ => .nil
  | p :: ps, r :: rs, hl, h => by
    obtain ⟨p', e, t⟩ := h 0 r rfl
    obtain rfl : p = p' := Option.some.inj e
    exact .cons (dp_tupI t.2) (dp_row ps rs (by simpa using hl) fun i r hr => h (i + 1) r hr)
  | [], _ :: _, hl, _ => by simp at hl
  | _ :: _, [], hl, _ => by simp at hl
theorem Tups.dp {H : Hp} {a g : Addr} {rs : List (List Int)} (h : Tups H a g rs) : Dp K H (.ref g) (dG rs) := by
  obtain ⟨_, ps, e, hl, k⟩ := h
  exact .tup (.of e) (dp_row ps rs hl k)
theorem Tp.set {H : Hp} {a p D : Addr} {ns : List Int} {zs : List V} {o : HO} (h : Tp H a p ns) (e : H D = some (.lst zs)) : Tp (upd H D o) a p ns := by
  have n : p ≠ D := fun z => by
    have q := h.2
    rw [z, e] at q
    cases q
  exact ⟨h.1, by rw [upd_ne n]; exact h.2⟩
theorem Tups.set {H : Hp} {a g D : Addr} {rs : List (List Int)} {zs : List V} {o : HO} (h : Tups H a g rs) (e : H D = some (.lst zs)) : Tups (upd H D o) a g rs := by
  obtain ⟨n, ps, e1, hl, k⟩ := h
  have nD : g ≠ D := fun z => by
    rw [z, e] at e1
    cases e1
  exact ⟨n, ps, by rw [upd_ne nD]; exact e1, hl, fun i r hr => by
    obtain ⟨p, hp, t⟩ := k i r hr
    exact ⟨p, hp, t.set e⟩⟩
theorem at_0 {ns : List Int} (h : 1 ≤ ns.length) : atI (ns.map V.int) 0 = some (.int (ns.getD 0 0)) := atI_nat (xs := ns.map V.int) (j := 0) (v := .int (ns.getD 0 0)) (by
  rw [List.getElem?_map, List.getD_eq_getElem?_getD, List.getElem?_eq_getElem (by omega)]; rfl)
theorem at_r0 {ps : List Addr} {p : Addr} (h : ps[0]? = some p) : atI (ps.map V.ref) 0 = some (.ref p) := atI_nat (xs := ps.map V.ref) (j := 0) (v := .ref p) (by rw [List.getElem?_map, h]; rfl)
theorem at_last {ns : List Int} {n : Nat} (h : ns.length = n) (h1 : 1 ≤ n) : atI (ns.map V.int) ((n : Int) - 1) = some (.int (ns.getD (n - 1) 0)) := by
  have e : ((n : Int) - 1) = ((n - 1 : Nat) : Int) := by omega
  rw [e]
  exact atI_nat (xs := ns.map V.int) (j := n - 1) (v := .int (ns.getD (n - 1) 0)) (by
    rw [List.getElem?_map, List.getD_eq_getElem?_getD, List.getElem?_eq_getElem (by omega)]; rfl)
def spLaw (K : PySem.W.Frag) : Sp := fun vs H Q _ => ∃ (a : Addr) (ns : List Int), vs = [.ref a] ∧ SqL K H a (ns.map V.int) ∧ ns.length ≤ 63 ∧ ∀ H', Q (.bl true) H'
theorem ok_law {f : Addr} {fd : FuncData} (T : Top K mg) (F : FnP K "law" s_law f fd) : FnOk P w K mg base CX0 12 f fd P_law (spLaw K) := by
  have C__law_bag := c_bag (P := P) (w := w) (base := base) T
  have C__law_draw := c_draw1 (P := P) (w := w) (base := base) T
  have C__law_numbers := c_nums (P := P) (w := w) (base := base) T
  have C__law_of := c_of (P := P) (w := w) (base := base) T
  have C__law_by_columns := c_col (P := P) (w := w) (base := base) T
  have C__law_cut := c_lcut (P := P) (w := w) (base := base) T
  have C__law_sums_so := c_sums (P := P) (w := w) (base := base) T
  have C__law_rules_so := c_rules (P := P) (w := w) (base := base) T
  have C__law_like := c_like (P := P) (w := w) (base := base) T 2
  have C_times := c_times (P := P) (w := w) (base := base) T
  have C_added := c_added (P := P) (w := w) (base := base) T
  have C_cut := c_cut (P := P) (w := w) (base := base) T
  have C_raised := c_raised (P := P) (w := w) (base := base) T
  refine F.ok sc_law (fun vs H Q E h => ?_) (fun cdv A outer s H vs Q E hr h => ?_)
  · obtain ⟨a, ns, rfl, _⟩ := h
    rfl
  · obtain ⟨s0, ns, rfl, hS, hlen, q⟩ := h
    refine ⟨_, PSs.nox (pss_cons (ps_set (i := 1) sc_law.nd rfl (by first | exact Or.inl rfl | exact Or.inr rfl) (pe_cal C__law_bag (hr.mono (by first | decide | omega)) (by rfl) (pa_cons (pv 0) pa_nil)))
    (pss_cons (ps_for PassesOwn.never rfl (pi_range1 (by rfl) T.z_range (pa_cons pe_int pa_nil)) (pg_name (i := 2) sc_law.nd rfl (by first | exact Or.inl rfl | exact Or.inr rfl))
    (pss_cons (ps_set (i := 3) sc_law.nd rfl (by first | exact Or.inl rfl | exact Or.inr rfl) (pe_op op_add pe_int (pe_cal C__law_draw (hr.mono (by first | decide | omega)) (by rfl) (pa_cons (pv 1) (pa_cons pe_int pa_nil)))))
    (pss_cons (ps_par (i := 4) (j := 5) (by rfl) sc_law.nd rfl rfl (by decide) rfl rfl (pa_cons (pe_cal C__law_numbers (hr.mono (by first | decide | omega)) (by rfl) (pa_cons (pv 1) (pa_cons (pv 3) pa_nil))) (pa_cons (pe_cal C__law_numbers (hr.mono (by first | decide | omega)) (by rfl) (pa_cons (pv 1) (pa_cons (pv 3) pa_nil))) pa_nil)) (by rfl))
    (pss_cons (ps_setLc (i := 6) (own := [("k", 7)]) (g := gName 7) (by rfl) sc_law.nd rfl rfl (sw_true rfl rfl rfl (by decide +kernel)) (pi_range1 (by rfl) T.z_range (pa_cons (pv 3) pa_nil)) (blkOk_by (own := [("k", 7)]) (N := N_law) (sc := defScope s_law) (by decide +kernel)) (fun _ _ _ _ _ => pg_name (i := 7) sc_law.nd rfl (by first | exact Or.inl rfl | exact Or.inr rfl)) (fun _ _ _ _ _ => pts_nil) (fun _ _ _ _ _ => (pe_cal C__law_numbers (hr.mono (by first | decide | omega)) (by rfl) (pa_cons (pv 1) (pa_cons (pv 3) pa_nil)))))
    (pss_cons (ps_set (i := 8) sc_law.nd rfl (by first | exact Or.inl rfl | exact Or.inr rfl) (pe_cal C__law_of (hr.mono (by first | decide | omega)) (by rfl) (pa_cons (pv 1) (pa_cons (pe_lst (pa_cons pe_int (pa_cons pe_int (pa_cons pe_int (pa_cons pe_int (pa_cons pe_int (pa_cons (pe_op op_add pe_int (pe_cal C__law_draw (hr.mono (by first | decide | omega)) (by rfl) (pa_cons (pv 1) (pa_cons pe_int pa_nil)))) (pa_cons pe_int pa_nil)))))))) pa_nil))))
    (pss_cons (ps_asg (pe_tup (pa_cons (pe_callTy (k_tuple (K := K) (by rfl)) (by rfl) T.z_tuple (by decide +kernel) (pa_cons (pv 4) pa_nil)) (pa_cons (pe_callTy (k_tuple (K := K) (by rfl)) (by rfl) T.z_tuple (by decide +kernel) (pa_cons (pv 5) pa_nil)) (pa_cons (pe_callTy (k_tuple (K := K) (by rfl)) (by rfl) T.z_tuple (by decide +kernel) (pa_cons (pe_lc (own := [("lot", 12)]) (g := gName 12) (by rfl) sc_law.nd (k_pil (K := K) (by rfl) (pv 6)) (blkOk_by (own := [("lot", 12)]) (N := N_law) (sc := defScope s_law) (by decide +kernel)) (fun _ _ _ _ _ => pg_name (i := 12) sc_law.nd rfl (by first | exact Or.inl rfl | exact Or.inr rfl)) (fun _ _ _ _ _ => pts_nil) (fun _ _ _ _ _ => (pe_callTy (k_tuple (K := K) (by rfl)) (by rfl) T.z_tuple (by decide +kernel) (pa_cons (pv 12) pa_nil)))) pa_nil)) pa_nil)))) (k_pgt (K := K) (n := 3) (by rfl) (by rfl) (pgs_cons (pg_name (i := 9) sc_law.nd rfl (by first | exact Or.inl rfl | exact Or.inr rfl)) (pgs_cons (pg_name (i := 10) sc_law.nd rfl (by first | exact Or.inl rfl | exact Or.inr rfl)) (pgs_cons (pg_name (i := 11) sc_law.nd rfl (by first | exact Or.inl rfl | exact Or.inr rfl)) pgs_nil))) (by rfl) (by rfl)))
    (pss_cons (ps_if (pt_not (pt_val (pe_cal C__law_sums_so (hr.mono (by first | decide | omega)) (by rfl) (pa_cons (pv 1) (pa_cons (pe_callTy (k_list (K := K) (by rfl)) (by rfl) T.z_list (by decide +kernel) (pa_cons (pv 9) pa_nil)) (pa_cons (pe_callTy (k_list (K := K) (by rfl)) (by rfl) T.z_list (by decide +kernel) (pa_cons (pv 10) pa_nil)) (pa_cons (pe_lc (own := [("lot", 12)]) (g := gName 12) (by rfl) sc_law.nd (k_pit (K := K) (by rfl) (pv 11)) (blkOk_by (own := [("lot", 12)]) (N := N_law) (sc := defScope s_law) (by decide +kernel)) (fun _ _ _ _ _ => pg_name (i := 12) sc_law.nd rfl (by first | exact Or.inl rfl | exact Or.inr rfl)) (fun _ _ _ _ _ => pts_nil) (fun _ _ _ _ _ => (pe_callTy (k_list (K := K) (by rfl)) (by rfl) T.z_list (by decide +kernel) (pa_cons (pv 12) pa_nil)))) (pa_cons (pv 8) pa_nil))))))))
    (pss_one (ps_ret pe_bl))
    pss_nil)
    (pss_cons (ps_if (pt_not (pt_val (pe_cal C__law_rules_so (hr.mono (by first | decide | omega)) (by rfl) (pa_cons (pv 1) (pa_cons (pv 4) (pa_cons (pv 5) (pa_cons (pv 6) (pa_cons (pv 8) pa_nil))))))))
    (pss_one (ps_ret pe_bl))
    pss_nil)
    (pss_cons (ps_set (i := 13) sc_law.nd rfl (by first | exact Or.inl rfl | exact Or.inr rfl) (pe_lst (pa_cons (pe_cal C_times (hr.mono (by first | decide | omega)) (by rfl) (pa_cons (pv 6) (pa_cons (pv 4) pa_nil))) (pa_cons (pe_cal C_added (hr.mono (by first | decide | omega)) (by rfl) (pa_cons (pv 4) (pa_cons (pv 5) pa_nil))) (pa_cons (pe_cal C_cut (hr.mono (by first | decide | omega)) (by rfl) (pa_cons (pv 4) (pa_cons (pv 8) pa_nil))) (pa_cons (pe_cal C_raised (hr.mono (by first | decide | omega)) (by rfl) (pa_cons (pv 4) pa_nil)) pa_nil))))))
    (pss_cons (ps_if (PW.pt (pw_or (pt_cmpR (k_neD (K := K) (by rfl) hr.units) (pe_callTy (k_tuple (K := K) (by rfl)) (by rfl) T.z_tuple (by decide +kernel) (pa_cons (pv 4) pa_nil)) (pv 9) (nomark _)) (pw_or (pt_cmpR (k_neD (K := K) (by rfl) hr.units) (pe_callTy (k_tuple (K := K) (by rfl)) (by rfl) T.z_tuple (by decide +kernel) (pa_cons (pv 5) pa_nil)) (pv 10) (nomark _)) (pw_or1 (pt_cmpR (k_neD (K := K) (by rfl) hr.units) (pe_callTy (k_tuple (K := K) (by rfl)) (by rfl) T.z_tuple (by decide +kernel) (pa_cons (pe_lc (own := [("lot", 12)]) (g := gName 12) (by rfl) sc_law.nd (k_pil (K := K) (by rfl) (pv 6)) (blkOk_by (own := [("lot", 12)]) (N := N_law) (sc := defScope s_law) (by decide +kernel)) (fun _ _ _ _ _ => pg_name (i := 12) sc_law.nd rfl (by first | exact Or.inl rfl | exact Or.inr rfl)) (fun _ _ _ _ _ => pts_nil) (fun _ _ _ _ _ => (pe_callTy (k_tuple (K := K) (by rfl)) (by rfl) T.z_tuple (by decide +kernel) (pa_cons (pv 12) pa_nil)))) pa_nil)) (pv 11) (nomark _))))))
    (pss_one (ps_ret pe_bl))
    pss_nil)
    (pss_cons (ps_asg (pe_tup (pa_cons (pe_op op_add (pe_ix (k_ix (K := K) (by rfl)) (pv 4) pe_int (fun _ _ => rfl)) pe_int) (pa_cons (pe_op op_sub (pe_ix (k_ix (K := K) (by rfl)) (pv 5) (pe_op op_sub (pv 3) pe_int) (fun _ _ => rfl)) pe_int) (pa_cons (pe_op op_add (pe_ix (k_ix (K := K) (by rfl)) (pe_ix (k_ix (K := K) (by rfl)) (pv 6) pe_int (fun _ _ => rfl)) pe_int (fun _ _ => rfl)) pe_int) pa_nil)))) (k_pgt (K := K) (n := 3) (by rfl) (by rfl) (pgs_cons (pg_sub (pv 4) pe_int set_list) (pgs_cons (pg_sub (pv 5) (pe_op op_sub (pv 3) pe_int) set_list) (pgs_cons (pg_sub (pe_ix (k_ix (K := K) (by rfl)) (pv 6) pe_int (fun _ _ => rfl)) pe_int set_list) pgs_nil))) (by rfl) (by rfl)))
    (pss_cons (ps_set (i := 14) sc_law.nd rfl (by first | exact Or.inl rfl | exact Or.inr rfl) (pe_lst (pa_cons (pe_cal C__law_by_columns (hr.mono (by first | decide | omega)) (by rfl) (pa_cons (pv 11) (pa_cons (pv 9) pa_nil))) (pa_cons (pe_callTy (k_tuple (K := K) (by rfl)) (by rfl) T.z_tuple (by decide +kernel) (pa_cons (pe_lc (own := [("k", 7)]) (g := gName 7) (by rfl) sc_law.nd (pi_range1 (by rfl) T.z_range (pa_cons (pv 3) pa_nil)) (blkOk_by (own := [("k", 7)]) (N := N_law) (sc := defScope s_law) (by decide +kernel)) (fun _ _ _ _ _ => pg_name (i := 7) sc_law.nd rfl (by first | exact Or.inl rfl | exact Or.inr rfl)) (fun _ _ _ _ _ => pts_nil) (fun _ _ _ _ _ => (pe_op op_add (pe_ix (k_ix (K := K) (by rfl)) (pv 9) (pv 7) (fun _ _ => rfl)) (pe_ix (k_ix (K := K) (by rfl)) (pv 10) (pv 7) (fun _ _ => rfl))))) pa_nil)) (pa_cons (pe_cal C__law_cut (hr.mono (by first | decide | omega)) (by rfl) (pa_cons (pv 9) (pa_cons (pv 8) pa_nil))) pa_nil)))))
    (pss_one (ps_if (pt_not (pt_val (pe_cal C__law_like (hr.mono (by first | decide | omega)) (by rfl) (pa_cons (pv 13) (pa_cons (pe_op op_cat (pv 14) (pe_lst (pa_cons (pe_callTy (k_tuple (K := K) (by rfl)) (by rfl) T.z_tuple (by decide +kernel) (pa_cons (pe_lc (own := [("n", 15)]) (g := gName 15) (by rfl) sc_law.nd (k_pit (K := K) (by rfl) (pv 9)) (blkOk_by (own := [("n", 15)]) (N := N_law) (sc := defScope s_law) (by decide +kernel)) (fun _ _ _ _ _ => pg_name (i := 15) sc_law.nd rfl (by first | exact Or.inl rfl | exact Or.inr rfl)) (fun _ _ _ _ _ => pts_nil) (fun _ _ _ _ _ => (pe_ifExp (pt_cmpR op_gt (pv 15) pe_int (nomark _)) (pv 15) pe_int))) pa_nil)) pa_nil))) pa_nil)))))
    (pss_one (ps_ret pe_bl))
    pss_nil))))))))))))))
    (pss_one (ps_ret pe_bl)))), ?_⟩
    clear C__law_bag C__law_draw C__law_numbers C__law_of C__law_by_columns C__law_cut C__law_sums_so C__law_rules_so C__law_like C_times C_added C_cut C_raised F T
    rw [show L2.start N_law [V.ref s0] = [some (.ref s0), none, none, none, none, none, none, none, none, none, none, none, none, none, none, none] from rfl]
    walk_at "go"
    refine ⟨s0, ns, rfl, hS, fun a l H1 B1 hp s1 => ?_⟩
    walk_at "go"
    refine forR ⟨fun i σ' H' => ∃ rest, rest.length = 14 ∧ σ' = some (V.ref s0) :: some (V.ref a) :: rest ∧ Bag H' a l, ⟨_, rfl, rfl, B1⟩, ?_, ?_⟩
    · rintro i σ' H' hi ⟨rest, hrest, rfl, B2⟩
      obtain ⟨r1, r2, r3, r4, r5, r6, r7, r8, r9, r10, r11, r12, r13, r14, rfl⟩ : ∃ r1 r2 r3 r4 r5 r6 r7 r8 r9 r10 r11 r12 r13 r14, rest = [r1, r2, r3, r4, r5, r6, r7, r8, r9, r10, r11, r12, r13, r14] := by
        match rest, hrest with
        | [r1, r2, r3, r4, r5, r6, r7, r8, r9, r10, r11, r12, r13, r14], _ => exact ⟨_, _, _, _, _, _, _, _, _, _, _, _, _, _, rfl⟩
      clear hrest
      walk_at "go"
      refine g_drawB B2 ⟨by omega, by omega⟩ fun r0 H2 r0a r0b B3 c2 => ?_
      walk_at "go"
      obtain ⟨n, hn⟩ : ∃ n : Nat, 1 + r0 = (n : Int) := ⟨(1 + r0).toNat, by omega⟩
      rw [hn]
      have n1 : 1 ≤ n := by omega
      have n4 : n ≤ 4 := by omega
      clear hn r0a r0b
      refine g_nums B3 ⟨n1, by omega⟩ fun px xs H3 lx sx fx nxa nxl ex B4 c3 => ?_
      walk_at "go"
      refine g_nums B4 ⟨n1, by omega⟩ fun py ys H4 ly sy fy nya nyl ey B5 c4 => ?_
      have nxy : px ≠ py := ne_of_none ex fy
      have ex4 := c4 _ _ nxa ex
      walk_at "go"
      refine lcR (σ0 := [some (V.ref s0), some (V.ref a), some (V.int (0 + ↑i)), some (V.int ↑n), some (V.ref px), some (V.ref py), r5, none, r7, r8, r9, r10, r11, r12, r13, r14]) rfl fun D hD => ?_
      obtain ⟨naD, nlD⟩ := bag_apart B5 hD
      have nDx : px ≠ D := ne_of_none ex4 hD
      have nDy : py ≠ D := ne_of_none ey hD
      refine ⟨fun i H' => ∃ (ps : List Addr) (rs : List (List Int)), H' D = some (.lst (ps.map V.ref)) ∧ ps.length = i ∧ rs.length = i ∧ Bag H' a l ∧ Chg a H4 H' ∧
        (∀ (k : Nat) (r : List Int), rs[k]? = some r → ∃ p, ps[k]? = some p ∧ p ≠ D ∧ Rw H' a p r ∧ p ≠ px ∧ p ≠ py ∧ p ≠ l) ∧ ∀ r ∈ rs, r.length = n ∧ Sm 10000000000000000000000000000000000000000 r,
        ⟨[], [], upd_same, rfl, rfl, bag_new B5 hD, Chg.refl.lay hD, (fun k r h => by simp at h), (fun r h => by cases h)⟩, ?_, ?_⟩
      · rintro j H5 hj ⟨ps, rs, e1, lp, lr, B, ch, rows, szs⟩
        walk_at "go"
        refine g_nums B ⟨n1, by omega⟩ fun pz zs H6 lz sz fz nza nzl ez B7 c6 => ?_
        have e2 := c6 _ _ naD e1
        have nzD : pz ≠ D := Ne.symm (ne_of_none e1 fz)
        have zx : pz ≠ px := Ne.symm (ne_of_none (ch _ _ nxa ex4) fz)
        have zy : pz ≠ py := Ne.symm (ne_of_none (ch _ _ nya ey) fz)
        refine g_turnD e2 (by rw [List.length_map]; omega) ⟨ps ++ [pz], rs ++ [zs], by rw [upd_same, List.map_append]; rfl, by simp [lp], by simp [lr], bag_chg B7 naD nlD, (ch.trans c6).putn hD, ?_, ?_⟩
        · intro k r hk
          by_cases c : k < rs.length
          · rw [List.getElem?_append_left c] at hk
            obtain ⟨p, hp, pD, pr, p1, p2⟩ := rows k r hk
            refine ⟨p, by rw [List.getElem?_append_left (by omega)]; exact hp, pD, ⟨pr.1, ?_⟩, p1, p2⟩
            rw [upd_ne pD]
            exact c6 _ _ pr.1 pr.2
          · have ek : k = rs.length := by
              have := (List.getElem?_eq_some_iff.mp hk).1
              rw [List.length_append] at this
              simp only [List.length_cons, List.length_nil] at this
              omega
            subst ek
            rw [List.getElem?_append_right (Nat.le_refl _), Nat.sub_self] at hk
            obtain rfl : zs = r := Option.some.inj hk
            exact ⟨pz, by rw [List.getElem?_append_right (by omega), lr, lp, Nat.sub_self]; rfl, nzD, ⟨nza, by rw [upd_ne nzD]; exact ez⟩, zx, zy, nzl⟩
        · intro r hr
          rcases List.mem_append.mp hr with z | z
          · exact szs r z
          · rw [List.mem_singleton.mp z]; exact ⟨lz, sz⟩
      rintro H5 ⟨ps, rs, e1, lp, lr, B6, c5, rows, szs⟩
      have hg5 : Rows H5 a l px py D rs := ⟨naD, ps, e1, by omega, fun k r hr => by
        obtain ⟨p, h1, _, h2, h3⟩ := rows k r hr
        exact ⟨p, h1, h2, h3⟩⟩
      have hx5 : Rw H5 a px xs := ⟨nxa, c5 _ _ nxa ex4⟩
      have hy5 : Rw H5 a py ys := ⟨nya, c5 _ _ nya ey⟩
      rw [Int.toNat_natCast] at lr lp
      clear rows e1 lp ps ex4 ey ex fy fx c5 c4 c3 c2 B5 B4 B3 B2 hD
      generalize hDg : D = pg at hg5
      subst hDg
      walk_at "go"
      refine g_drawB B6 ⟨by omega, by omega⟩ fun d8 H6 d8a d8b B7 c6 => ?_
      walk_at "go"
      rename_i tl htl
      refine g_of (by walk_at "bag") upd_same (ne_bag B7 htl) ⟨by show 1 ≤ 7; decide, by show 7 ≤ 1000000; decide⟩ fun x8 H8 hx8 B8 c8 => ?_
      have hm8 : ∃ m : Int, x8 = .int m ∧ 1 ≤ m := by
        simp only [List.mem_cons, List.mem_nil_iff, or_false] at hx8
        rcases hx8 with rfl | rfl | rfl | rfl | rfl | rfl | rfl
        · exact ⟨_, rfl, by decide⟩
        · exact ⟨_, rfl, by decide⟩
        · exact ⟨_, rfl, by decide⟩
        · exact ⟨_, rfl, by decide⟩
        · exact ⟨_, rfl, by decide⟩
        · exact ⟨_, rfl, by omega⟩
        · exact ⟨_, rfl, by decide⟩
      obtain ⟨m, rfl, hm⟩ := hm8
      have c58 : Chg a H5 H8 := (c6.lay htl).trans c8
      have hx9 := hx5.chg c58
      have hy9 := hy5.chg c58
      have hg9 := hg5.chg c58
      clear hx8 c6 c8 B7 htl hx5 hy5 hg5 c58 B6 d8a d8b
      have ex := hx9.2
      have ey := hy9.2
      walk_at "go"
      rename_i p1 h1 p2 h2
      have t1 : Tp (upd (upd H8 p1 (.tup (xs.map V.int))) p2 (.tup (ys.map V.int))) a p1 xs := ⟨ne_bag B8 h1, by rw [upd_ne (ne_of_none upd_same h2)]; exact upd_same⟩
      have t2 : Tp (upd (upd H8 p1 (.tup (xs.map V.int))) p2 (.tup (ys.map V.int))) a p2 ys := ⟨ne_bag (bag_new B8 h1) h2, upd_same⟩
      have B9 := bag_new (o := .tup (ys.map V.int)) (bag_new (o := .tup (xs.map V.int)) B8 h1) h2
      have c9 : Chg a H8 (upd (upd H8 p1 (.tup (xs.map V.int))) p2 (.tup (ys.map V.int))) := (Chg.refl.lay h1).lay h2
      have hx10 := hx9.chg c9
      have hy10 := hy9.chg c9
      have hg10 := hg9.chg c9
      clear ex ey hx9 hy9 hg9 c9
      generalize upd (upd H8 p1 (.tup (xs.map V.int))) p2 (.tup (ys.map V.int)) = H9 at t1 t2 B9 hx10 hy10 hg10 ⊢
      clear h1 h2 B8
      obtain ⟨ps, eD, lD, kD⟩ := hg10.2
      refine g_lstR (.of eD) ?_
      refine lcL (xs := ps.map V.ref) (σ0 := [some (V.ref s0), some (V.ref a), some (V.int (0 + ↑i)), some (V.int ↑n), some (V.ref px), some (V.ref py), some (V.ref D), r6, some (V.int m), r8, r9, r10, none, r12, r13, r14]) rfl fun D2 hD2 => ?_
      obtain ⟨naD2, nlD2⟩ := bag_apart B9 hD2
      refine ⟨fun i H' => TupsN HO.tup H' a l D2 rs H9 i, ⟨[], upd_same, rfl, (fun k r h => by omega), bag_new B9 hD2, Chg.refl.lay hD2⟩, ?_, ?_, ?_⟩
      · rintro j H' _ ⟨qs, e, hl, k, B, c⟩
        exact .of (c _ _ naD eD)
      · rintro j v H' hv hN
        have hN2 := hN
        obtain ⟨qs, e, hl, k, B, c⟩ := hN2
        rw [List.getElem?_map, Option.map_eq_some_iff] at hv
        obtain ⟨p, hp, rfl⟩ := hv
        have hj : j < rs.length := by have := (List.getElem?_eq_some_iff.mp hp).1; omega
        have hr : rs[j]? = some rs[j] := List.getElem?_eq_getElem hj
        obtain ⟨p', hp', pr, _⟩ := kD j _ hr
        obtain rfl : p = p' := Option.some.inj (hp.symm.trans hp')
        have ep := (pr.chg c).2
        walk_at "go"
        rename_i t ht
        exact hN.next hD2 naD2 nlD2 hr (by omega) ht
      rintro H10 hN
      rw [List.length_map, lD] at hN
      obtain ⟨qs, eq, lq, kq, B10, c10⟩ := hN
      replace t1 := t1.chg c10
      replace t2 := t2.chg c10
      have hx11 := hx10.chg c10
      have hy11 := hy10.chg c10
      have hg11 := hg10.chg c10
      clear eD lD kD hx10 hy10 hg10 c10 hD2 B9
      have f1 := t1.2
      have f2 := t2.2
      walk_at "go"
      rename_i p3 h3 p4 h4 p5 h5 p6 h6
      have t3 := tups_done lq kq h3 (ne_bag B10 h3)
      have B11 := bag_new (o := .tup (qs.map V.ref)) B10 h3
      have c11 : Chg a H10 (upd H10 p3 (.tup (qs.map V.ref))) := Chg.refl.lay h3
      replace t1 := t1.chg c11
      replace t2 := t2.chg c11
      have hx12 := hx11.chg c11
      have hy12 := hy11.chg c11
      have hg12 := hg11.chg c11
      clear hx11 hy11 hg11 c11 f1 f2 kq lq eq
      generalize upd H10 p3 (.tup (qs.map V.ref)) = H11 at t1 t2 t3 B11 hx12 hy12 hg12 h4 h5 h6 ⊢
      have B12 := bag_new (o := .tup [V.ref p1, V.ref p2, V.ref p3]) B11 h4
      have r5' : Rw (upd (upd (upd H11 p4 (.tup [V.ref p1, V.ref p2, V.ref p3])) p5 (.lst (xs.map V.int))) p6 (.lst (ys.map V.int))) a p5 xs := ⟨ne_bag B12 h5, by rw [upd_ne (ne_of_none upd_same h6)]; exact upd_same⟩
      have r6' : Rw (upd (upd (upd H11 p4 (.tup [V.ref p1, V.ref p2, V.ref p3])) p5 (.lst (xs.map V.int))) p6 (.lst (ys.map V.int))) a p6 ys := ⟨ne_bag (bag_new B12 h5) h6, upd_same⟩
      have B13 := bag_new (o := .lst (ys.map V.int)) (bag_new (o := .lst (xs.map V.int)) B12 h5) h6
      have c13 : Chg a H11 (upd (upd (upd H11 p4 (.tup [V.ref p1, V.ref p2, V.ref p3])) p5 (.lst (xs.map V.int))) p6 (.lst (ys.map V.int))) := ((Chg.refl.lay h4).lay h5).lay h6
      replace t1 := t1.chg c13
      replace t2 := t2.chg c13
      replace t3 := t3.chg c13
      have hx13 := hx12.chg c13
      have hy13 := hy12.chg c13
      have hg13 := hg12.chg c13
      clear hx12 hy12 hg12 c13
      generalize upd (upd (upd H11 p4 (.tup [V.ref p1, V.ref p2, V.ref p3])) p5 (.lst (xs.map V.int))) p6 (.lst (ys.map V.int)) = H13 at t1 t2 t3 B13 hx13 hy13 hg13 r5' r6' ⊢
      clear h4 h5 h6 B12 B11
      obtain ⟨ps, eT, lT, kT⟩ := t3.2
      refine lcT (xs := ps.map V.ref) (σ0 := [some (V.ref s0), some (V.ref a), some (V.int (0 + ↑i)), some (V.int ↑n), some (V.ref px), some (V.ref py), some (V.ref D), r6, some (V.int m), some (V.ref p1), some (V.ref p2), some (V.ref p3), none, r12, r13, r14]) rfl fun D3 hD3 => ?_
      obtain ⟨naD3, nlD3⟩ := bag_apart B13 hD3
      refine ⟨fun i H' => TupsN HO.lst H' a l D3 rs H13 i, ⟨[], upd_same, rfl, (fun k r h => by omega), bag_new B13 hD3, Chg.refl.lay hD3⟩, ?_, ?_, ?_⟩
      · rintro j H' _ ⟨qs, e, hl, k, B, c⟩
        exact .of (c _ _ t3.1 eT)
      · rintro j v H' hv hN
        have hN2 := hN
        obtain ⟨qs, e, hl, k, B, c⟩ := hN2
        rw [List.getElem?_map, Option.map_eq_some_iff] at hv
        obtain ⟨p, hp, rfl⟩ := hv
        have hj : j < rs.length := by have := (List.getElem?_eq_some_iff.mp hp).1; omega
        have hr : rs[j]? = some rs[j] := List.getElem?_eq_getElem hj
        obtain ⟨p', hp', pr⟩ := kT j _ hr
        obtain rfl : p = p' := Option.some.inj (hp.symm.trans hp')
        have ep := (pr.chg c).2
        walk_at "go"
        rename_i t ht
        exact hN.next hD3 naD3 nlD3 hr (by omega) ht
      rintro H14 hN
      rw [List.length_map, lT] at hN
      obtain ⟨qs, eq, lq, kq, B14, c14⟩ := hN
      replace t1 := t1.chg c14
      replace t2 := t2.chg c14
      replace t3 := t3.chg c14
      have hx14 := hx13.chg c14
      have hy14 := hy13.chg c14
      have hg14 := hg13.chg c14
      have r5'' := r5'.chg c14
      have r6'' := r6'.chg c14
      have gl : GridL H14 a D3 rs := ⟨naD3, qs, eq, lq, fun i r hr => by
        obtain ⟨q, h1, _, h2⟩ := kq i r (List.getElem?_eq_some_iff.mp hr).1 hr
        exact ⟨q, h1, h2⟩⟩
      clear eT lT kT hx13 hy13 hg13 r5' r6' c14 hD3 B13 kq lq eq
      have sml : ∀ ws : List Int, Sm 10000000000000000000000000000000000000000 ws → ∀ k ∈ ws, Sml k := fun ws h k hk => ⟨by have := (h k hk).1; omega, by have := (h k hk).2; omega⟩
      have sz : Sz n rs xs := ⟨lr, lx, by omega, sml xs sx, fun r hr => ⟨(szs r hr).1, sml r (szs r hr).2⟩⟩
      walk_at "go"
      refine ⟨a, l, p5, p6, D3, n, m, xs, ys, rs, rfl, B14, r5'', r6'', gl, sz, ⟨ly, sml ys sy⟩, hm, fun H15 B15 c15 => ?_⟩
      replace t1 := t1.chg c15
      replace t2 := t2.chg c15
      replace t3 := t3.chg c15
      have hx15 := hx14.chg c15
      have hy15 := hy14.chg c15
      have hg15 := hg14.chg c15
      clear hx14 hy14 hg14 r5'' r6'' gl c15 B14
      walk_at "go"
      refine ⟨a, l, px, py, D, n, m, xs, ys, rs, rfl, B15, hx15, hy15, hg15.grid, sz, ly, sx, sy, hm, fun H16 B16 c16 => ?_⟩
      replace t1 := t1.chg c16
      replace t2 := t2.chg c16
      replace t3 := t3.chg c16
      have hx16 := hx15.chg c16
      have hy16 := hy15.chg c16
      have hg16 := hg15.chg c16
      clear hx15 hy15 hg15 c16 B15
      walk_at "go"
      refine g_col hg16.grid.grid hx16.sq sz fun k1 H17 f1 s1 e1 => ?_
      have c17 := sm_chg (a := a) s1
      have B17 := bag_sm B16 s1
      have q1 : Tp H17 a k1 (rs.map fun r => dotI r xs) := ⟨ne_bag B16 f1, e1⟩
      walk_at "go"
      refine g_add (hx16.chg c17).sq (hy16.chg c17).sq (by omega) (by omega) fun k2 H18 f2 s2 e2 => ?_
      have c18 := c17.trans (sm_chg (a := a) s2)
      have B18 := bag_sm B17 s2
      replace q1 := q1.chg (sm_chg (a := a) s2)
      have q2 : Tp H18 a k2 (addI xs ys) := ⟨ne_bag B17 f2, e2⟩
      walk_at "go"
      refine g_cutP (hx16.chg c18).sq (by omega) hm fun k3 H19 f3 s3 e3 => ?_
      have c19 := c18.trans (sm_chg (a := a) s3)
      have B19 := bag_sm B18 s3
      replace q1 := q1.chg (sm_chg (a := a) s3)
      replace q2 := q2.chg (sm_chg (a := a) s3)
      have q3 : Tp H19 a k3 (xs.map (cutI m)) := ⟨ne_bag B18 f3, e3⟩
      walk_at "go"
      refine g_up (hx16.chg c19).sq (by omega) fun k4 H20 f4 s4 e4 => ?_
      have c20 := c19.trans (sm_chg (a := a) s4)
      have B20 := bag_sm B19 s4
      replace q1 := q1.chg (sm_chg (a := a) s4)
      replace q2 := q2.chg (sm_chg (a := a) s4)
      replace q3 := q3.chg (sm_chg (a := a) s4)
      have q4 : Tp H20 a k4 (xs.map upI) := ⟨ne_bag B19 f4, e4⟩
      replace t1 := t1.chg c20
      replace t2 := t2.chg c20
      replace t3 := t3.chg c20
      have hx20 := hx16.chg c20
      have hy20 := hy16.chg c20
      have hg20 := hg16.chg c20
      clear hx16 hy16 hg16 c17 c18 c19 c20 B16 B17 B18 B19 s1 s2 s3 s4 e1 e2 e3 e4 f1 f2 f3 f4
      walk_at "go"
      rename_i pk hpk
      have nxk : px ≠ pk := ne_of_none hx20.2 hpk
      have nyk : py ≠ pk := ne_of_none hy20.2 hpk
      have nka : pk ≠ a := ne_bag B20 hpk
      have c21 : Chg a H20 (upd H20 pk (.lst [V.ref k1, V.ref k2, V.ref k3, V.ref k4])) := Chg.refl.lay hpk
      have B21 := bag_new (o := .lst [V.ref k1, V.ref k2, V.ref k3, V.ref k4]) B20 hpk
      have ek : (upd H20 pk (.lst [V.ref k1, V.ref k2, V.ref k3, V.ref k4])) pk = some (.lst [V.ref k1, V.ref k2, V.ref k3, V.ref k4]) := upd_same
      have kr : ∀ (p : Addr) (r : List Int), Rw H20 a p r → p ≠ pk := fun p r h => ne_of_none h.2 hpk
      replace q1 := q1.chg c21
      replace q2 := q2.chg c21
      replace q3 := q3.chg c21
      replace q4 := q4.chg c21
      replace t1 := t1.chg c21
      replace t2 := t2.chg c21
      replace t3 := t3.chg c21
      have hx21 := hx20.chg c21
      have hy21 := hy20.chg c21
      have hg21 : Rows (upd H20 pk (.lst [V.ref k1, V.ref k2, V.ref k3, V.ref k4])) a l px py D rs ∧ ∀ (p : Addr) (ps : List Addr), H20 D = some (.lst (ps.map V.ref)) → ps[0]? = some p → p ≠ pk := ⟨hg20.chg c21, fun p ps e hp => by
        obtain ⟨_, ps', e', l', k'⟩ := hg20
        rw [e] at e'
        have e2 : ps.map V.ref = ps'.map V.ref := by injection e' with e'; injection e'
        obtain ⟨p', hp', pr, _⟩ := k' 0 _ (List.getElem?_eq_getElem (show 0 < rs.length by omega))
        have e3 : (ps.map V.ref)[0]? = (ps'.map V.ref)[0]? := by rw [e2]
        rw [List.getElem?_map, List.getElem?_map, hp, hp'] at e3
        simp only [Option.map_some, Option.some.injEq, V.ref.injEq] at e3
        rw [e3]
        exact kr _ _ pr⟩
      have eD21 : ∀ ps : List Addr, (upd H20 pk (.lst [V.ref k1, V.ref k2, V.ref k3, V.ref k4])) D = some (.lst (ps.map V.ref)) → H20 D = some (.lst (ps.map V.ref)) := fun ps e => by
        obtain ⟨_, ps', e', _⟩ := hg20
        rw [upd_ne (ne_of_none e' hpk)] at e
        exact e
      have hg21' : ∀ (p : Addr) (ps : List Addr), (upd H20 pk (.lst [V.ref k1, V.ref k2, V.ref k3, V.ref k4])) D = some (.lst (ps.map V.ref)) → ps[0]? = some p → p ≠ pk := fun p ps e hp => hg21.2 p ps (eD21 ps e) hp
      replace hg21 := hg21.1
      clear hx20 hy20 hg20 kr eD21 c21
      generalize upd H20 pk (.lst [V.ref k1, V.ref k2, V.ref k3, V.ref k4]) = H21 at q1 q2 q3 q4 t1 t2 t3 hx21 hy21 hg21 hg21' ek B21 ⊢
      clear hpk B20
      have ex := hx21.2
      have ey := hy21.2
      have f1 := t1.2
      have f2 := t2.2
      walk_at "go"
      rename_i pa hpa
      refine g_neT upd_same (h_ne (ne_of_none f1 hpa) f1) ?_
      walk_at "go"
      rename_i pb hpb
      refine g_neT upd_same (h_ne (ne_of_none (h_ne (ne_of_none f2 hpa) f2) hpb) (h_ne (ne_of_none f2 hpa) f2)) ?_
      walk_at "go"
      have c22 : Chg a H21 (upd (upd H21 pa (.tup (xs.map V.int))) pb (.tup (ys.map V.int))) := (Chg.refl.lay hpa).lay hpb
      have B22 := bag_new (o := .tup (ys.map V.int)) (bag_new (o := .tup (xs.map V.int)) B21 hpa) hpb
      replace q1 := q1.chg c22
      replace q2 := q2.chg c22
      replace q3 := q3.chg c22
      replace q4 := q4.chg c22
      replace t1 := t1.chg c22
      replace t2 := t2.chg c22
      replace t3 := t3.chg c22
      have hx22 := hx21.chg c22
      have hy22 := hy21.chg c22
      have hg22 := hg21.chg c22
      have ek22 := c22 _ _ nka ek
      have hk22 : ∀ (p : Addr) (ps : List Addr), (upd (upd H21 pa (.tup (xs.map V.int))) pb (.tup (ys.map V.int))) D = some (.lst (ps.map V.ref)) → ps[0]? = some p → p ≠ pk := fun p ps e hp => by
        obtain ⟨_, ps', e', _⟩ := hg21
        rw [c22 _ _ naD e'] at e
        exact hg21' p ps (by rw [e', e]) hp
      clear hx21 hy21 hg21 hg21' ek ex ey f1 f2
      generalize upd (upd H21 pa (.tup (xs.map V.int))) pb (.tup (ys.map V.int)) = H22 at q1 q2 q3 q4 t1 t2 t3 hx22 hy22 hg22 hk22 ek22 B22 ⊢
      clear hpa hpb c22 B21
      obtain ⟨ps, eD, lD, kD⟩ := hg22.2
      refine g_lstR (.of eD) ?_
      refine lcL (xs := ps.map V.ref) (σ0 := [some (V.ref s0), some (V.ref a), some (V.int (0 + ↑i)), some (V.int ↑n), some (V.ref px), some (V.ref py), some (V.ref D), r6, some (V.int m), some (V.ref p1), some (V.ref p2), some (V.ref p3), none, some (V.ref pk), r13, r14]) rfl fun D4 hD4 => ?_
      obtain ⟨naD4, nlD4⟩ := bag_apart B22 hD4
      refine ⟨fun i H' => TupsN HO.tup H' a l D4 rs H22 i, ⟨[], upd_same, rfl, (fun k r h => by omega), bag_new B22 hD4, Chg.refl.lay hD4⟩, ?_, ?_, ?_⟩
      · rintro j H' _ ⟨qs, e, hl, k, B, c⟩
        exact .of (c _ _ naD eD)
      · rintro j v H' hv hN
        have hN2 := hN
        obtain ⟨qs, e, hl, k, B, c⟩ := hN2
        rw [List.getElem?_map, Option.map_eq_some_iff] at hv
        obtain ⟨p, hp, rfl⟩ := hv
        have hj : j < rs.length := by have := (List.getElem?_eq_some_iff.mp hp).1; omega
        have hr : rs[j]? = some rs[j] := List.getElem?_eq_getElem hj
        obtain ⟨p', hp', pr, _⟩ := kD j _ hr
        obtain rfl : p = p' := Option.some.inj (hp.symm.trans hp')
        have ep := (pr.chg c).2
        walk_at "go"
        rename_i t ht
        exact hN.next hD4 naD4 nlD4 hr (by omega) ht
      rintro H23 hN
      rw [List.length_map, lD] at hN
      obtain ⟨qs, eq, lq, kq, B23, c23⟩ := hN
      replace q1 := q1.chg c23
      replace q2 := q2.chg c23
      replace q3 := q3.chg c23
      replace q4 := q4.chg c23
      replace t1 := t1.chg c23
      replace t2 := t2.chg c23
      replace t3 := t3.chg c23
      have hx23 := hx22.chg c23
      have hy23 := hy22.chg c23
      have eD22 := eD
      replace eD := c23 _ _ naD eD
      have ek23 := c23 _ _ nka ek22
      obtain ⟨p0, hp0, pr0, n0x, n0y, n0l⟩ := kD 0 _ (List.getElem?_eq_getElem (show 0 < rs.length by omega))
      have n0k : p0 ≠ pk := hk22 p0 ps eD22 hp0
      replace pr0 := pr0.chg c23
      have lr0 : (rs[0]'(by omega)).length = n := (szs _ (List.getElem_mem _)).1
      generalize (rs[0]'(by omega)) = r0' at pr0 lr0
      clear eD22 kD hx22 hy22 hg22 hk22 hD4 B22 c23 ek22
      walk_at "go"
      rename_i p7 h7
      have u7 := tups_done lq kq h7 (ne_bag B23 h7)
      have c24 : Chg a H23 (upd H23 p7 (.tup (qs.map V.ref))) := Chg.refl.lay h7
      refine g_neD1 u7.dp (t3.chg c24).dp (shaped_dG rs) (eqv_dG rs) ?_
      have B24 := bag_new (o := .tup (qs.map V.ref)) B23 h7
      replace q1 := q1.chg c24
      replace q2 := q2.chg c24
      replace q3 := q3.chg c24
      replace q4 := q4.chg c24
      replace t1 := t1.chg c24
      replace t2 := t2.chg c24
      replace t3 := t3.chg c24
      have hx24 := hx23.chg c24
      have hy24 := hy23.chg c24
      replace eD := c24 _ _ naD eD
      have ek24 := c24 _ _ nka ek23
      replace pr0 := pr0.chg c24
      clear u7 kq lq eq B23 hx23 hy23 ek23 c24
      generalize upd H23 p7 (.tup (qs.map V.ref)) = H24 at q1 q2 q3 q4 t1 t2 t3 hx24 hy24 eD ek24 pr0 B24 ⊢
      have ex := hx24.2
      have ey := hy24.2
      have er := pr0.2
      have a1 := at_0 (ns := xs) (by omega)
      have a2 := at_last (ns := ys) ly n1
      have a3 := at_r0 hp0
      have a4 := at_0 (ns := r0') (by omega)
      walk_at "go"
      rename_i p8 h8
      have c25 : Chg a H24 (upd H24 p8 (.tup [V.int (xs.getD 0 0 + 1), V.int (ys.getD (n - 1) 0 - 1), V.int (r0'.getD 0 0 + 3)])) := Chg.refl.lay h8
      replace q1 := q1.chg c25
      replace q2 := q2.chg c25
      replace q3 := q3.chg c25
      replace q4 := q4.chg c25
      replace t1 := t1.chg c25
      replace t2 := t2.chg c25
      replace t3 := t3.chg c25
      replace ex := c25 _ _ nxa ex
      replace ey := c25 _ _ nya ey
      replace er := c25 _ _ pr0.1 er
      replace eD := c25 _ _ naD eD
      replace ek24 := c25 _ _ nka ek24
      have B25 := bag_new (o := .tup [V.int (xs.getD 0 0 + 1), V.int (ys.getD (n - 1) 0 - 1), V.int (r0'.getD 0 0 + 3)]) B24 h8
      clear hx24 hy24 B24 c25
      generalize upd H24 p8 (.tup [V.int (xs.getD 0 0 + 1), V.int (ys.getD (n - 1) 0 - 1), V.int (r0'.getD 0 0 + 3)]) = H25 at q1 q2 q3 q4 t1 t2 t3 ex ey er eD ek24 B25 ⊢
      refine g_setL ex (ixN_pos (by omega) (by rw [List.length_map]; omega)) ?_
      replace q1 := q1.set (o := .lst ((xs.map V.int).set (0 : Int).toNat (V.int (xs.getD 0 0 + 1)))) ex
      replace q2 := q2.set (o := .lst ((xs.map V.int).set (0 : Int).toNat (V.int (xs.getD 0 0 + 1)))) ex
      replace q3 := q3.set (o := .lst ((xs.map V.int).set (0 : Int).toNat (V.int (xs.getD 0 0 + 1)))) ex
      replace q4 := q4.set (o := .lst ((xs.map V.int).set (0 : Int).toNat (V.int (xs.getD 0 0 + 1)))) ex
      replace t1 := t1.set (o := .lst ((xs.map V.int).set (0 : Int).toNat (V.int (xs.getD 0 0 + 1)))) ex
      replace t2 := t2.set (o := .lst ((xs.map V.int).set (0 : Int).toNat (V.int (xs.getD 0 0 + 1)))) ex
      replace t3 := t3.set (o := .lst ((xs.map V.int).set (0 : Int).toNat (V.int (xs.getD 0 0 + 1)))) ex
      replace B25 := bag_chg (o := .lst ((xs.map V.int).set (0 : Int).toNat (V.int (xs.getD 0 0 + 1)))) B25 nxa nxl
      replace ey := h_ne (o := .lst ((xs.map V.int).set (0 : Int).toNat (V.int (xs.getD 0 0 + 1)))) (Ne.symm nxy) ey
      replace er := h_ne (o := .lst ((xs.map V.int).set (0 : Int).toNat (V.int (xs.getD 0 0 + 1)))) n0x er
      replace eD := h_ne (o := .lst ((xs.map V.int).set (0 : Int).toNat (V.int (xs.getD 0 0 + 1)))) (Ne.symm nDx) eD
      replace ek24 := h_ne (o := .lst ((xs.map V.int).set (0 : Int).toNat (V.int (xs.getD 0 0 + 1)))) (Ne.symm nxk) ek24
      clear ex
      generalize upd H25 px (.lst ((xs.map V.int).set (0 : Int).toNat (V.int (xs.getD 0 0 + 1)))) = H26 at q1 q2 q3 q4 t1 t2 t3 ey er eD ek24 B25 ⊢
      walk_at "go"
      refine g_setL ey (ixN_pos (by omega) (by rw [List.length_map]; omega)) ?_
      generalize ho : (HO.lst ((ys.map V.int).set ((n : Int) - 1).toNat (V.int (ys.getD (n - 1) 0 - 1)))) = o2
      replace q1 := q1.set (o := o2) ey
      replace q2 := q2.set (o := o2) ey
      replace q3 := q3.set (o := o2) ey
      replace q4 := q4.set (o := o2) ey
      replace t1 := t1.set (o := o2) ey
      replace t2 := t2.set (o := o2) ey
      replace t3 := t3.set (o := o2) ey
      have B27 : Bag (upd H26 py o2) a l := by rw [← ho]; exact bag_chg B25 nya nyl
      replace er := h_ne (o := o2) n0y er
      replace eD := h_ne (o := o2) (Ne.symm nDy) eD
      replace ek24 := h_ne (o := o2) (Ne.symm nyk) ek24
      clear ho ey B25
      generalize upd H26 py o2 = H27 at q1 q2 q3 q4 t1 t2 t3 er eD ek24 B27 ⊢
      walk_at "go"
      refine g_setL er (ixN_pos (by omega) (by rw [List.length_map]; omega)) ?_
      generalize ho : (HO.lst ((r0'.map V.int).set (0 : Int).toNat (V.int (r0'.getD 0 0 + 3)))) = o3
      replace q1 := q1.set (o := o3) er
      replace q2 := q2.set (o := o3) er
      replace q3 := q3.set (o := o3) er
      replace q4 := q4.set (o := o3) er
      replace t1 := t1.set (o := o3) er
      replace t2 := t2.set (o := o3) er
      replace t3 := t3.set (o := o3) er
      have B28 : Bag (upd H27 p0 o3) a l := by rw [← ho]; exact bag_chg B27 pr0.1 n0l
      replace ek24 := h_ne (o := o3) (Ne.symm n0k) ek24
      clear ho er eD B27
      generalize upd H27 p0 o3 = H28 at q1 q2 q3 q4 t1 t2 t3 ek24 B28 ⊢
      walk_at "go"
      refine g_col t3.grid (.inr (.of t1.2)) sz fun j1 H29 f1 s1 e1 => ?_
      replace B28 := bag_sm B28 s1
      replace q1 := q1.chg (sm_chg s1)
      replace q2 := q2.chg (sm_chg s1)
      replace q3 := q3.chg (sm_chg s1)
      replace q4 := q4.chg (sm_chg s1)
      replace t1 := t1.chg (sm_chg s1)
      replace t2 := t2.chg (sm_chg s1)
      replace ek24 := s1 _ _ ek24
      clear f1 s1 t3
      have g1 := t1.2
      have g2 := t2.2
      walk_at "go"
      rw [Int.toNat_natCast]
      refine lcPR (n := n) (f := fun k => .int (xs.getD k 0 + ys.getD k 0)) (p := fun _ => true) (σ0 := [some (V.ref s0), some (V.ref a), some (V.int (0 + ↑i)), some (V.int ↑n), some (V.ref px), some (V.ref py), some (V.ref D), none, some (V.int m), some (V.ref p1), some (V.ref p2), some (V.ref p3), r11, some (V.ref pk), r13, r14]) rfl (by omega) ?_ ?_
      · intro D5 acc k N hD5 hk hy1 _
        have b1 := at_getD (ns := xs) (k := k) (by omega)
        have b2 := at_getD (ns := ys) (k := k) (by omega)
        walk_at "go"
        exact hy1 rfl
      intro D5 hD5
      rw [range_add lx ly]
      walk_at "go"
      rename_i p9 h9
      have c30 : Chg a H29 (upd (upd H29 D5 (.lst ((addI xs ys).map V.int))) p9 (.tup ((addI xs ys).map V.int))) := (Chg.refl.lay hD5).lay h9
      have j2 : Tp (upd (upd H29 D5 (.lst ((addI xs ys).map V.int))) p9 (.tup ((addI xs ys).map V.int))) a p9 (addI xs ys) := ⟨ne_bag (bag_new (o := .lst ((addI xs ys).map V.int)) B28 hD5) h9, upd_same⟩
      have B30 := bag_new (o := .tup ((addI xs ys).map V.int)) (bag_new (o := .lst ((addI xs ys).map V.int)) B28 hD5) h9
      have nja : j1 ≠ a := fun z => by
        obtain ⟨_, _, _, _, _, hb, _⟩ := B28
        rw [z, hb] at e1
        cases e1
      have j1' : Tp H29 a j1 (rs.map fun r => dotI r xs) := ⟨nja, e1⟩
      replace j1' := j1'.chg c30
      replace q1 := q1.chg c30
      replace q2 := q2.chg c30
      replace q3 := q3.chg c30
      replace q4 := q4.chg c30
      replace t1 := t1.chg c30
      replace ek24 := c30 _ _ nka ek24
      clear e1 g1 g2 t2 B28 c30
      generalize upd (upd H29 D5 (.lst ((addI xs ys).map V.int))) p9 (.tup ((addI xs ys).map V.int)) = H30 at q1 q2 q3 q4 t1 j1' j2 ek24 B30 ⊢
      clear hD5 h9
      refine g_cutR (.inr (.of t1.2)) (by omega) fun j3 H31 f3 s3 e3 => ?_
      have j3' : Tp H31 a j3 (xs.map (cutI m)) := ⟨ne_bag B30 f3, e3⟩
      replace j1' := j1'.chg (sm_chg s3)
      replace j2 := j2.chg (sm_chg s3)
      replace q1 := q1.chg (sm_chg s3)
      replace q2 := q2.chg (sm_chg s3)
      replace q3 := q3.chg (sm_chg s3)
      replace q4 := q4.chg (sm_chg s3)
      replace t1 := t1.chg (sm_chg s3)
      replace ek24 := s3 _ _ ek24
      replace B30 := bag_sm B30 s3
      clear s3 e3 f3
      walk_at "go"
      rename_i pd hpd
      have c32 : Chg a H31 (upd H31 pd (.lst [V.ref j1, V.ref p9, V.ref j3])) := Chg.refl.lay hpd
      have ed : (upd H31 pd (.lst [V.ref j1, V.ref p9, V.ref j3])) pd = some (.lst [V.ref j1, V.ref p9, V.ref j3]) := upd_same
      have nda : pd ≠ a := ne_bag B30 hpd
      replace j1' := j1'.chg c32
      replace j2 := j2.chg c32
      replace j3' := j3'.chg c32
      replace q1 := q1.chg c32
      replace q2 := q2.chg c32
      replace q3 := q3.chg c32
      replace q4 := q4.chg c32
      replace t1 := t1.chg c32
      replace ek24 := c32 _ _ nka ek24
      replace B30 := bag_new (o := .lst [V.ref j1, V.ref p9, V.ref j3]) B30 hpd
      clear c32
      generalize upd H31 pd (.lst [V.ref j1, V.ref p9, V.ref j3]) = H32 at q1 q2 q3 q4 t1 j1' j2 j3' ek24 ed B30 ⊢
      clear hpd
      have f1 := t1.2
      walk_at "go"
      refine lcPT (S := xs) (f := fun i => .int (upI i)) (p := fun _ => true) (σ0 := [some (V.ref s0), some (V.ref a), some (V.int (0 + ↑i)), some (V.int ↑n), some (V.ref px), some (V.ref py), some (V.ref D), r6, some (V.int m), some (V.ref p1), some (V.ref p2), some (V.ref p3), r11, some (V.ref pk), some (V.ref pd), none]) rfl (.of f1) (by omega) ?_ ?_
      · intro D6 acc k N hD6 hk hy1 _
        have hy2 := hy1 rfl
        walk_at "go"
        refine g_iteD (fun h1 => ?_) (fun h1 => ?_)
        · walk_at "go"
          rw [show upI k = k from if_pos h1] at hy2
          exact hy2
        · walk_at "go"
          rw [show upI k = 0 from if_neg h1] at hy2
          exact hy2
      intro D6 hD6
      rw [filter_yes xs upI]
      clear f1
      walk_at "go"
      rename_i p10 h10 p11 h11 p12 h12
      have c33 : Chg a H32 (upd (upd (upd H32 D6 (.lst ((xs.map upI).map V.int))) p10 (.tup ((xs.map upI).map V.int))) p11 (.lst [V.ref p10])) := ((Chg.refl.lay hD6).lay h10).lay h11
      have j4 : Tp (upd (upd (upd H32 D6 (.lst ((xs.map upI).map V.int))) p10 (.tup ((xs.map upI).map V.int))) p11 (.lst [V.ref p10])) a p10 (xs.map upI) := ⟨ne_bag (bag_new (o := .lst ((xs.map upI).map V.int)) B30 hD6) h10, by rw [upd_ne (ne_of_none upd_same h11)]; exact upd_same⟩
      have c34 := c33.lay (o := .lst ([V.ref j1, V.ref p9, V.ref j3] ++ [V.ref p10])) h12
      replace j4 := j4.chg ((Chg.refl (a := a)).lay (o := .lst ([V.ref j1, V.ref p9, V.ref j3] ++ [V.ref p10])) h12)
      have B34 := bag_new (o := .lst ([V.ref j1, V.ref p9, V.ref j3] ++ [V.ref p10])) (bag_new (o := .lst [V.ref p10]) (bag_new (o := .tup ((xs.map upI).map V.int)) (bag_new (o := .lst ((xs.map upI).map V.int)) B30 hD6) h10) h11) h12
      replace j1' := j1'.chg c34
      replace j2 := j2.chg c34
      replace j3' := j3'.chg c34
      replace q1 := q1.chg c34
      replace q2 := q2.chg c34
      replace q3 := q3.chg c34
      replace q4 := q4.chg c34
      replace ek24 := c34 _ _ nka ek24
      have ef : (upd (upd (upd (upd H32 D6 (.lst ((xs.map upI).map V.int))) p10 (.tup ((xs.map upI).map V.int))) p11 (.lst [V.ref p10])) p12 (.lst ([V.ref j1, V.ref p9, V.ref j3] ++ [V.ref p10]))) p12 = some (.lst ([V.ref j1, V.ref p9, V.ref j3] ++ [V.ref p10])) := upd_same
      clear c33 c34 B30 ed t1
      generalize upd (upd (upd (upd H32 D6 (.lst ((xs.map upI).map V.int))) p10 (.tup ((xs.map upI).map V.int))) p11 (.lst [V.ref p10])) p12 (.lst ([V.ref j1, V.ref p9, V.ref j3] ++ [V.ref p10])) = H34 at q1 q2 q3 q4 j1' j2 j3' j4 ek24 ef B34 ⊢
      clear hD6 h10 h11 h12
      have d1 : Dp K H34 (.ref pk) (.list [dT (rs.map fun r => dotI r xs), dT (addI xs ys), dT (xs.map (cutI m)), dT (xs.map upI)]) :=
        .lst (.of ek24) (.cons (dp_tupI q1.2) (.cons (dp_tupI q2.2) (.cons (dp_tupI q3.2) (.cons (dp_tupI q4.2) .nil))))
      have d2 : Dp K H34 (.ref p12) (.list [dT (rs.map fun r => dotI r xs), dT (addI xs ys), dT (xs.map (cutI m)), dT (xs.map upI)]) :=
        .lst (.of ef) (.cons (dp_tupI j1'.2) (.cons (dp_tupI j2.2) (.cons (dp_tupI j3'.2) (.cons (dp_tupI j4.2) .nil))))
      have sd : smallD (PyData.list [dT (rs.map fun r => dotI r xs), dT (addI xs ys), dT (xs.map (cutI m)), dT (xs.map upI)]) = true := by
        have l1 := addI_len lx ly
        show (decide (4 ≤ 1000) && (smallD (dT (rs.map fun r => dotI r xs)) && (smallD (dT (addI xs ys)) && (smallD (dT (xs.map (cutI m))) && (smallD (dT (xs.map upI)) && true))))) = true
        rw [small_dT (by rw [List.length_map]; omega), small_dT (by omega), small_dT (by rw [List.length_map]; omega), small_dT (by rw [List.length_map]; omega)]
        rfl
      have dd : PyData.depth (PyData.list [dT (rs.map fun r => dotI r xs), dT (addI xs ys), dT (xs.map (cutI m)), dT (xs.map upI)]) ≤ 2 := by
        show max (PyData.depth (dT (rs.map fun r => dotI r xs))) (max (PyData.depth (dT (addI xs ys))) (max (PyData.depth (dT (xs.map (cutI m)))) (max (PyData.depth (dT (xs.map upI))) 0))) + 1 ≤ 2
        rw [depth_dT, depth_dT, depth_dT, depth_dT]
        decide
      refine g_likeD d1 d2 dd sd fun H35 s35 => ?_
      have B35 := bag_sm B34 s35
      walk_at "go"
      exact ⟨_, rfl, rfl, B35⟩
    · rintro σ' H' ⟨rest, hrest, rfl, B2⟩
      walk_at "go"
      exact q _
end

set_option Elab.async false
set_option linter.all false
set_option maxRecDepth 100000
set_option maxHeartbeats 4000000
open PySem PySem.Spec L2

def d_times : He.DefD := ⟨("times", none), "times", "times", defArgs s_times, defBody s_times, defScope s_times, [], []⟩
def d_added : He.DefD := ⟨("added", none), "added", "added", defArgs s_added, defBody s_added, defScope s_added, [], []⟩
def d_cut : He.DefD := ⟨("cut", none), "cut", "cut", defArgs s_cut, defBody s_cut, defScope s_cut, [], []⟩
def d_dot : He.DefD := ⟨("dot", none), "dot", "dot", defArgs s_dot, defBody s_dot, defScope s_dot, [], []⟩
def d_raised : He.DefD := ⟨("raised", none), "raised", "raised", defArgs s_raised, defBody s_raised, defScope s_raised, [], []⟩
def d__law_bag : He.DefD := ⟨("_law_bag", none), "_law_bag", "_law_bag", defArgs s__law_bag, defBody s__law_bag, defScope s__law_bag, [], []⟩
def d__law_draw : He.DefD := ⟨("_law_draw", none), "_law_draw", "_law_draw", defArgs s__law_draw, defBody s__law_draw, defScope s__law_draw, [], []⟩
def d__law_of : He.DefD := ⟨("_law_of", none), "_law_of", "_law_of", defArgs s__law_of, defBody s__law_of, defScope s__law_of, [], []⟩
def d__law_like : He.DefD := ⟨("_law_like", none), "_law_like", "_law_like", defArgs s__law_like, defBody s__law_like, defScope s__law_like, [], []⟩
def d__law_row : He.DefD := ⟨("_law_row", none), "_law_row", "_law_row", defArgs s__law_row, defBody s__law_row, defScope s__law_row, [], []⟩
def d__law_numbers : He.DefD := ⟨("_law_numbers", none), "_law_numbers", "_law_numbers", defArgs s__law_numbers, defBody s__law_numbers, defScope s__law_numbers, [], []⟩
def d__law_passed : He.DefD := ⟨("_law_passed", none), "_law_passed", "_law_passed", defArgs s__law_passed, defBody s__law_passed, defScope s__law_passed, [], []⟩
def d__law_by_columns : He.DefD := ⟨("_law_by_columns", none), "_law_by_columns", "_law_by_columns", defArgs s__law_by_columns, defBody s__law_by_columns, defScope s__law_by_columns, [], []⟩
def d__law_cut : He.DefD := ⟨("_law_cut", none), "_law_cut", "_law_cut", defArgs s__law_cut, defBody s__law_cut, defScope s__law_cut, [], []⟩
def d__law_sums_so : He.DefD := ⟨("_law_sums_so", none), "_law_sums_so", "_law_sums_so", defArgs s__law_sums_so, defBody s__law_sums_so, defScope s__law_sums_so, [], []⟩
def d__law_rules_so : He.DefD := ⟨("_law_rules_so", none), "_law_rules_so", "_law_rules_so", defArgs s__law_rules_so, defBody s__law_rules_so, defScope s__law_rules_so, [], []⟩
def d_law : He.DefD := ⟨("law", none), "law", "law", defArgs s_law, defBody s_law, defScope s_law, [], []⟩
def fnL : List He.DefD := [d_times, d_added, d_cut, d_dot, d_raised, d__law_bag, d__law_draw, d__law_of, d__law_like, d__law_row, d__law_numbers, d__law_passed, d__law_by_columns, d__law_cut, d__law_sums_so, d__law_rules_so, d_law]
def faL : List He.Fa := [.glo "times", .glo "added", .glo "cut", .glo "dot", .glo "raised", .glo "_law_bag", .glo "_law_draw", .glo "_law_of", .glo "_law_like", .glo "_law_row", .glo "_law_numbers", .glo "_law_passed", .glo "_law_by_columns", .glo "_law_cut", .glo "_law_sums_so", .glo "_law_rules_so", .glo "law", .free "tuple", .free "zip", .free "max", .free "min", .free "sum", .free "list", .free "int", .free "len", .free "isinstance", .free "all", .free "bool", .free "str", .free "range"]
abbrev rowR : PySem.W.OpenRow := PySem.W.OpenLaw.row PySem.Challenge.rw_answersalone_k01_tables_by_hand
abbrev hkR : PySem.W.Hook := He.hookD 4 faL fnL
def obR (s : PySem.W.SharedT) : He.AlD := He.obsDG 4 faL fnL (HandSHeadRun.getT s)
theorem obR_eq (s : PySem.W.SharedT) : obR s = hkR.obs s.abs := He.obsDG_eq (HandSHeadRun.getT_eq s)
abbrev looseR : List PySem.Str := ["times", "added", "cut", "dot", "raised", "_law_bag", "_law_draw", "_law_of", "_law_like", "_law_row", "_law_numbers", "_law_passed", "_law_by_columns", "_law_cut", "_law_sums_so", "_law_rules_so"]
theorem runR (w : World) : HandSHeadRun.RunEq rowR (PySem.W.view rowR.prog [18]) hkR obR 4000 looseR w := by
  intro os
  kernel_rfl
theorem factsR {P : Program} {w : World} {K : PySem.W.Frag} {h : Heap} {mg : Str → Option Value} {f : Addr} (X : K.In h) (G : h.Ns mainGlobals mg) (hfa : mg ("law" : Str) = some (.ref f)) (c : He.SaysD faL fnL K) :
    ∃ fd : FuncData, (∀ (s : Shared) (v : Value), BindsTo s fd ⟨[v], []⟩ [("script", v)]) ∧ ∀ base : Heap, K.In base → base.Ns mainGlobals mg → FnOk P w K mg base CX0 12 f fd ["script"] (spLaw K) := by
  obtain ⟨fd_times, F_times⟩ := c.def_ 0 (d := d_times) rfl
  obtain ⟨fd_added, F_added⟩ := c.def_ 1 (d := d_added) rfl
  obtain ⟨fd_cut, F_cut⟩ := c.def_ 2 (d := d_cut) rfl
  obtain ⟨fd_dot, F_dot⟩ := c.def_ 3 (d := d_dot) rfl
  obtain ⟨fd_raised, F_raised⟩ := c.def_ 4 (d := d_raised) rfl
  obtain ⟨fd__law_bag, F__law_bag⟩ := c.def_ 5 (d := d__law_bag) rfl
  obtain ⟨fd__law_draw, F__law_draw⟩ := c.def_ 6 (d := d__law_draw) rfl
  obtain ⟨fd__law_of, F__law_of⟩ := c.def_ 7 (d := d__law_of) rfl
  obtain ⟨fd__law_like, F__law_like⟩ := c.def_ 8 (d := d__law_like) rfl
  obtain ⟨fd__law_row, F__law_row⟩ := c.def_ 9 (d := d__law_row) rfl
  obtain ⟨fd__law_numbers, F__law_numbers⟩ := c.def_ 10 (d := d__law_numbers) rfl
  obtain ⟨fd__law_passed, F__law_passed⟩ := c.def_ 11 (d := d__law_passed) rfl
  obtain ⟨fd__law_by_columns, F__law_by_columns⟩ := c.def_ 12 (d := d__law_by_columns) rfl
  obtain ⟨fd__law_cut, F__law_cut⟩ := c.def_ 13 (d := d__law_cut) rfl
  obtain ⟨fd__law_sums_so, F__law_sums_so⟩ := c.def_ 14 (d := d__law_sums_so) rfl
  obtain ⟨fd__law_rules_so, F__law_rules_so⟩ := c.def_ 15 (d := d__law_rules_so) rfl
  obtain ⟨fd_law, F_law⟩ := c.def_ 16 (d := d_law) rfl
  have T : Top K mg := ⟨⟨_, _, F_times, He.glo_ok X G (c.fact 0 (f := .glo "times") rfl)⟩, ⟨_, _, F_added, He.glo_ok X G (c.fact 1 (f := .glo "added") rfl)⟩, ⟨_, _, F_cut, He.glo_ok X G (c.fact 2 (f := .glo "cut") rfl)⟩, ⟨_, _, F_dot, He.glo_ok X G (c.fact 3 (f := .glo "dot") rfl)⟩, ⟨_, _, F_raised, He.glo_ok X G (c.fact 4 (f := .glo "raised") rfl)⟩, ⟨_, _, F__law_bag, He.glo_ok X G (c.fact 5 (f := .glo "_law_bag") rfl)⟩, ⟨_, _, F__law_draw, He.glo_ok X G (c.fact 6 (f := .glo "_law_draw") rfl)⟩, ⟨_, _, F__law_of, He.glo_ok X G (c.fact 7 (f := .glo "_law_of") rfl)⟩, ⟨_, _, F__law_like, He.glo_ok X G (c.fact 8 (f := .glo "_law_like") rfl)⟩, ⟨_, _, F__law_row, He.glo_ok X G (c.fact 9 (f := .glo "_law_row") rfl)⟩, ⟨_, _, F__law_numbers, He.glo_ok X G (c.fact 10 (f := .glo "_law_numbers") rfl)⟩, ⟨_, _, F__law_passed, He.glo_ok X G (c.fact 11 (f := .glo "_law_passed") rfl)⟩, ⟨_, _, F__law_by_columns, He.glo_ok X G (c.fact 12 (f := .glo "_law_by_columns") rfl)⟩, ⟨_, _, F__law_cut, He.glo_ok X G (c.fact 13 (f := .glo "_law_cut") rfl)⟩, ⟨_, _, F__law_sums_so, He.glo_ok X G (c.fact 14 (f := .glo "_law_sums_so") rfl)⟩, ⟨_, _, F__law_rules_so, He.glo_ok X G (c.fact 15 (f := .glo "_law_rules_so") rfl)⟩, ⟨_, _, F_law, He.glo_ok X G (c.fact 16 (f := .glo "law") rfl)⟩, He.free_ok X G (c.fact 17 (f := .free "tuple") rfl), He.free_ok X G (c.fact 18 (f := .free "zip") rfl), He.free_ok X G (c.fact 19 (f := .free "max") rfl), He.free_ok X G (c.fact 20 (f := .free "min") rfl), He.free_ok X G (c.fact 21 (f := .free "sum") rfl), He.free_ok X G (c.fact 22 (f := .free "list") rfl), He.free_ok X G (c.fact 23 (f := .free "int") rfl), He.free_ok X G (c.fact 24 (f := .free "len") rfl), He.free_ok X G (c.fact 25 (f := .free "isinstance") rfl), He.free_ok X G (c.fact 26 (f := .free "all") rfl), He.free_ok X G (c.fact 27 (f := .free "bool") rfl), He.free_ok X G (c.fact 28 (f := .free "str") rfl), He.free_ok X G (c.fact 29 (f := .free "range") rfl)⟩
  have e := hfa.symm.trans (He.glo_ok X G (c.fact 16 (f := .glo "law") rfl))
  cases e
  have b := FunD.bindsA (ps := ["script"]) F_law fun _ _ _ _ _ _ us hl => match us, hl with | [_], _ => rfl
  exact ⟨fd_law, fun s v => b s [v] rfl, fun base _ _ => ok_law T F_law⟩
end Q
open PySem PySem.W PySem.Calls PyProof.Rows
set_option maxRecDepth 100000 in
set_option maxHeartbeats 0 in
theorem PySem.Challenge.cw_answersalone_k01_tables_by_hand_holds : PySem.Challenge.rw_answersalone_k01_tables_by_hand.Holds := by
  w_on; o_law
  refine HandSHeadRun.head_any (r := OpenLaw.row PySem.Challenge.rw_answersalone_k01_tables_by_hand) (q := view (OpenLaw.row PySem.Challenge.rw_answersalone_k01_tables_by_hand).prog [18]) (H := Q.hkR) (ob := Q.obR) (M := 4000) (loose := Q.looseR)
    (d := HandSHeadRun.topDef (OpenLaw.row PySem.Challenge.rw_answersalone_k01_tables_by_hand).prog 18) (kwd := []) Q.obR_eq
    (by kernel_rfl) (fun s => by kernel_rfl) Q.runR (by kernel_rfl) (by kernel_rfl) (by kernel_rfl) (by rfl) (by first | assumption | decide +kernel) (by decide +kernel) ⟨rfl, rfl, rfl, rfl, rfl, by decide +kernel⟩ ?hw ?hc
  case hw => w_witness2
  case hc =>
    refine L2.walk_ofE (l := PySem.Challenge.rw_answersalone_k01_tables_by_hand) (n := 63) (k := 12) (x := "script") (CX := L2.CX0) rfl (by decide) (by kernel_rfl) ⟨rfl, by decide, by decide⟩ ?F (fun _ _ _ _ z => z)
    intro w mg fa h Y G hmg0
    obtain ⟨K, KX, c⟩ := Y
    have hmg : mg ("law" : PySem.Str) = some (.ref fa) := by
      have e : (HandSHeadRun.topDef (OpenLaw.row PySem.Challenge.rw_answersalone_k01_tables_by_hand).prog 18).name = ("law" : PySem.Str) := by kernel_rfl
      rw [← e]
      exact hmg0
    obtain ⟨fd, hb, hF⟩ := Q.factsR (P := (PySem.Challenge.rw_answersalone_k01_tables_by_hand).prog) (w := w) KX G hmg c
    exact ⟨K, fd, Q.spLaw K, KX, hb, fun H a ns hl _ hS => ⟨a, ns, rfl, hS, hl, fun _ => rfl⟩, hF⟩
