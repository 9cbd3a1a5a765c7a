import PyProof.Rows.All
import Wide.All
import OpenK.AllK
import Wide.FinOn
import HandS.Wide
import HandS.ForMost
import HandS.Defaults
import HandS.MakeKwOnly
import HandS.IsInst
import HandS.Conv
import HandS.Style
import HandS.Flow
import HandS.Codes
import HandS.Head0
import HandS.Head1
import HandS.Head2
import HandS.HeadEnd
import HandS.HeadHook1
import HandS.HeadHook2
import KE.GoesMore
import HandS.Zip
import PySem.Challenge.RW_answersalone_k08_whole_choosing
set_option Elab.async false
set_option linter.all false
set_option maxRecDepth 100000
namespace Q
open PySem PySem.Spec L2

/-- what a caller needs of a def that has no defaults -/
structure Cal (P : Program) (w : World) (K : PySem.W.Frag) (mg : Str → Option Value) (base : Heap)
    (x : Str) (k : Nat) (ps : List Str) (sp : Sp) : Prop where
  ex : ∃ (f : Addr) (fd : FuncData), FnOk P w K mg base CX0 k f fd ps sp ∧
    mg x = some (.ref f) ∧ PySem.W.keepIn K (.ref f) = true ∧ Binds K fd ps []

section
variable {X : Cx} {x : Str} {k : Nat} {ps : List Str} {sp : Sp} {e : Expr} {es : List Expr} {t : TA} {p pos : Pos}
theorem pe_cal (C : Cal X.prog X.w X.K X.mg X.base x k ps sp) (hr : Room k X.A) (hg : Gl X x) (ha : PA X (e :: es) t)
    (hd : (x == ("__debug__" : Str)) = false := by decide)
    (he : starEach (e :: es) X.env = (false, eval e X.env) :: starEach es X.env := by rfl)
    (hl : (backTo pos (starEach es X.env)).any (·.1) = false := by rfl) :
    PE X (.Call (.Name x p) (e :: es) [] pos) (tCall sp [] E0 t) := by
  obtain ⟨f, fd, F, hm, hk, hb⟩ := C.ex
  exact pe_call F hr hg hm hk hb .nil pass0 ha hd he hl
end

theorem cal_mk {P : Program} {w : World} {K : PySem.W.Frag} {mg : Str → Option Value} {base : Heap} {x q : Str} {pa : Arguments} {bd : List Stmt} {sc : Scope} {dv : List V} {kw : List (Str × V)} {k : Nat} {ps : List Str} {sp : Sp}
    (h : ∃ (f : Addr) (fd : FuncData), FunD K x q pa bd sc dv kw f fd ∧ mg x = some (.ref f))
    (ok : ∀ {f : Addr} {fd : FuncData}, FunD K x q pa bd sc dv kw f fd → FnOk P w K mg base CX0 k f fd ps sp)
    (b : ∀ {f : Addr} {fd : FuncData}, FunD K x q pa bd sc dv kw f fd → Binds K fd ps []) : Cal P w K mg base x k ps sp := by
  obtain ⟨f, fd, F, m⟩ := h
  exact ⟨f, fd, ok F, m, F.kp, b F⟩
theorem cal_mono {P : Program} {w : World} {K : PySem.W.Frag} {mg : Str → Option Value} {base : Heap} {x : Str} {j k : Nat} {ps : List Str} {sp : Sp} (C : Cal P w K mg base x j ps sp) (h : j ≤ k) : Cal P w K mg base x k ps sp := by
  obtain ⟨f, fd, F, m, kp, b⟩ := C.ex
  exact ⟨f, fd, F.mono h, m, kp, b⟩
/-- what a caller with keywords needs of a def: n values by position, the keywords ks; gV puts them (and the defaults) in the parameters' order -/
structure KCal (P : Program) (w : World) (K : PySem.W.Frag) (mg : Str → Option Value) (base : Heap) (x : Str) (k n : Nat) (ks : List Str) (gV : List V → List V → List V) (sp : Sp) : Prop where
  ex : ∃ (f : Addr) (fd : FuncData) (ps : List Str) (g : List Value → List Value → List Value), FnOk P w K mg base CX0 k f fd ps sp ∧ mg x = some (.ref f) ∧ PySem.W.keepIn K (.ref f) = true ∧ KBn K fd ps n ks g gV
theorem kcal_mk {P : Program} {w : World} {K : PySem.W.Frag} {mg : Str → Option Value} {base : Heap} {x q : Str} {pa : Arguments} {bd : List Stmt} {sc : Scope} {dv : List V} {kw : List (Str × V)} {k n : Nat} {ks ps : List Str} {sp : Sp} {gV : List V → List V → List V}
    (h : ∃ (f : Addr) (fd : FuncData), FunD K x q pa bd sc dv kw f fd ∧ mg x = some (.ref f))
    (ok : ∀ {f : Addr} {fd : FuncData}, FunD K x q pa bd sc dv kw f fd → FnOk P w K mg base CX0 k f fd ps sp)
    (b : ∀ {f : Addr} {fd : FuncData}, FunD K x q pa bd sc dv kw f fd → ∃ g, KBn K fd ps n ks g gV) : KCal P w K mg base x k n ks gV sp := by
  obtain ⟨f, fd, F, m⟩ := h
  obtain ⟨g, kb⟩ := b F
  exact ⟨f, fd, ps, g, ok F, m, F.kp, kb⟩
section
variable {X : Cx} {x : Str} {k n : Nat} {ks : List Str} {gV : List V → List V → List V} {sp : Sp} {e : Expr} {es : List Expr} {kws : List Keyword} {t tk : TA} {p pos : Pos}
theorem pe_kcal (C : KCal X.prog X.w X.K X.mg X.base x k n ks gV sp) (hr : Room k X.A) (hg : Gl X x) (ha : PA X (e :: es) t) (hkw : PK X kws tk)
    (hall : (backToKw pos (keywordEach kws X.env)).all (·.1.isSome) = true := by rfl) (hks : (backToKw pos (keywordEach kws X.env)).filterMap (·.1) = ks := by rfl)
    (hd : (x == ("__debug__" : Str)) = false := by decide) (he : starEach (e :: es) X.env = (false, eval e X.env) :: starEach es X.env := by rfl)
    (hl : ((backTo pos (starEach (e :: es) X.env)).any (·.1) || (backToKw pos (keywordEach kws X.env)).any (·.1.isNone)) = false := by rfl) :
    PE X (.Call (.Name x p) (e :: es) kws pos) (tCallN n ks.length sp gV E0 t tk) := by
  obtain ⟨f, fd, ps, g, F, hm, hk, hb⟩ := C.ex
  exact pe_callN F hr hg hm hk hb pass0 ha hkw hall hks hd he hl
theorem pe_kcal0 (C : KCal X.prog X.w X.K X.mg X.base x k 0 ks gV sp) (hr : Room k X.A) (hg : Gl X x) (hkw : PK X kws tk)
    (hall : (backToKw pos (keywordEach kws X.env)).all (·.1.isSome) = true := by rfl) (hks : (backToKw pos (keywordEach kws X.env)).filterMap (·.1) = ks := by rfl)
    (hd : (x == ("__debug__" : Str)) = false := by decide)
    (hl : ((backTo pos (starEach [] X.env)).any (·.1) || (backToKw pos (keywordEach kws X.env)).any (·.1.isNone)) = false := by rfl) :
    PE X (.Call (.Name x p) [] kws pos) (tCallN 0 ks.length sp gV E0 tNil tk) := by
  obtain ⟨f, fd, ps, g, F, hm, hk, hb⟩ := C.ex
  refine ⟨fun pins s σ H Q I h => ?_⟩
  refine wpAny_Call_Name_kw (ld_glob I hg hm ?_ hd)
  refine PySem.W.callWith_KW0 (h₀ := X.base) I.ok.mod.kin hk hall ?_ hl
  refine thn (hkw.run pos pins s σ H _ I h) fun ws s2 ⟨zs, H2, I2, rz, l1, l2, q2⟩ => ⟨I2.kIn, ?_⟩
  rw [hks]
  exact run_fnN (us := []) (vs := []) F hr hb pass0 I2 .nil rz l1 l2 q2
end
/-- what a caller needs of a method of the class at C -/
structure MCal (P : Program) (w : World) (K : PySem.W.Frag) (mg : Str → Option Value) (base : Heap) (C : Addr) (m : Str) (k : Nat) (ps : List Str) (sp : Sp) : Prop where
  ex : ∃ (f : Addr) (fd : FuncData), Meth K C m f ∧ FnOk P w K mg base CX0 k f fd ps sp ∧ Binds K fd ps []
theorem mcal_mk {P : Program} {w : World} {K : PySem.W.Frag} {mg : Str → Option Value} {base : Heap} {C : Addr} {m : Str} {x q : Str} {pa : Arguments} {bd : List Stmt} {sc : Scope} {dv : List V} {kw : List (Str × V)} {k : Nat} {ps : List Str} {sp : Sp} {f : Addr}
    (me : Meth K C m f) (h : ∃ (fd : FuncData), FunD K x q pa bd sc dv kw f fd)
    (ok : ∀ {f : Addr} {fd : FuncData}, FunD K x q pa bd sc dv kw f fd → FnOk P w K mg base CX0 k f fd ps sp)
    (b : ∀ {f : Addr} {fd : FuncData}, FunD K x q pa bd sc dv kw f fd → Binds K fd ps []) : MCal P w K mg base C m k ps sp := by
  obtain ⟨fd, F⟩ := h
  exact ⟨f, fd, me, ok F, b F⟩
/-- what a caller needs of a class that is made by its __init__ -/
structure MkC (P : Program) (w : World) (K : PySem.W.Frag) (mg : Str → Option Value) (base : Heap) (C : Addr) (k : Nat) (ps : List Str) (sp : Sp) : Prop where
  ex : ∃ (f : Addr) (fd : FuncData), Mk K C f ∧ FnOk P w K mg base CX0 k f fd ps sp ∧ Binds K fd ps []
section
variable {X : Cx} {K : PySem.W.Frag} {C : Addr} {k : Nat} {ps : List Str} {sp : Sp} {e o value : Expr} {es : List Expr} {t : TA} {ta tv : TE} {x m f : Str} {p pos pos' apos : Pos}
theorem pe_mcal {pl : Sem Bool} (he : PE X o ta) (c : Cls X.K C) (M : MCal X.prog X.w X.K X.mg X.base C m k ps sp) (hr : Room k X.A) (ha : PA X (e :: es) t)
    (hst : starEach (e :: es) X.env = (false, eval e X.env) :: starEach es X.env := by rfl) (hl : (backTo pos (starEach es X.env)).any (·.1) = false := by rfl)
    (ht : eval (.Call (.Attribute o m apos) (e :: es) [] pos) X.env = (do
      let self_ ← eval o X.env
      standAt apos.atName
      let (fn, first) ← holding [self_] (getMethod self_ m pl)
      callWith pos fn first (backTo pos (starEach (e :: es) X.env)) (backToKw pos (keywordEach [] X.env))) := by rfl) :
    PE X (.Call (.Attribute o m apos) (e :: es) [] pos) (tMeth C m sp [] E0 ta t) := by
  obtain ⟨f, fd, hm, F, hb⟩ := M.ex
  exact pe_meth he c hm F hr hb .nil pass0 ha hst hl ht
theorem pe_mcal0 {pl : Sem Bool} (he : PE X o ta) (c : Cls X.K C) (M : MCal X.prog X.w X.K X.mg X.base C m k ps sp) (hr : Room k X.A)
    (ht : eval (.Call (.Attribute o m apos) [] [] pos) X.env = (do
      let self_ ← eval o X.env
      standAt apos.atName
      let (fn, first) ← holding [self_] (getMethod self_ m pl)
      callWith pos fn first (backTo pos (starEach [] X.env)) (backToKw pos (keywordEach [] X.env))) := by rfl) :
    PE X (.Call (.Attribute o m apos) [] [] pos) (tMeth C m sp [] E0 ta tNil) := by
  obtain ⟨f, fd, hm, F, hb⟩ := M.ex
  exact pe_meth0 he c hm F hr hb .nil pass0 ht
theorem pe_mk (hm : X.mg x = some (.ref C)) (M : MkC X.prog X.w X.K X.mg X.base C k ps sp) (hr : Room (k + 1) X.A) (hg : Gl X x) (ha : PA X (e :: es) t)
    (hd : (x == ("__debug__" : Str)) = false := by decide) (he : starEach (e :: es) X.env = (false, eval e X.env) :: starEach es X.env := by rfl) (hl : (backTo pos (starEach es X.env)).any (·.1) = false := by rfl) :
    PE X (.Call (.Name x p) (e :: es) [] pos) (tMake C sp [] E0 t) := by
  obtain ⟨f, fd, hmk, F, hb⟩ := M.ex
  exact pe_make hmk F hr hg hm hb .nil pass0 ha hd he hl
theorem k_fld (ek : X.K = K) (he : PE X e ta) (hb : attributeBase e f X.env (eval e X.env) = eval e X.env) : PE X (.Attribute e f pos) (tFld K ta f) := by subst ek; exact pe_fld he hb
theorem k_sfld (ek : X.K = K) (ha : PE X o ta) (hv : PE X value tv) (hs : swapsWith value (some (.Attribute o f pos')) pos.line X.env = pure false) : PS X (.Assign [.Attribute o f pos'] value pos) (sFld K ta tv f) := by subst ek; exact ps_fld ha hv hs
end
/-- the parameters' order: the i-th of the values by position (0), of the defaults that lack (1), of the keywords (2) -/
def pick {α : Type} : List (Nat × Nat) → List α → List α → List α → List α
  | [], _, _, _ => []
  | (k, i) :: r, us, mv, ws => match (match k with | 0 => us | 1 => mv | _ => ws)[i]? with
    | some x => x :: pick r us mv ws
    | none => pick r us mv ws
theorem vals_pick : ∀ (ix : List (Nat × Nat)) {vs mz zs : List V} {us mv ws : List Value}, Vals vs us → Vals mz mv → Vals zs ws → Vals (pick ix vs mz zs) (pick ix us mv ws)
  | [], _, _, _, _, _, _, _, _, _ => .nil
  | (k, i) :: r, vs, mz, zs, us, mv, ws, h1, h2, h3 => by
    have hsel : Vals (match k with | 0 => vs | 1 => mz | _ => zs) (match k with | 0 => us | 1 => mv | _ => ws) := by
      match k with
      | 0 => exact h1
      | 1 => exact h2
      | _ + 2 => exact h3
    have ih := vals_pick r h1 h2 h3
    unfold pick
    cases e : (match k with | 0 => vs | 1 => mz | _ => zs)[i]? with
    | none =>
      rw [hsel.none_of e]
      exact ih
    | some x =>
      obtain ⟨u, hu, ru⟩ := hsel.get e
      rw [hu]
      exact .cons ru ih
theorem kbindsN {K : PySem.W.Frag} {x qual : Str} {params : Arguments} {body : List Stmt} {scope : Scope} {f : Addr} {fd : FuncData} {ps : List Str} (F : FunD K x qual params body scope [] [] f fd) (n : Nat) (ks : List Str) (ix : List (Nat × Nat))
    (h : ∀ (kV doc pm : Value) (an : Option Addr) (cdv ct : Value) (us ws : List Value), us.length = n → ws.length = ks.length →
      bindArgs (PySem.W.fnOf x qual params body scope .none kV doc pm an cdv ct) ⟨us, ks.zip ws⟩ = pure (ps.zip (pick ix us [] ws))) : ∃ g, KBn K fd ps n ks g (fun vs zs => pick ix vs [] zs) := by
  obtain ⟨oc, od, dV, kV, doc, pm, an, cdv, ct, osl, rfl, lk, hcd, hD, hK⟩ := F.ex
  rcases hD with ⟨_, rfl⟩ | ⟨e, _⟩
  · exact ⟨fun us ws => pick ix us [] ws, fun s us ws X l1 l2 => .of_eq (h kV doc pm an cdv ct us ws l1 l2), fun r1 r2 => vals_pick ix r1 .nil r2⟩
  · exact absurd rfl e
theorem kbindsK {K : PySem.W.Frag} {x qual : Str} {params : Arguments} {body : List Stmt} {scope : Scope} {kws : List (Str × V)} {f : Addr} {fd : FuncData} {ps : List Str} (F : FunD K x qual params body scope [] kws f fd) (n : Nat) (ks : List Str) (ms : List (Str × V)) (ix : List (Nat × Nat)) (hk : kws ≠ []) (hms : ∀ q ∈ ms, q ∈ kws)
    (h : ∀ (D : Addr) (doc pm : Value) (an : Option Addr) (cdv ct : Value) (us mv ws : List Value), us.length = n → mv.length = ms.length → ws.length = ks.length →
      KwChain D ((ms.map (·.1)).zip mv) (bindArgs (PySem.W.fnOf x qual params body scope .none (.ref D) doc pm an cdv ct) ⟨us, ks.zip ws⟩) (ps.zip (pick ix us mv ws))) : ∃ g, KBn K fd ps n ks g (fun vs zs => pick ix vs (ms.map (·.2)) zs) := by
  obtain ⟨mv, hb⟩ := F.kbinds0 n ks ms (fun us mv ws => pick ix us mv ws) hk hms (fun h1 h2 h3 => vals_pick ix h1 h2 h3) h
  exact ⟨_, hb⟩
/-- all but a stays -/
def Chg (a : Addr) (H H' : Hp) : Prop := ∀ b o, b ≠ a → H b = some o → H' b = some o
theorem Chg.refl {a : Addr} {H : Hp} : Chg a H H := fun _ _ _ h => h
theorem Chg.trans {a : Addr} {H H1 H2 : Hp} (x : Chg a H H1) (y : Chg a H1 H2) : Chg a H H2 := fun b o n h => y b o n (x b o n h)
theorem Chg.upd {a : Addr} {H : Hp} {o : HO} : Chg a H (upd H a o) := fun b _ n h => by rw [upd_ne n]; exact h
theorem Chg.new {a p : Addr} {H : Hp} {o : HO} (hp : H p = none) : Chg a H (L2.upd H p o) := fun b u _ h => by
  rw [upd_ne (ne_of_none h hp)]; exact h
theorem Same.chg {a : Addr} {H H' : Hp} (s : Same H H') : Chg a H H' := fun b o _ h => s b o h
theorem sm_chg {a : Addr} {H H' : Hp} (s : L2.Same H H') : Chg a H H' := fun b o _ h => s b o h
theorem same_new {H : Hp} {p : Addr} {o : HO} (hp : H p = none) : Same H (L2.upd H p o) := fun b u h => by
  rw [upd_ne (ne_of_none h hp)]; exact h

/-! ### readings, step by step: each g_.. takes one head away -/
section
variable {D : Ends} {σ : L2.St} {H : Hp} {Q : VK} {QB : Bool → Hp → Prop} {QL : List V → Hp → Prop}
theorem g_seq {t u : TS} (h : t { D with nx := u D } σ H) : tSeq t u D σ H := h
theorem g_asg {te : TE} {g : TG} (h : te σ H fun x H1 => g x σ H1 D.nx) : tAsg te g D σ H := h
def ParR (i j : Nat) (D : Ends) (σ : L2.St) (vs : List V) (H1 : Hp) : Prop := ∃ v w, vs = [v, w] ∧ D.nx ((σ.set i (some v)).set j (some w)) H1
theorem g_par {i j : Nat} {ta : TA} (h : ta σ H (ParR i j D σ)) : tPar i j ta D σ H := h
theorem g_parR {i j : Nat} {v w : V} (h : gName i v σ H fun σ1 H1 => gName j w σ1 H1 D.nx) : ParR i j D σ [v, w] H := ⟨v, w, rfl, h⟩
def ParR3 (i j l : Nat) (D : Ends) (σ : L2.St) (vs : List V) (H1 : Hp) : Prop := ∃ v w u, vs = [v, w, u] ∧ D.nx (((σ.set i (some v)).set j (some w)).set l (some u)) H1
theorem g_par3 {i j l : Nat} {ta : TA} (h : ta σ H (ParR3 i j l D σ)) : tPar3 i j l ta D σ H := h
theorem g_parR3 {i j l : Nat} {v w u : V} (h : gName i v σ H fun σ1 H1 => gName j w σ1 H1 fun σ2 H2 => gName l u σ2 H2 D.nx) : ParR3 i j l D σ [v, w, u] H := ⟨v, w, u, rfl, h⟩
theorem g_aug {i : Nat} {te : TE} {ti : TIp} (h : tVar i σ H fun x _ => te σ H fun y H1 => ti x y H1 fun z H2 => gName i z σ H2 D.nx) : tAug i te ti D σ H := h
theorem g_ipI {f : Int → Int → Int} {i j : Int} (h : Q (.int (f i j)) H) : ipI f (.int i) (.int j) H Q := ⟨i, j, rfl, rfl, h⟩
theorem g_ifS {c : TT} {t u : TS} (h : c σ H fun b H1 => if b = true then t D σ H1 else u D σ H1) : tIfS c t u D σ H := h
theorem g_ret {te : TE} (h : te σ H D.rt) : tRet te D σ H := h
theorem g_retN (h : D.rt .non H) : tRetN D σ H := h
theorem g_drop {te : TE} (h : te σ H fun _ H1 => D.nx σ H1) : tDrop te D σ H := h
theorem g_next (h : D.nx σ H) : tNext D σ H := h
theorem g_brk (h : D.bk σ H) : tBreak D σ H := h
theorem g_cont (h : D.ct σ H) : tCont D σ H := h
theorem g_c {v : V} (h : Q v H) : tC v σ H Q := h
theorem g_op {r : R2} {ta tb : TE} (h : ta σ H fun x H1 => tb σ H1 fun y H2 => r x y H2 Q) : tOp r ta tb σ H Q := h
theorem g_un {r : V → Hp → VK → Prop} {ta : TE} (h : ta σ H fun x H1 => r x H1 Q) : tUn r ta σ H Q := h
theorem g_cb {r : List V → Hp → VK → Prop} {t : TA} (h : t σ H fun vs H1 => r vs H1 Q) : tCB r t σ H Q := h
theorem g_nil (h : QL [] H) : tNil σ H QL := h
theorem g_cons {ta : TE} {t : TA} (h : ta σ H fun x H1 => t σ H1 fun xs H2 => QL (x :: xs) H2) : tCons ta t σ H QL := h
def NewL (Q : VK) (xs : List V) (H1 : Hp) : Prop := xs.length ≤ sizeLine ∧ ∀ p, H1 p = none → Q (.ref p) (upd H1 p (.lst xs))
def NewT (Q : VK) (xs : List V) (H1 : Hp) : Prop := xs.length ≤ sizeLine ∧ ∀ p, H1 p = none → Q (.ref p) (upd H1 p (.tup xs))
theorem g_lst {t : TA} (h : t σ H fun xs H1 => NewL Q xs H1) : tLst t σ H Q := h
theorem g_tup {t : TA} (h : t σ H fun xs H1 => NewT Q xs H1) : tTup t σ H Q := h
theorem g_newL {xs : List V} (l : xs.length ≤ 1000) (h : ∀ p, H p = none → Q (.ref p) (upd H p (.lst xs))) : NewL Q xs H := ⟨Nat.le_of_lt (small1000 l), h⟩
theorem g_newT {xs : List V} (l : xs.length ≤ 1000) (h : ∀ p, H p = none → Q (.ref p) (upd H p (.tup xs))) : NewT Q xs H := ⟨Nat.le_of_lt (small1000 l), h⟩
theorem g_call {sp : Sp} {E : XK} {t : TA} (h : t σ H fun vs H1 => sp vs H1 Q E) : tCall sp [] E t σ H Q := by
  show t σ H fun vs H1 => sp (vs ++ []) H1 Q E
  simp only [List.append_nil]
  exact h
theorem g_if {t : TT} {ta tb : TE} (h : t σ H fun c H1 => if c = true then ta σ H1 Q else tb σ H1 Q) : tIf t ta tb σ H Q := h
theorem g_andV {ta tb : TE} (h : ta σ H fun x H1 => ∃ c, x = .bl c ∧ if c = true then tb σ H1 Q else Q (.bl false) H1) : tAndV ta tb σ H Q := h
theorem g_orV {ta tb : TE} (h : ta σ H fun x H1 => ∃ c, x = .bl c ∧ if c = true then Q (.bl true) H1 else tb σ H1 Q) : tOrV ta tb σ H Q := h
def ChR (r : R2) (tc : TE) (σ : L2.St) (Q : VK) (y z : V) (H3 : Hp) : Prop := ∃ k, z = .bl k ∧ (if k = true then tc σ H3 fun w H4 => r y w H4 Q else Q (.bl false) H3)
theorem g_chain {r r' : R2} {ta tb tc : TE} (h : ta σ H fun x H1 => tb σ H1 fun y H2 => r x y H2 (ChR r' tc σ Q y)) : tChain r r' ta tb tc σ H Q := h
theorem g_chR {r : R2} {tc : TE} {y : V} {b : Bool} (h : if b = true then tc σ H fun w H4 => r y w H4 Q else Q (.bl false) H) : ChR r tc σ Q y (.bl b) H := ⟨b, rfl, h⟩
theorem g_notV {ta : TE} (h : ta σ H fun x H1 => ∃ c, x = .bl c ∧ Q (.bl (!c)) H1) : tNotV ta σ H Q := h
theorem g_b {t : TE} (h : t σ H fun x H1 => ∃ c, x = .bl c ∧ QB c H1) : tB t σ H QB := h
theorem g_test {t : TE} (h : t σ H fun x H1 => ∃ c, x = .bl c ∧ QB c H1) : tTest t σ H QB := h
theorem g_and {t u : TT} (h : t σ H fun c H1 => if c = true then u σ H1 QB else QB false H1) : tAnd t u σ H QB := h
theorem g_or {t u : TT} (h : t σ H fun c H1 => if c = true then QB true H1 else u σ H1 QB) : tOr t u σ H QB := h
theorem g_not {t : TT} (h : t σ H fun c H1 => QB (!c) H1) : tNot t σ H QB := h
theorem g_yes (h : QB true H) : tYes σ H QB := h
theorem g_bl {b : Bool} {R : Bool → Prop} (h : R b) : ∃ c, V.bl b = V.bl c ∧ R c := ⟨b, rfl, h⟩
theorem g_sub {to ti : TE} {t : TSet} {v : V} {N : L2.St → Hp → Prop} (h : to σ H fun o H1 => ti σ H1 fun i H2 => t o i v H2 fun H3 => N σ H3) : gSub to ti t v σ H N := h
def KArg (n m : Nat) (sp : Sp) (gV : List V → List V → List V) (E : XK) (Q : VK) (vs zs : List V) (H : Hp) : Prop := vs.length = n ∧ zs.length = m ∧ sp (gV vs zs) H Q E
theorem g_callN {n m : Nat} {sp : Sp} {gV : List V → List V → List V} {E : XK} {t tk : TA} (h : t σ H fun vs H1 => tk σ H1 fun zs H2 => KArg n m sp gV E Q vs zs H2) : tCallN n m sp gV E t tk σ H Q := h
theorem g_kArg {n m : Nat} {sp : Sp} {gV : List V → List V → List V} {E : XK} {vs zs ws : List V} (h1 : vs.length = n) (h2 : zs.length = m) (e : gV vs zs = ws) (h : sp ws H Q E) : KArg n m sp gV E Q vs zs H := ⟨h1, h2, by rw [e]; exact h⟩
def BmR (K : PySem.W.Frag) (T : String) (r : V → List V → Hp → VK → Prop) (t : TA) (σ : L2.St) (Q : VK) (x : V) (H1 : Hp) : Prop := tyV K T x H1 ∧ t σ H1 fun xs H2 => r x xs H2 Q
theorem g_bm {K : PySem.W.Frag} {T : String} {r : V → List V → Hp → VK → Prop} {to : TE} {t : TA} (h : to σ H (BmR K T r t σ Q)) : tBM K T r to t σ H Q := h
theorem g_bmL {K : PySem.W.Frag} {r : V → List V → Hp → VK → Prop} {t : TA} {p : Addr} {xs : List V} (h : SqL K H p xs) (q : t σ H fun ys H2 => r (.ref p) ys H2 Q) : BmR K "list" r t σ Q (.ref p) H := ⟨.inl ⟨rfl, xs, h⟩, q⟩
def FldR (K : PySem.W.Frag) (f : Str) (Q : VK) (x : V) (H1 : Hp) : Prop := ∃ a C dx fs v, x = .ref a ∧ H1 a = some (.ins C dx fs) ∧ Cls K C ∧ NoAttr K C f ∧ fs.lookup f = some v ∧ Q v H1
theorem g_fld {K : PySem.W.Frag} {ta : TE} {f : Str} (h : ta σ H (FldR K f Q)) : tFld K ta f σ H Q := h
theorem g_fldR {K : PySem.W.Frag} {f : Str} {a C dx : Addr} {fs : List (Str × V)} {v : V} (h : H a = some (.ins C dx fs)) (c : Cls K C) (n : NoAttr K C f) (l : fs.lookup f = some v) (q : Q v H) : FldR K f Q (.ref a) H := ⟨a, C, dx, fs, v, rfl, h, c, n, l, q⟩
def MethR (C : Addr) (m : Str) (sp : Sp) (E : XK) (t : TA) (σ : L2.St) (Q : VK) (x : V) (H1 : Hp) : Prop := ∃ a dx fs, x = .ref a ∧ H1 a = some (.ins C dx fs) ∧ fs.lookup m = none ∧ t σ H1 fun vs H2 => sp (x :: vs) H2 Q E
theorem g_meth {C : Addr} {m : Str} {sp : Sp} {E : XK} {ta : TE} {t : TA} (h : ta σ H (MethR C m sp E t σ Q)) : tMeth C m sp [] E ta t σ H Q := by
  show ta σ H fun x H1 => ∃ a dx fs, x = .ref a ∧ H1 a = some (.ins C dx fs) ∧ fs.lookup m = none ∧ t σ H1 fun vs H2 => sp (x :: (vs ++ [])) H2 Q E
  simp only [List.append_nil]
  exact h
theorem g_methR {C : Addr} {m : Str} {sp : Sp} {E : XK} {t : TA} {a dx : Addr} {fs : List (Str × V)} (h : H a = some (.ins C dx fs)) (l : fs.lookup m = none) (q : t σ H fun vs H2 => sp (.ref a :: vs) H2 Q E) : MethR C m sp E t σ Q (.ref a) H := ⟨a, dx, fs, rfl, h, l, q⟩
def SFldR (K : PySem.W.Frag) (f : Str) (D : Ends) (σ : L2.St) (y x : V) (H2 : Hp) : Prop := ∃ a C dx fs, x = .ref a ∧ H2 a = some (.ins C dx fs) ∧ Cls K C ∧ NoAttr K C f ∧ fs.length < 1000 ∧ D.nx σ (upd H2 a (.ins C dx (putF f y fs)))
theorem g_sfld {K : PySem.W.Frag} {ta tv : TE} {f : Str} (h : tv σ H fun y H1 => ta σ H1 (SFldR K f D σ y)) : sFld K ta tv f D σ H := h
theorem g_sfldR {K : PySem.W.Frag} {f : Str} {a C dx : Addr} {fs : List (Str × V)} {y : V} (h : H a = some (.ins C dx fs)) (c : Cls K C) (n : NoAttr K C f) (l : fs.length < 1000) (q : D.nx σ (upd H a (.ins C dx (putF f y fs)))) : SFldR K f D σ y (.ref a) H := ⟨a, C, dx, fs, rfl, h, c, n, l, q⟩
/-! values -/
theorem g_rI0 {g : Int → Int → V} {i j : Int} (h : Q (g i j) H) : rI0 g (.int i) (.int j) H Q := ⟨i, j, rfl, rfl, h⟩
theorem g_rI {C : Int → Int → Prop} {g : Int → Int → V} {i j : Int} (c : C i j) (h : Q (g i j) H) : rI C g (.int i) (.int j) H Q := ⟨i, j, rfl, rfl, c, h⟩
theorem g_rU {g : Int → V} {i : Int} (h : Q (g i) H) : rU g (.int i) H Q := ⟨i, rfl, h⟩
theorem g_eqI {i j : Int} (h : Q (.bl (decide (i = j))) H) : rEq (.int i) (.int j) H Q :=
  ⟨rfl, by rw [show decide (V.int i = V.int j) = decide (i = j) from by simp only [V.int.injEq]]; exact h⟩
theorem g_neI {i j : Int} (h : Q (.bl (!decide (i = j))) H) : rNe (.int i) (.int j) H Q :=
  ⟨rfl, by rw [show decide (V.int i = V.int j) = decide (i = j) from by simp only [V.int.injEq]]; exact h⟩
theorem g_eqS {i j : Str} (h : Q (.bl (decide (i = j))) H) : rEq (.str i) (.str j) H Q :=
  ⟨rfl, by rw [show decide (V.str i = V.str j) = decide (i = j) from by simp only [V.str.injEq]]; exact h⟩
theorem g_eqB {i j : Bool} (h : Q (.bl (decide (i = j))) H) : rEq (.bl i) (.bl j) H Q :=
  ⟨rfl, by rw [show decide (V.bl i = V.bl j) = decide (i = j) from by simp only [V.bl.injEq]]; exact h⟩
theorem g_neB {i j : Bool} (h : Q (.bl (!decide (i = j))) H) : rNe (.bl i) (.bl j) H Q :=
  ⟨rfl, by rw [show decide (V.bl i = V.bl j) = decide (i = j) from by simp only [V.bl.injEq]]; exact h⟩
theorem g_isN {x : V} (h : Q (.bl (decide (x = .non))) H) : (∃ _ : Unit, True) ∧ Q (.bl (decide (x = .non))) H := ⟨⟨(), trivial⟩, h⟩
theorem g_ixL {K : PySem.W.Frag} {p : Addr} {xs : List V} {i : Int} {v : V} (h : SqL K H p xs) (e : atI xs i = some v) (q : Q v H) : rIxL K (.ref p) (.int i) H Q := ⟨p, xs, i, v, rfl, rfl, h, e, q⟩
theorem g_setL {p : Addr} {xs : List V} {k : Int} {j : Nat} {v : V} {N : Hp → Prop} (h : H p = some (.lst xs)) (e : ixN xs.length k = some j) (q : N (upd H p (.lst (xs.set j v)))) : rSetL (.ref p) (.int k) v H N := ⟨p, xs, k, j, rfl, rfl, h, e, q⟩
theorem g_p6 (h : Q (.int 1000000) H) : rI CPow (fun i j => V.int (i ^ j.toNat)) (.int 10) (.int 6) H Q := ⟨10, 6, rfl, rfl, ⟨by decide, by decide, by decide⟩, h⟩
theorem g_p18 (h : Q (.int 1000000000000000000) H) : rI CPow (fun i j => V.int (i ^ j.toNat)) (.int 10) (.int 18) H Q := ⟨10, 18, rfl, rfl, ⟨by decide, by decide, by decide⟩, h⟩
theorem g_sl {r : V → Option Int → Option Int → Hp → VK → Prop} {te : TE} {tl th : TO} (h : te σ H fun x H1 => tl σ H1 fun l H2 => th σ H2 fun u H3 => r x l u H3 Q) : tSl r te tl th σ H Q := h
def PartR (x : V) (R : Option Int → Hp → Prop) (H : Hp) : Prop := ∃ i, x = .int i ∧ R (some i) H
theorem g_part {te : TE} {R : Option Int → Hp → Prop} (h : te σ H fun x H1 => PartR x R H1) : tPart te σ H R := h
theorem g_partI {i : Int} {R : Option Int → Hp → Prop} (h : R (some i) H) : PartR (.int i) R H := ⟨i, rfl, h⟩
theorem g_cat {l b : Addr} {xs zs : List V} (h1 : H l = some (.lst xs)) (h2 : H b = some (.lst zs)) (hl : xs.length + zs.length ≤ 1000) (q : ∀ p, H p = none → Q (.ref p) (upd H p (.lst (xs ++ zs)))) : rCat (.ref l) (.ref b) H Q :=
  ⟨l, b, xs, zs, rfl, rfl, h1, h2, Nat.le_of_lt (small1000 hl), q⟩
theorem g_ixS {K : PySem.W.Frag} {p : Addr} {xs : List V} {i : Int} {v : V} (h : SqL K H p xs) (e : atI xs i = some v) (q : Q v H) : rIxL K (.ref p) (.int i) H Q := g_ixL h e q
theorem g_noPart {R : Option Int → Hp → Prop} (h : R none H) : tNoPart σ H R := h
theorem g_slL {K : PySem.W.Frag} {a : Addr} {xs : List V} {lo hi : Option Int} (h : SqL K H a xs) (q : ∀ p, H p = none → Q (.ref p) (upd H p (.lst (cutV xs lo hi)))) : rSlL K (.ref a) lo hi H Q := ⟨a, xs, rfl, h, q⟩
theorem g_in {K : PySem.W.Frag} {p : Addr} {x : V} {xs : List V} (h : SqL K H p xs ∨ SqT K H p xs) (fx : flatV x = true) (fs : xs.all flatV = true) (q : Q (.bl (inV x xs)) H) : rIn K false x (.ref p) H Q := ⟨p, xs, rfl, h, fx, fs, q⟩
theorem g_notin {K : PySem.W.Frag} {p : Addr} {x : V} {xs : List V} (h : SqL K H p xs ∨ SqT K H p xs) (fx : flatV x = true) (fs : xs.all flatV = true) (q : Q (.bl (!inV x xs)) H) : rIn K true x (.ref p) H Q := ⟨p, xs, rfl, h, fx, fs, q⟩
theorem flat_ints (ns : List Int) : (ns.map V.int).all flatV = true := by
  induction ns with
  | nil => rfl
  | cons n r ih => rw [List.map_cons, List.all_cons, ih]; rfl
theorem in_ints (i : Int) (ns : List Int) : inV (.int i) (ns.map V.int) = decide (i ∈ ns) := by
  unfold inV
  induction ns with
  | nil => rfl
  | cons n r ih =>
    rw [List.map_cons, List.any_cons, ih]
    show (n == i || decide (i ∈ r)) = decide (i ∈ n :: r)
    by_cases e : n = i
    · subst e; simp
    · have e2 : ¬ i = n := fun z => e z.symm
      simp [e, e2]
theorem g_inI {K : PySem.W.Frag} {p : Addr} {i : Int} {ns : List Int} (h : SqL K H p (ns.map V.int) ∨ SqT K H p (ns.map V.int)) (q : Q (.bl (decide (i ∈ ns))) H) : rIn K false (.int i) (.ref p) H Q :=
  g_in h rfl (flat_ints ns) (by rw [in_ints]; exact q)
theorem g_notinI {K : PySem.W.Frag} {p : Addr} {i : Int} {ns : List Int} (h : SqL K H p (ns.map V.int) ∨ SqT K H p (ns.map V.int)) (q : Q (.bl (!decide (i ∈ ns))) H) : rIn K true (.int i) (.ref p) H Q :=
  g_notin h rfl (flat_ints ns) (by rw [in_ints]; exact q)
/-! tests known and open -/
theorem g_iteD {p A B : Prop} [Decidable p] (h1 : p → A) (h2 : ¬ p → B) : if decide p = true then A else B := by
  by_cases h : p
  · rw [if_pos (decide_eq_true h)]; exact h1 h
  · rw [if_neg (by simp [h])]; exact h2 h
theorem g_iteN {p A B : Prop} [Decidable p] (h1 : ¬ p → A) (h2 : p → B) : if (!decide p) = true then A else B := by
  by_cases h : p
  · rw [if_neg (by simp [h])]; exact h2 h
  · rw [if_pos (by simp [h])]; exact h1 h
theorem g_iteY {p A B : Prop} [Decidable p] (h : p) (h1 : A) : if decide p = true then A else B := by
  rw [if_pos (decide_eq_true h)]; exact h1
theorem g_iteX {p A B : Prop} [Decidable p] (h : ¬ p) (h1 : B) : if decide p = true then A else B := by
  rw [if_neg (by simp [h])]; exact h1
theorem g_iteNY {p A B : Prop} [Decidable p] (h : ¬ p) (h1 : A) : if (!decide p) = true then A else B := by
  rw [if_pos (by simp [h])]; exact h1
theorem g_iteNX {p A B : Prop} [Decidable p] (h : p) (h1 : B) : if (!decide p) = true then A else B := by
  rw [if_neg (by simp [h])]; exact h1
theorem g_iteCT {b : Bool} {A B : Prop} (h : b = true) (q : A) : if b = true then A else B := by rw [if_pos h]; exact q
theorem g_iteCF {b : Bool} {A B : Prop} (h : b = false) (q : B) : if b = true then A else B := by rw [h, if_neg Bool.false_ne_true]; exact q
theorem g_iteBB {b : Bool} {A B : Prop} (h1 : b = true → A) (h2 : b = false → B) : if b = true then A else B := by
  cases b
  · rw [if_neg Bool.false_ne_true]; exact h2 rfl
  · rw [if_pos rfl]; exact h1 rfl
end
/-! ### built-ins, named -/
section
variable {X : Cx} {σ : L2.St} {H : Hp} {Q : VK}
def qInt : List V → Hp → VK → Prop := fun xs H Q => ∃ i, xs = [.int i] ∧ Q (.int i) H
theorem c_int : CallR X (.type "int") qInt := fun pins s σ H xs us Q I r h => call_int1 pins s σ H xs us Q I r (.inl h)
theorem g_int {i : Int} (h : Q (.int i) H) : qInt [.int i] H Q := ⟨i, rfl, h⟩
def qLen (K : PySem.W.Frag) : List V → Hp → VK → Prop := fun xs H Q => ∃ p ys, xs = [.ref p] ∧ (SqL K H p ys ∨ SqT K H p ys) ∧ Q (.int ys.length) H
theorem c_len : CallR X (.builtin "len") (qLen X.K) := call_len_seq
theorem g_len {K : PySem.W.Frag} {p : Addr} {ys : List V} (h : SqL K H p ys ∨ SqT K H p ys) (q : Q (.int ys.length) H) : qLen K [.ref p] H Q := ⟨p, ys, rfl, h, q⟩
def qList (K : PySem.W.Frag) : List V → Hp → VK → Prop := fun xs H Q => ∃ p ys, xs = [.ref p] ∧ (SqL K H p ys ∨ SqT K H p ys) ∧ ∀ l, H l = none → Q (.ref l) (upd H l (.lst ys))
theorem c_list : CallR X (.type "list") (qList X.K) := call_list_of
theorem g_list {K : PySem.W.Frag} {p : Addr} {ys : List V} (h : SqL K H p ys ∨ SqT K H p ys) (q : ∀ l, H l = none → Q (.ref l) (upd H l (.lst ys))) : qList K [.ref p] H Q := ⟨p, ys, rfl, h, q⟩
def qTuple (K : PySem.W.Frag) : List V → Hp → VK → Prop := fun xs H Q => ∃ p ys, xs = [.ref p] ∧ SqL K H p ys ∧ ∀ l, H l = none → Q (.ref l) (upd H l (.tup ys))
theorem c_tuple : CallR X (.type "tuple") (qTuple X.K) := fun pins s σ H xs us Q I r ⟨p, ys, e, h, q⟩ => call_tuple_of pins s σ H xs us Q I r ⟨p, ys, e, .inl ⟨h, q⟩⟩
theorem g_tuple {K : PySem.W.Frag} {p : Addr} {ys : List V} (h : SqL K H p ys) (q : ∀ l, H l = none → Q (.ref l) (upd H l (.tup ys))) : qTuple K [.ref p] H Q := ⟨p, ys, rfl, h, q⟩
theorem g_sum {K : PySem.W.Frag} {a : Addr} {ns : List Int} (h : SqL K H a (ns.map V.int)) (q : Q (.int ns.sum) H) : rSum K [.ref a] H Q := ⟨a, ns, rfl, h, q⟩
theorem g_max {K : PySem.W.Frag} {a : Addr} {ns : List Int} (h : SqL K H a (ns.map V.int)) (l : 0 < ns.length) (q : ∀ m, m ∈ ns → (∀ y, y ∈ ns → y ≤ m) → Q (.int m) H) : rMax K [.ref a] H Q := ⟨a, ns, rfl, h, l, q⟩
theorem g_any {K : PySem.W.Frag} {a : Addr} {bs : List Bool} (h : SqL K H a (bs.map V.bl)) (q : Q (.bl (bs.any id)) H) : rAny K [.ref a] H Q := ⟨a, bs, rfl, h, q⟩
theorem g_all {K : PySem.W.Frag} {a : Addr} {bs : List Bool} (h : SqL K H a (bs.map V.bl)) (q : Q (.bl (bs.all id)) H) : rAll K [.ref a] H Q := ⟨a, bs, rfl, h, q⟩
def qIsN : R2 := fun x y H Q => y = .non ∧ Q (.bl (decide (x = .non))) H
theorem o_isN : OpR X (compareOp .Is) qIsN := op_isN
theorem g_isNr {r : Addr} (h : Q (.bl false) H) : qIsN (.ref r) .non H Q := ⟨rfl, by rw [decide_eq_false (by intro e; cases e)]; exact h⟩
theorem g_isNn (h : Q (.bl true) H) : qIsN .non .non H Q := ⟨rfl, h⟩
theorem g_isNb {b : Bool} (h : Q (.bl false) H) : qIsN (.bl b) .non H Q := ⟨rfl, by rw [decide_eq_false (by intro e; cases e)]; exact h⟩
theorem g_isNs {z : Str} (h : Q (.bl false) H) : qIsN (.str z) .non H Q := ⟨rfl, by rw [decide_eq_false (by intro e; cases e)]; exact h⟩
theorem g_isNi {i : Int} (h : Q (.bl false) H) : qIsN (.int i) .non H Q := ⟨rfl, by rw [decide_eq_false (by intro e; cases e)]; exact h⟩
end

theorem g_v0 {v : V} {r : L2.St} {H : Hp} {Q : VK} (h : Q v H) : tVar 0 (some v :: r) H Q := ⟨v, rfl, h⟩
theorem g_n0 {y : Option V} {v : V} {r : L2.St} {H : Hp} {N : L2.St → Hp → Prop} (h : N (some v :: r) H) : gName 0 v (y :: r) H N := h
theorem g_v1 {x0 : Option V} {v : V} {r : L2.St} {H : Hp} {Q : VK} (h : Q v H) : tVar 1 (x0 :: some v :: r) H Q := ⟨v, rfl, h⟩
theorem g_n1 {x0 y : Option V} {v : V} {r : L2.St} {H : Hp} {N : L2.St → Hp → Prop} (h : N (x0 :: some v :: r) H) : gName 1 v (x0 :: y :: r) H N := h
theorem g_v2 {x0 x1 : Option V} {v : V} {r : L2.St} {H : Hp} {Q : VK} (h : Q v H) : tVar 2 (x0 :: x1 :: some v :: r) H Q := ⟨v, rfl, h⟩
theorem g_n2 {x0 x1 y : Option V} {v : V} {r : L2.St} {H : Hp} {N : L2.St → Hp → Prop} (h : N (x0 :: x1 :: some v :: r) H) : gName 2 v (x0 :: x1 :: y :: r) H N := h
theorem g_v3 {x0 x1 x2 : Option V} {v : V} {r : L2.St} {H : Hp} {Q : VK} (h : Q v H) : tVar 3 (x0 :: x1 :: x2 :: some v :: r) H Q := ⟨v, rfl, h⟩
theorem g_n3 {x0 x1 x2 y : Option V} {v : V} {r : L2.St} {H : Hp} {N : L2.St → Hp → Prop} (h : N (x0 :: x1 :: x2 :: some v :: r) H) : gName 3 v (x0 :: x1 :: x2 :: y :: r) H N := h
theorem g_v4 {x0 x1 x2 x3 : Option V} {v : V} {r : L2.St} {H : Hp} {Q : VK} (h : Q v H) : tVar 4 (x0 :: x1 :: x2 :: x3 :: some v :: r) H Q := ⟨v, rfl, h⟩
theorem g_n4 {x0 x1 x2 x3 y : Option V} {v : V} {r : L2.St} {H : Hp} {N : L2.St → Hp → Prop} (h : N (x0 :: x1 :: x2 :: x3 :: some v :: r) H) : gName 4 v (x0 :: x1 :: x2 :: x3 :: y :: r) H N := h
theorem g_v5 {x0 x1 x2 x3 x4 : Option V} {v : V} {r : L2.St} {H : Hp} {Q : VK} (h : Q v H) : tVar 5 (x0 :: x1 :: x2 :: x3 :: x4 :: some v :: r) H Q := ⟨v, rfl, h⟩
theorem g_n5 {x0 x1 x2 x3 x4 y : Option V} {v : V} {r : L2.St} {H : Hp} {N : L2.St → Hp → Prop} (h : N (x0 :: x1 :: x2 :: x3 :: x4 :: some v :: r) H) : gName 5 v (x0 :: x1 :: x2 :: x3 :: x4 :: y :: r) H N := h
theorem g_v6 {x0 x1 x2 x3 x4 x5 : Option V} {v : V} {r : L2.St} {H : Hp} {Q : VK} (h : Q v H) : tVar 6 (x0 :: x1 :: x2 :: x3 :: x4 :: x5 :: some v :: r) H Q := ⟨v, rfl, h⟩
theorem g_n6 {x0 x1 x2 x3 x4 x5 y : Option V} {v : V} {r : L2.St} {H : Hp} {N : L2.St → Hp → Prop} (h : N (x0 :: x1 :: x2 :: x3 :: x4 :: x5 :: some v :: r) H) : gName 6 v (x0 :: x1 :: x2 :: x3 :: x4 :: x5 :: y :: r) H N := h
theorem g_v7 {x0 x1 x2 x3 x4 x5 x6 : Option V} {v : V} {r : L2.St} {H : Hp} {Q : VK} (h : Q v H) : tVar 7 (x0 :: x1 :: x2 :: x3 :: x4 :: x5 :: x6 :: some v :: r) H Q := ⟨v, rfl, h⟩
theorem g_n7 {x0 x1 x2 x3 x4 x5 x6 y : Option V} {v : V} {r : L2.St} {H : Hp} {N : L2.St → Hp → Prop} (h : N (x0 :: x1 :: x2 :: x3 :: x4 :: x5 :: x6 :: some v :: r) H) : gName 7 v (x0 :: x1 :: x2 :: x3 :: x4 :: x5 :: x6 :: y :: r) H N := h
theorem g_v8 {x0 x1 x2 x3 x4 x5 x6 x7 : Option V} {v : V} {r : L2.St} {H : Hp} {Q : VK} (h : Q v H) : tVar 8 (x0 :: x1 :: x2 :: x3 :: x4 :: x5 :: x6 :: x7 :: some v :: r) H Q := ⟨v, rfl, h⟩
theorem g_n8 {x0 x1 x2 x3 x4 x5 x6 x7 y : Option V} {v : V} {r : L2.St} {H : Hp} {N : L2.St → Hp → Prop} (h : N (x0 :: x1 :: x2 :: x3 :: x4 :: x5 :: x6 :: x7 :: some v :: r) H) : gName 8 v (x0 :: x1 :: x2 :: x3 :: x4 :: x5 :: x6 :: x7 :: y :: r) H N := h
theorem g_v9 {x0 x1 x2 x3 x4 x5 x6 x7 x8 : Option V} {v : V} {r : L2.St} {H : Hp} {Q : VK} (h : Q v H) : tVar 9 (x0 :: x1 :: x2 :: x3 :: x4 :: x5 :: x6 :: x7 :: x8 :: some v :: r) H Q := ⟨v, rfl, h⟩
theorem g_n9 {x0 x1 x2 x3 x4 x5 x6 x7 x8 y : Option V} {v : V} {r : L2.St} {H : Hp} {N : L2.St → Hp → Prop} (h : N (x0 :: x1 :: x2 :: x3 :: x4 :: x5 :: x6 :: x7 :: x8 :: some v :: r) H) : gName 9 v (x0 :: x1 :: x2 :: x3 :: x4 :: x5 :: x6 :: x7 :: x8 :: y :: r) H N := h
theorem g_v10 {x0 x1 x2 x3 x4 x5 x6 x7 x8 x9 : Option V} {v : V} {r : L2.St} {H : Hp} {Q : VK} (h : Q v H) : tVar 10 (x0 :: x1 :: x2 :: x3 :: x4 :: x5 :: x6 :: x7 :: x8 :: x9 :: some v :: r) H Q := ⟨v, rfl, h⟩
theorem g_n10 {x0 x1 x2 x3 x4 x5 x6 x7 x8 x9 y : Option V} {v : V} {r : L2.St} {H : Hp} {N : L2.St → Hp → Prop} (h : N (x0 :: x1 :: x2 :: x3 :: x4 :: x5 :: x6 :: x7 :: x8 :: x9 :: some v :: r) H) : gName 10 v (x0 :: x1 :: x2 :: x3 :: x4 :: x5 :: x6 :: x7 :: x8 :: x9 :: y :: r) H N := h
theorem g_v11 {x0 x1 x2 x3 x4 x5 x6 x7 x8 x9 x10 : Option V} {v : V} {r : L2.St} {H : Hp} {Q : VK} (h : Q v H) : tVar 11 (x0 :: x1 :: x2 :: x3 :: x4 :: x5 :: x6 :: x7 :: x8 :: x9 :: x10 :: some v :: r) H Q := ⟨v, rfl, h⟩
theorem g_n11 {x0 x1 x2 x3 x4 x5 x6 x7 x8 x9 x10 y : Option V} {v : V} {r : L2.St} {H : Hp} {N : L2.St → Hp → Prop} (h : N (x0 :: x1 :: x2 :: x3 :: x4 :: x5 :: x6 :: x7 :: x8 :: x9 :: x10 :: some v :: r) H) : gName 11 v (x0 :: x1 :: x2 :: x3 :: x4 :: x5 :: x6 :: x7 :: x8 :: x9 :: x10 :: y :: r) H N := h
theorem g_v12 {x0 x1 x2 x3 x4 x5 x6 x7 x8 x9 x10 x11 : Option V} {v : V} {r : L2.St} {H : Hp} {Q : VK} (h : Q v H) : tVar 12 (x0 :: x1 :: x2 :: x3 :: x4 :: x5 :: x6 :: x7 :: x8 :: x9 :: x10 :: x11 :: some v :: r) H Q := ⟨v, rfl, h⟩
theorem g_n12 {x0 x1 x2 x3 x4 x5 x6 x7 x8 x9 x10 x11 y : Option V} {v : V} {r : L2.St} {H : Hp} {N : L2.St → Hp → Prop} (h : N (x0 :: x1 :: x2 :: x3 :: x4 :: x5 :: x6 :: x7 :: x8 :: x9 :: x10 :: x11 :: some v :: r) H) : gName 12 v (x0 :: x1 :: x2 :: x3 :: x4 :: x5 :: x6 :: x7 :: x8 :: x9 :: x10 :: x11 :: y :: r) H N := h
theorem g_v13 {x0 x1 x2 x3 x4 x5 x6 x7 x8 x9 x10 x11 x12 : Option V} {v : V} {r : L2.St} {H : Hp} {Q : VK} (h : Q v H) : tVar 13 (x0 :: x1 :: x2 :: x3 :: x4 :: x5 :: x6 :: x7 :: x8 :: x9 :: x10 :: x11 :: x12 :: some v :: r) H Q := ⟨v, rfl, h⟩
theorem g_n13 {x0 x1 x2 x3 x4 x5 x6 x7 x8 x9 x10 x11 x12 y : Option V} {v : V} {r : L2.St} {H : Hp} {N : L2.St → Hp → Prop} (h : N (x0 :: x1 :: x2 :: x3 :: x4 :: x5 :: x6 :: x7 :: x8 :: x9 :: x10 :: x11 :: x12 :: some v :: r) H) : gName 13 v (x0 :: x1 :: x2 :: x3 :: x4 :: x5 :: x6 :: x7 :: x8 :: x9 :: x10 :: x11 :: x12 :: y :: r) H N := h
theorem g_v14 {x0 x1 x2 x3 x4 x5 x6 x7 x8 x9 x10 x11 x12 x13 : Option V} {v : V} {r : L2.St} {H : Hp} {Q : VK} (h : Q v H) : tVar 14 (x0 :: x1 :: x2 :: x3 :: x4 :: x5 :: x6 :: x7 :: x8 :: x9 :: x10 :: x11 :: x12 :: x13 :: some v :: r) H Q := ⟨v, rfl, h⟩
theorem g_n14 {x0 x1 x2 x3 x4 x5 x6 x7 x8 x9 x10 x11 x12 x13 y : Option V} {v : V} {r : L2.St} {H : Hp} {N : L2.St → Hp → Prop} (h : N (x0 :: x1 :: x2 :: x3 :: x4 :: x5 :: x6 :: x7 :: x8 :: x9 :: x10 :: x11 :: x12 :: x13 :: some v :: r) H) : gName 14 v (x0 :: x1 :: x2 :: x3 :: x4 :: x5 :: x6 :: x7 :: x8 :: x9 :: x10 :: x11 :: x12 :: x13 :: y :: r) H N := h
theorem g_v15 {x0 x1 x2 x3 x4 x5 x6 x7 x8 x9 x10 x11 x12 x13 x14 : Option V} {v : V} {r : L2.St} {H : Hp} {Q : VK} (h : Q v H) : tVar 15 (x0 :: x1 :: x2 :: x3 :: x4 :: x5 :: x6 :: x7 :: x8 :: x9 :: x10 :: x11 :: x12 :: x13 :: x14 :: some v :: r) H Q := ⟨v, rfl, h⟩
theorem g_n15 {x0 x1 x2 x3 x4 x5 x6 x7 x8 x9 x10 x11 x12 x13 x14 y : Option V} {v : V} {r : L2.St} {H : Hp} {N : L2.St → Hp → Prop} (h : N (x0 :: x1 :: x2 :: x3 :: x4 :: x5 :: x6 :: x7 :: x8 :: x9 :: x10 :: x11 :: x12 :: x13 :: x14 :: some v :: r) H) : gName 15 v (x0 :: x1 :: x2 :: x3 :: x4 :: x5 :: x6 :: x7 :: x8 :: x9 :: x10 :: x11 :: x12 :: x13 :: x14 :: y :: r) H N := h

theorem g_ixL0 {K : PySem.W.Frag} {p : Addr} {H : Hp} {Q : VK} {v : V} {r : List V} (h : SqL K H p (v :: r)) (q : Q v H) : rIxL K (.ref p) (.int 0) H Q := g_ixL h (atI_nat (j := 0) rfl) q
theorem g_setL0 {p : Addr} {H : Hp} {N : Hp → Prop} {y : V} {v : V} {r : List V} (h : H p = some (.lst (y :: r))) (q : N (upd H p (.lst (v :: r)))) : rSetL (.ref p) (.int 0) v H N :=
  ⟨p, _, 0, 0, rfl, rfl, h, by unfold ixN; rw [if_pos (by omega), if_pos (by simp only [List.length_cons]; omega)]; rfl, q⟩
theorem g_ixL1 {K : PySem.W.Frag} {p : Addr} {H : Hp} {Q : VK} {x0 : V} {v : V} {r : List V} (h : SqL K H p (x0 :: v :: r)) (q : Q v H) : rIxL K (.ref p) (.int 1) H Q := g_ixL h (atI_nat (j := 1) rfl) q
theorem g_setL1 {p : Addr} {H : Hp} {N : Hp → Prop} {x0 y : V} {v : V} {r : List V} (h : H p = some (.lst (x0 :: y :: r))) (q : N (upd H p (.lst (x0 :: v :: r)))) : rSetL (.ref p) (.int 1) v H N :=
  ⟨p, _, 1, 1, rfl, rfl, h, by unfold ixN; rw [if_pos (by omega), if_pos (by simp only [List.length_cons]; omega)]; rfl, q⟩
theorem g_ixL2 {K : PySem.W.Frag} {p : Addr} {H : Hp} {Q : VK} {x0 x1 : V} {v : V} {r : List V} (h : SqL K H p (x0 :: x1 :: v :: r)) (q : Q v H) : rIxL K (.ref p) (.int 2) H Q := g_ixL h (atI_nat (j := 2) rfl) q
theorem g_setL2 {p : Addr} {H : Hp} {N : Hp → Prop} {x0 x1 y : V} {v : V} {r : List V} (h : H p = some (.lst (x0 :: x1 :: y :: r))) (q : N (upd H p (.lst (x0 :: x1 :: v :: r)))) : rSetL (.ref p) (.int 2) v H N :=
  ⟨p, _, 2, 2, rfl, rfl, h, by unfold ixN; rw [if_pos (by omega), if_pos (by simp only [List.length_cons]; omega)]; rfl, q⟩
theorem g_ixL3 {K : PySem.W.Frag} {p : Addr} {H : Hp} {Q : VK} {x0 x1 x2 : V} {v : V} {r : List V} (h : SqL K H p (x0 :: x1 :: x2 :: v :: r)) (q : Q v H) : rIxL K (.ref p) (.int 3) H Q := g_ixL h (atI_nat (j := 3) rfl) q
theorem g_setL3 {p : Addr} {H : Hp} {N : Hp → Prop} {x0 x1 x2 y : V} {v : V} {r : List V} (h : H p = some (.lst (x0 :: x1 :: x2 :: y :: r))) (q : N (upd H p (.lst (x0 :: x1 :: x2 :: v :: r)))) : rSetL (.ref p) (.int 3) v H N :=
  ⟨p, _, 3, 3, rfl, rfl, h, by unfold ixN; rw [if_pos (by omega), if_pos (by simp only [List.length_cons]; omega)]; rfl, q⟩
theorem g_ixL4 {K : PySem.W.Frag} {p : Addr} {H : Hp} {Q : VK} {x0 x1 x2 x3 : V} {v : V} {r : List V} (h : SqL K H p (x0 :: x1 :: x2 :: x3 :: v :: r)) (q : Q v H) : rIxL K (.ref p) (.int 4) H Q := g_ixL h (atI_nat (j := 4) rfl) q
theorem g_setL4 {p : Addr} {H : Hp} {N : Hp → Prop} {x0 x1 x2 x3 y : V} {v : V} {r : List V} (h : H p = some (.lst (x0 :: x1 :: x2 :: x3 :: y :: r))) (q : N (upd H p (.lst (x0 :: x1 :: x2 :: x3 :: v :: r)))) : rSetL (.ref p) (.int 4) v H N :=
  ⟨p, _, 4, 4, rfl, rfl, h, by unfold ixN; rw [if_pos (by omega), if_pos (by simp only [List.length_cons]; omega)]; rfl, q⟩
theorem g_ixL5 {K : PySem.W.Frag} {p : Addr} {H : Hp} {Q : VK} {x0 x1 x2 x3 x4 : V} {v : V} {r : List V} (h : SqL K H p (x0 :: x1 :: x2 :: x3 :: x4 :: v :: r)) (q : Q v H) : rIxL K (.ref p) (.int 5) H Q := g_ixL h (atI_nat (j := 5) rfl) q
theorem g_setL5 {p : Addr} {H : Hp} {N : Hp → Prop} {x0 x1 x2 x3 x4 y : V} {v : V} {r : List V} (h : H p = some (.lst (x0 :: x1 :: x2 :: x3 :: x4 :: y :: r))) (q : N (upd H p (.lst (x0 :: x1 :: x2 :: x3 :: x4 :: v :: r)))) : rSetL (.ref p) (.int 5) v H N :=
  ⟨p, _, 5, 5, rfl, rfl, h, by unfold ixN; rw [if_pos (by omega), if_pos (by simp only [List.length_cons]; omega)]; rfl, q⟩
theorem g_ixL6 {K : PySem.W.Frag} {p : Addr} {H : Hp} {Q : VK} {x0 x1 x2 x3 x4 x5 : V} {v : V} {r : List V} (h : SqL K H p (x0 :: x1 :: x2 :: x3 :: x4 :: x5 :: v :: r)) (q : Q v H) : rIxL K (.ref p) (.int 6) H Q := g_ixL h (atI_nat (j := 6) rfl) q
theorem g_setL6 {p : Addr} {H : Hp} {N : Hp → Prop} {x0 x1 x2 x3 x4 x5 y : V} {v : V} {r : List V} (h : H p = some (.lst (x0 :: x1 :: x2 :: x3 :: x4 :: x5 :: y :: r))) (q : N (upd H p (.lst (x0 :: x1 :: x2 :: x3 :: x4 :: x5 :: v :: r)))) : rSetL (.ref p) (.int 6) v H N :=
  ⟨p, _, 6, 6, rfl, rfl, h, by unfold ixN; rw [if_pos (by omega), if_pos (by simp only [List.length_cons]; omega)]; rfl, q⟩
theorem g_ixL7 {K : PySem.W.Frag} {p : Addr} {H : Hp} {Q : VK} {x0 x1 x2 x3 x4 x5 x6 : V} {v : V} {r : List V} (h : SqL K H p (x0 :: x1 :: x2 :: x3 :: x4 :: x5 :: x6 :: v :: r)) (q : Q v H) : rIxL K (.ref p) (.int 7) H Q := g_ixL h (atI_nat (j := 7) rfl) q
theorem g_setL7 {p : Addr} {H : Hp} {N : Hp → Prop} {x0 x1 x2 x3 x4 x5 x6 y : V} {v : V} {r : List V} (h : H p = some (.lst (x0 :: x1 :: x2 :: x3 :: x4 :: x5 :: x6 :: y :: r))) (q : N (upd H p (.lst (x0 :: x1 :: x2 :: x3 :: x4 :: x5 :: x6 :: v :: r)))) : rSetL (.ref p) (.int 7) v H N :=
  ⟨p, _, 7, 7, rfl, rfl, h, by unfold ixN; rw [if_pos (by omega), if_pos (by simp only [List.length_cons]; omega)]; rfl, q⟩
theorem g_ixL8 {K : PySem.W.Frag} {p : Addr} {H : Hp} {Q : VK} {x0 x1 x2 x3 x4 x5 x6 x7 : V} {v : V} {r : List V} (h : SqL K H p (x0 :: x1 :: x2 :: x3 :: x4 :: x5 :: x6 :: x7 :: v :: r)) (q : Q v H) : rIxL K (.ref p) (.int 8) H Q := g_ixL h (atI_nat (j := 8) rfl) q
theorem g_setL8 {p : Addr} {H : Hp} {N : Hp → Prop} {x0 x1 x2 x3 x4 x5 x6 x7 y : V} {v : V} {r : List V} (h : H p = some (.lst (x0 :: x1 :: x2 :: x3 :: x4 :: x5 :: x6 :: x7 :: y :: r))) (q : N (upd H p (.lst (x0 :: x1 :: x2 :: x3 :: x4 :: x5 :: x6 :: x7 :: v :: r)))) : rSetL (.ref p) (.int 8) v H N :=
  ⟨p, _, 8, 8, rfl, rfl, h, by unfold ixN; rw [if_pos (by omega), if_pos (by simp only [List.length_cons]; omega)]; rfl, q⟩
theorem g_ixL9 {K : PySem.W.Frag} {p : Addr} {H : Hp} {Q : VK} {x0 x1 x2 x3 x4 x5 x6 x7 x8 : V} {v : V} {r : List V} (h : SqL K H p (x0 :: x1 :: x2 :: x3 :: x4 :: x5 :: x6 :: x7 :: x8 :: v :: r)) (q : Q v H) : rIxL K (.ref p) (.int 9) H Q := g_ixL h (atI_nat (j := 9) rfl) q
theorem g_setL9 {p : Addr} {H : Hp} {N : Hp → Prop} {x0 x1 x2 x3 x4 x5 x6 x7 x8 y : V} {v : V} {r : List V} (h : H p = some (.lst (x0 :: x1 :: x2 :: x3 :: x4 :: x5 :: x6 :: x7 :: x8 :: y :: r))) (q : N (upd H p (.lst (x0 :: x1 :: x2 :: x3 :: x4 :: x5 :: x6 :: x7 :: x8 :: v :: r)))) : rSetL (.ref p) (.int 9) v H N :=
  ⟨p, _, 9, 9, rfl, rfl, h, by unfold ixN; rw [if_pos (by omega), if_pos (by simp only [List.length_cons]; omega)]; rfl, q⟩

theorem Chg.put {a : Addr} {H H1 : Hp} {o : HO} (h : Chg a H H1) : Chg a H (L2.upd H1 a o) := h.trans Chg.upd
theorem Chg.lay {a p : Addr} {H H1 : Hp} {o : HO} (h : Chg a H H1) (hp : H1 p = none) : Chg a H (L2.upd H1 p o) := h.trans (Chg.new hp)
theorem Chg.putn {a D : Addr} {H H1 : Hp} {o : HO} (h : Chg a H H1) (hD : H D = none) : Chg a H (L2.upd H1 D o) := fun b u n e => by
  rw [upd_ne (ne_of_none e hD)]
  exact h b u n e
theorem Same.lay {p : Addr} {H H1 : Hp} {o : HO} (h : Same H H1) (hp : H1 p = none) : Same H (L2.upd H1 p o) := h.trans (same_new hp)

theorem g_cut {t u : TS} {D : Ends} {σ : L2.St} {H : Hp} (Mid : L2.St → Hp → Prop) (h1 : t { D with nx := Mid } σ H) (h2 : ∀ σ' H', Mid σ' H' → u D σ' H') : C8.tCut t u D σ H := ⟨Mid, h1, h2⟩
/-! ### heaps -/
theorem h_same {H : Hp} {a : Addr} {o u : HO} (e : o = u) : upd H a o a = some u := by rw [upd_same, e]
theorem h_ne {H : Hp} {a b : Addr} {o u : HO} (n : b ≠ a) (h : H b = some u) : upd H a o b = some u := by rw [upd_ne n]; exact h
theorem h_chg {H H' : Hp} {a b : Addr} {u : HO} (c : Chg a H H') (n : b ≠ a) (h : H b = some u) : H' b = some u := c b u n h
theorem h_sm {H H' : Hp} {b : Addr} {u : HO} (c : Same H H') (h : H b = some u) : H' b = some u := c b u h
/-! ### the rules that speak of the written part, with that part as a letter -/
section
variable {X : Cx} {K : PySem.W.Frag}
def qIx (K : PySem.W.Frag) : R2 := fun x y H Q => ∃ p xs i v, x = .ref p ∧ y = .int i ∧ (SqL K H p xs ∨ SqT K H p xs) ∧ atI xs i = some v ∧ Q v H
theorem k_ix (e : X.K = K) : IxR X (qIx K) := by
  subst e
  intro value slice pins s σ H x y v u Q I rx ry h hs
  obtain ⟨p, xs, i, z, e1, e2, h1 | h1, h2, h3⟩ := h
  · exact ix_list value slice pins s σ H x y v u Q I rx ry ⟨p, xs, i, z, e1, e2, h1, h2, h3⟩ hs
  · exact ix_tup value slice pins s σ H x y v u Q I rx ry ⟨p, xs, i, z, e1, e2, h1, h2, h3⟩ hs
theorem g_qix {H : Hp} {Q : VK} {p : Addr} {xs : List V} {i : Int} {v : V} (h : SqL K H p xs ∨ SqT K H p xs) (e : atI xs i = some v) (q : Q v H) : qIx K (.ref p) (.int i) H Q := ⟨p, xs, i, v, rfl, rfl, h, e, q⟩
theorem k_in (e : X.K = K) : OpR X (compareOp .In) (rIn K false) := by subst e; exact op_in_seq
theorem k_notin (e : X.K = K) : OpR X (compareOp .NotIn) (rIn K true) := by subst e; exact op_notIn_seq
theorem k_isi (e : X.K = K) : CallR X (.builtin "isinstance") (rIsi K) := by subst e; exact call_isi
theorem k_isiT (e : X.K = K) : CallR X (.builtin "isinstance") (rIsiT K) := by subst e; exact call_isiT
theorem k_len (e : X.K = K) : CallR X (.builtin "len") (qLen K) := by subst e; exact c_len
theorem k_list (e : X.K = K) : CallR X (.type "list") (qList K) := by subst e; exact c_list
theorem k_tuple (e : X.K = K) : CallR X (.type "tuple") (qTuple K) := by subst e; exact c_tuple
theorem k_sum (e : X.K = K) (c : X.calm = true) : CallR X (.builtin "sum") (rSum K) := by subst e; exact cr_sum c
theorem k_any (e : X.K = K) (c : X.calm = true) : CallR X (.builtin "any") (rAny K) := by subst e; exact cr_any c
theorem k_all (e : X.K = K) (c : X.calm = true) : CallR X (.builtin "all") (rAll K) := by subst e; exact cr_all c
theorem k_max (e : X.K = K) (c : X.calm = true) : CallR X (.builtin "max") (rMax K) := by subst e; exact cr_max c
theorem k_min (e : X.K = K) (c : X.calm = true) : CallR X (.builtin "min") (rMin K) := by subst e; exact cr_min c
theorem k_sl (e : X.K = K) : SlR X (rSlL K) := by subst e; exact sl_list
theorem k_index (e : X.K = K) : MtR X "list.index" (rIndex K) := by subst e; exact mt_index
theorem k_eqD (e : X.K = K) (hu : X.A.units + 64 < cLine) : OpR X (compareOp .Eq) (rEqD K) := by subst e; exact op_eqD hu
theorem k_neD (e : X.K = K) (hu : X.A.units + 64 < cLine) : OpR X (compareOp .NotEq) (rNeD K) := by subst e; exact op_neD hu
theorem k_pil {tg l : Expr} {tl : TE} (e : X.K = K) (hl : PE X l tl) : PI X tg l (iList K tl) := by subst e; exact pi_list hl
theorem k_pit {tg l : Expr} {tl : TE} (e : X.K = K) (hl : PE X l tl) : PI X tg l (iTup K tl) := by subst e; exact pi_tup hl
theorem k_pgt {es : List Expr} {k : Nat} {t : TGs} {n : Nat} {pos : Pos} (e : X.K = K) (hc : X.calm = true) (h : PGs X es t)
    (hn : (assignEach es X.env).length = n) (hst : (assignEach es X.env).findIdx? (·.1) = none) : PG X (.Tuple es k pos) (gTup K n t) := by subst e; exact pg_tup hc h hn hst
end
theorem g_qix0 {K : PySem.W.Frag} {p : Addr} {H : Hp} {Q : VK} {v : V} {r : List V} (h : SqL K H p (v :: r) ∨ SqT K H p (v :: r)) (q : Q v H) : qIx K (.ref p) (.int 0) H Q := g_qix h (atI_nat (j := 0) rfl) q
theorem g_qix1 {K : PySem.W.Frag} {p : Addr} {H : Hp} {Q : VK} {x0 : V} {v : V} {r : List V} (h : SqL K H p (x0 :: v :: r) ∨ SqT K H p (x0 :: v :: r)) (q : Q v H) : qIx K (.ref p) (.int 1) H Q := g_qix h (atI_nat (j := 1) rfl) q
theorem g_qix2 {K : PySem.W.Frag} {p : Addr} {H : Hp} {Q : VK} {x0 x1 : V} {v : V} {r : List V} (h : SqL K H p (x0 :: x1 :: v :: r) ∨ SqT K H p (x0 :: x1 :: v :: r)) (q : Q v H) : qIx K (.ref p) (.int 2) H Q := g_qix h (atI_nat (j := 2) rfl) q
theorem g_qix3 {K : PySem.W.Frag} {p : Addr} {H : Hp} {Q : VK} {x0 x1 x2 : V} {v : V} {r : List V} (h : SqL K H p (x0 :: x1 :: x2 :: v :: r) ∨ SqT K H p (x0 :: x1 :: x2 :: v :: r)) (q : Q v H) : qIx K (.ref p) (.int 3) H Q := g_qix h (atI_nat (j := 3) rfl) q
theorem g_qix4 {K : PySem.W.Frag} {p : Addr} {H : Hp} {Q : VK} {x0 x1 x2 x3 : V} {v : V} {r : List V} (h : SqL K H p (x0 :: x1 :: x2 :: x3 :: v :: r) ∨ SqT K H p (x0 :: x1 :: x2 :: x3 :: v :: r)) (q : Q v H) : qIx K (.ref p) (.int 4) H Q := g_qix h (atI_nat (j := 4) rfl) q
theorem g_qix5 {K : PySem.W.Frag} {p : Addr} {H : Hp} {Q : VK} {x0 x1 x2 x3 x4 : V} {v : V} {r : List V} (h : SqL K H p (x0 :: x1 :: x2 :: x3 :: x4 :: v :: r) ∨ SqT K H p (x0 :: x1 :: x2 :: x3 :: x4 :: v :: r)) (q : Q v H) : qIx K (.ref p) (.int 5) H Q := g_qix h (atI_nat (j := 5) rfl) q
theorem g_qix6 {K : PySem.W.Frag} {p : Addr} {H : Hp} {Q : VK} {x0 x1 x2 x3 x4 x5 : V} {v : V} {r : List V} (h : SqL K H p (x0 :: x1 :: x2 :: x3 :: x4 :: x5 :: v :: r) ∨ SqT K H p (x0 :: x1 :: x2 :: x3 :: x4 :: x5 :: v :: r)) (q : Q v H) : qIx K (.ref p) (.int 6) H Q := g_qix h (atI_nat (j := 6) rfl) q
theorem g_qix7 {K : PySem.W.Frag} {p : Addr} {H : Hp} {Q : VK} {x0 x1 x2 x3 x4 x5 x6 : V} {v : V} {r : List V} (h : SqL K H p (x0 :: x1 :: x2 :: x3 :: x4 :: x5 :: x6 :: v :: r) ∨ SqT K H p (x0 :: x1 :: x2 :: x3 :: x4 :: x5 :: x6 :: v :: r)) (q : Q v H) : qIx K (.ref p) (.int 7) H Q := g_qix h (atI_nat (j := 7) rfl) q
theorem g_qix8 {K : PySem.W.Frag} {p : Addr} {H : Hp} {Q : VK} {x0 x1 x2 x3 x4 x5 x6 x7 : V} {v : V} {r : List V} (h : SqL K H p (x0 :: x1 :: x2 :: x3 :: x4 :: x5 :: x6 :: x7 :: v :: r) ∨ SqT K H p (x0 :: x1 :: x2 :: x3 :: x4 :: x5 :: x6 :: x7 :: v :: r)) (q : Q v H) : qIx K (.ref p) (.int 8) H Q := g_qix h (atI_nat (j := 8) rfl) q
theorem g_qix9 {K : PySem.W.Frag} {p : Addr} {H : Hp} {Q : VK} {x0 x1 x2 x3 x4 x5 x6 x7 x8 : V} {v : V} {r : List V} (h : SqL K H p (x0 :: x1 :: x2 :: x3 :: x4 :: x5 :: x6 :: x7 :: x8 :: v :: r) ∨ SqT K H p (x0 :: x1 :: x2 :: x3 :: x4 :: x5 :: x6 :: x7 :: x8 :: v :: r)) (q : Q v H) : qIx K (.ref p) (.int 9) H Q := g_qix h (atI_nat (j := 9) rfl) q
theorem chg_same {H H' : Hp} {D : Addr} (c : Chg D H H') (hD : H D = none) : Same H H' := fun b o e => c b o (ne_of_none e hD) e
theorem seqT_same {K : PySem.W.Frag} {H H' : Hp} {a : Addr} {xs : List V} (s : Same H H') (h : SqT K H a xs) : SqT K H' a xs := by
  rcases h with (h | ⟨o, h⟩) | h
  · exact .inl (.inl (s _ _ h))
  · exact .inl (.inr ⟨o, s _ _ h⟩)
  · exact .inr h
theorem lt_same {K : PySem.W.Frag} {H H' : Hp} {a : Addr} {xs : List V} (s : Same H H') (h : SqL K H a xs ∨ SqT K H a xs) : SqL K H' a xs ∨ SqT K H' a xs := by
  rcases h with h | h
  · exact .inl (s.seq h)
  · exact .inr (seqT_same s h)
/-! ### a conditional expression as a test -/
def tIfT (t ta tb : TT) : TT := fun σ H Q => t σ H fun k H1 => if k = true then ta σ H1 Q else tb σ H1 Q
theorem pt_ifE {X : Cx} {c a b : Expr} {pos : Pos} {t ta tb : TT} (hc : PT X c t) (ha : PT X a ta) (hb : PT X b tb) : PT X (.IfExp c a b pos) (tIfT t ta tb) := by
  refine ⟨fun pins s σ H Q I hw => PyProof.Rows.isTrue_IfExp (thn (hc.run pins s σ H _ I hw) fun k s1 ⟨H1, I1, q1⟩ => ?_)⟩
  cases k with
  | true => exact ha.run pins s1 σ H1 Q I1 (by simpa using q1)
  | false => exact hb.run pins s1 σ H1 Q I1 (by simpa using q1)
theorem g_ifT {t ta tb : TT} {σ : L2.St} {H : Hp} {Q : Bool → Hp → Prop} (h : t σ H fun k H1 => if k = true then ta σ H1 Q else tb σ H1 Q) : tIfT t ta tb σ H Q := h
/-! ### list(range(..)) -/
section
variable {σ : L2.St} {H : Hp} {Q : VK}
def RgNew (Q : VK) (a b : Int) (H1 : Hp) : Prop := RgOk a b ∧ ∀ q, H1 q = none → Q (.ref q) (upd H1 q (.lst (rgV a b)))
theorem g_lstRg {te : L2.St → Hp → (Int → Int → Hp → Prop) → Prop} (h : te σ H (RgNew Q)) : tLstRg te σ H Q := h
def Rg1R (R : Int → Int → Hp → Prop) (x : V) (H : Hp) : Prop := ∃ n, x = .int n ∧ R 0 n H
theorem g_tRg1 {ta : TE} {R : Int → Int → Hp → Prop} (h : ta σ H (Rg1R R)) : tRg1 ta σ H R := h
theorem g_rg1R {R : Int → Int → Hp → Prop} {n : Int} (h : R 0 n H) : Rg1R R (.int n) H := ⟨n, rfl, h⟩
theorem g_rgNew {a b : Int} (c : 0 ≤ a ∧ b ≤ 16777216 ∧ a ≤ 16777216 ∧ 0 ≤ b) (h : ∀ q, H q = none → Q (.ref q) (upd H q (.lst (rgV a b)))) : RgNew Q a b H := ⟨.of_le c.1 c.2.1 c.2.2.1 c.2.2.2, h⟩
end
/-! ### lists of ints compared -/
def dInts (ns : List Int) : List PyData := ns.map PyData.int
theorem dp_ints {K : PySem.W.Frag} {H : Hp} : ∀ ns : List Int, DpAll K H (ns.map V.int) (dInts ns)
  | [] => .nil
  | n :: r => .cons (.int n) (dp_ints r)
theorem can_ints : ∀ ns : List Int, (PyData.list (dInts ns)).canLay0 = true ∧ PyData.depthAll (dInts ns) = 0
  | [] => ⟨rfl, rfl⟩
  | n :: r => by
    obtain ⟨h1, h2⟩ := can_ints r
    refine ⟨?_, ?_⟩
    · show (PyData.canLay0 (.int n) && PyData.canLayAll0 (dInts r)) = true
      rw [show PyData.canLayAll0 (dInts r) = true from h1]
      rfl
    · show max (PyData.depth (.int n)) (PyData.depthAll (dInts r)) = 0
      rw [h2]
      rfl
theorem shaped_ints (ns : List Int) : SeqAt.shaped (.list (dInts ns)) = true := by
  obtain ⟨h1, h2⟩ := can_ints ns
  unfold SeqAt.shaped
  rw [h1, Bool.true_and]
  exact decide_eq_true (by show PyData.depthAll (dInts ns) + 1 ≤ 64; rw [h2]; decide)
theorem eqv_ints : ∀ a b : List Int, PyData.eqvAll (dInts a) (dInts b) = decide (a = b)
  | [], [] => rfl
  | [], _ :: _ => rfl
  | _ :: _, [] => rfl
  | x :: a, y :: b => by
    show (x == y && PyData.eqvAll (dInts a) (dInts b)) = decide (x :: a = y :: b)
    rw [eqv_ints a b]
    by_cases e : x = y
    · subst e; simp
    · simp [e]
theorem g_eqDI {K : PySem.W.Frag} {H : Hp} {Q : VK} {p q : Addr} {a b : List Int} (h1 : SqL K H p (a.map V.int)) (h2 : SqL K H q (b.map V.int)) (h : Q (.bl (decide (a = b))) H) : rEqD K (.ref p) (.ref q) H Q :=
  ⟨.list (dInts a), .list (dInts b), .lst h1 (dp_ints a), .lst h2 (dp_ints b), shaped_ints a, shaped_ints b, by
    have e : PyData.eqv (.list (dInts a)) (.list (dInts b)) = decide (a = b) := eqv_ints a b
    rw [e]; exact h⟩
theorem g_neDI {K : PySem.W.Frag} {H : Hp} {Q : VK} {p q : Addr} {a b : List Int} (h1 : SqL K H p (a.map V.int)) (h2 : SqL K H q (b.map V.int)) (h : Q (.bl (!decide (a = b))) H) : rNeD K (.ref p) (.ref q) H Q :=
  ⟨.list (dInts a), .list (dInts b), .lst h1 (dp_ints a), .lst h2 (dp_ints b), shaped_ints a, shaped_ints b, by
    have e : PyData.eqv (.list (dInts a)) (.list (dInts b)) = decide (a = b) := eqv_ints a b
    rw [e]; exact h⟩
theorem sqL_new {K : PySem.W.Frag} {H : Hp} {p a : Addr} {o : HO} {xs : List V} (hp : H p = none) (h : SqL K H a xs) : SqL K (upd H p o) a xs := (same_new hp).seq h
theorem sqT_new {K : PySem.W.Frag} {H : Hp} {p a : Addr} {o : HO} {xs : List V} (hp : H p = none) (h : SqT K H a xs) : SqT K (upd H p o) a xs := seqT_same (same_new hp) h
theorem sqL_sm {K : PySem.W.Frag} {H H' : Hp} {a : Addr} {xs : List V} (s : L2.Same H H') (h : SqL K H a xs) : SqL K H' a xs := s.seq h
theorem tyL {K : PySem.W.Frag} {H : Hp} {a : Addr} {xs : List V} (h : SqL K H a xs) : TyX K H (.ref a) (.type "list") := by
  rcases h with (h | ⟨o, h⟩) | ⟨o, its, n, h, c, _⟩
  · exact .base (.lst h)
  · exact .base (.frz h)
  · exact .kList h c
theorem tyT {K : PySem.W.Frag} {H : Hp} {a : Addr} {xs : List V} (h : SqT K H a xs) : TyX K H (.ref a) (.type "tuple") := by
  rcases h with (h | ⟨o, h⟩) | ⟨o, its, n, h, c, _⟩
  · exact .base (.tup h)
  · exact .fTuple h
  · exact .kTuple h c
/-! ### isinstance -/
theorem kb_int_int : kitB "int" "int" = some true := by decide +kernel
theorem kb_int_str : kitB "int" "str" = some false := by decide +kernel
theorem kb_int_bool : kitB "int" "bool" = some false := by decide +kernel
theorem kb_int_list : kitB "int" "list" = some false := by decide +kernel
theorem kb_int_tuple : kitB "int" "tuple" = some false := by decide +kernel
theorem kb_str_int : kitB "str" "int" = some false := by decide +kernel
theorem kb_str_str : kitB "str" "str" = some true := by decide +kernel
theorem kb_str_bool : kitB "str" "bool" = some false := by decide +kernel
theorem kb_str_list : kitB "str" "list" = some false := by decide +kernel
theorem kb_str_tuple : kitB "str" "tuple" = some false := by decide +kernel
theorem kb_bool_int : kitB "bool" "int" = some true := by decide +kernel
theorem kb_bool_str : kitB "bool" "str" = some false := by decide +kernel
theorem kb_bool_bool : kitB "bool" "bool" = some true := by decide +kernel
theorem kb_bool_list : kitB "bool" "list" = some false := by decide +kernel
theorem kb_bool_tuple : kitB "bool" "tuple" = some false := by decide +kernel
theorem kb_NoneType_int : kitB "NoneType" "int" = some false := by decide +kernel
theorem kb_NoneType_str : kitB "NoneType" "str" = some false := by decide +kernel
theorem kb_NoneType_bool : kitB "NoneType" "bool" = some false := by decide +kernel
theorem kb_NoneType_list : kitB "NoneType" "list" = some false := by decide +kernel
theorem kb_NoneType_tuple : kitB "NoneType" "tuple" = some false := by decide +kernel
theorem kb_list_int : kitB "list" "int" = some false := by decide +kernel
theorem kb_list_str : kitB "list" "str" = some false := by decide +kernel
theorem kb_list_bool : kitB "list" "bool" = some false := by decide +kernel
theorem kb_list_list : kitB "list" "list" = some true := by decide +kernel
theorem kb_list_tuple : kitB "list" "tuple" = some false := by decide +kernel
theorem kb_tuple_int : kitB "tuple" "int" = some false := by decide +kernel
theorem kb_tuple_str : kitB "tuple" "str" = some false := by decide +kernel
theorem kb_tuple_bool : kitB "tuple" "bool" = some false := by decide +kernel
theorem kb_tuple_list : kitB "tuple" "list" = some false := by decide +kernel
theorem kb_tuple_tuple : kitB "tuple" "tuple" = some true := by decide +kernel
theorem g_isi {K : PySem.W.Frag} {H : Hp} {Q : VK} {x : V} {t T : String} {b : Bool} (ty : TyX K H x (.type t)) (hb : kitB t T = some b) (h : Q (.bl b) H) : rIsi K [x, .ty T] H Q :=
  ⟨x, .ty T, .type t, .type T, b, rfl, .ty T, ty, kit_ty hb, h⟩
theorem g_isiT2 {K : PySem.W.Frag} {H : Hp} {Q : VK} {x : V} {tp : Addr} {t T1 T2 : String} {b1 b2 : Bool} (e : H tp = some (.tup [.ty T1, .ty T2])) (ty : TyX K H x (.type t)) (h1 : kitB t T1 = some b1) (h2 : kitB t T2 = some b2)
    (h : Q (.bl (b1 || b2)) H) : rIsiT K [x, .ref tp] H Q := by
  refine ⟨x, tp, [.ty T1, .ty T2], .type t, [.type T1, .type T2], b1 || b2, rfl, e, .cons (.ty _) (.cons (.ty _) .nil), ty, ?_, h⟩
  refine kitAny_cons (kit_ty h1) (fun z => ?_) (fun z => by rw [z]; rfl)
  rw [z, Bool.false_or]
  exact kitAny_cons (kit_ty h2) (fun z => by rw [z]; exact kitAny_nil) (fun z => z)
/-! ### comprehensions and loops -/
section
variable {K : PySem.W.Frag} {g : TG} {tt : TT} {te : TE} {tb : TS} {vs : List Nat} {D0 : Ends} {σ σ0 : L2.St} {H : Hp} {Q : VK} {J : It} {a : Addr}
/-- one turn of a comprehension: the item x, the block's slots σ0, the list at D so far -/
def TurnD (D : Addr) (N : Hp → Prop) (y : V) (H4 : Hp) : Prop := ∃ acc, H4 D = some (.lst acc) ∧ acc.length < sizeLine ∧ N (upd H4 D (.lst (acc ++ [y])))
def TurnC (te : TE) (σ2 : L2.St) (D : Addr) (N : Hp → Prop) (b : Bool) (H3 : Hp) : Prop := if b = true then te σ2 H3 (TurnD D N) else N H3
def TurnB (tt : TT) (te : TE) (vs : List Nat) (σ0 : L2.St) (D : Addr) (N : Hp → Prop) (σ2 : L2.St) (H2 : Hp) : Prop := wipe σ2 vs = σ0 ∧ tt σ2 H2 (TurnC te σ2 D N)
def Turn1 (g : TG) (tt : TT) (te : TE) (vs : List Nat) (σ0 : L2.St) (D : Addr) (x : V) (H : Hp) (N : Hp → Prop) : Prop := g x σ0 H (TurnB tt te vs σ0 D N)
theorem g_turn1 {D : Addr} {x : V} {N : Hp → Prop} (h : g x σ0 H (TurnB tt te vs σ0 D N)) : Turn1 g tt te vs σ0 D x H N := h
theorem g_turnB {D : Addr} {N : Hp → Prop} (e : wipe σ vs = σ0) (h : tt σ H (TurnC te σ D N)) : TurnB tt te vs σ0 D N σ H := ⟨e, h⟩
theorem g_turnCt {D : Addr} {N : Hp → Prop} (h : te σ H (TurnD D N)) : TurnC te σ D N true H := by unfold TurnC; rw [if_pos rfl]; exact h
theorem g_turnC {D : Addr} {N : Hp → Prop} {p : Prop} [Decidable p] (h1 : p → te σ H (TurnD D N)) (h2 : ¬ p → N H) : TurnC te σ D N (decide p) H := by
  unfold TurnC
  exact g_iteD h1 h2
theorem g_turnCb {D : Addr} {N : Hp → Prop} {b : Bool} (h1 : b = true → te σ H (TurnD D N)) (h2 : b = false → N H) : TurnC te σ D N b H := by
  unfold TurnC
  exact g_iteBB h1 h2
theorem g_turnD {D : Addr} {N : Hp → Prop} {y : V} {acc : List V} (h : H D = some (.lst acc)) (l : acc.length ≤ 1000) (q : N (upd H D (.lst (acc ++ [y])))) : TurnD D N y H := ⟨acc, h, small1000 l, q⟩
def LcG (J : It) (g : TG) (tt : TT) (te : TE) (vs : List Nat) (σ : L2.St) (Q : VK) (H1 : Hp) : Prop := ∀ D, H1 D = none → ∃ W : Nat → Nat → Hp → Prop,
  (∃ m, W 0 m (upd H1 D (.lst []))) ∧ ∀ i m H, W i m H → (J.stop i H ∧ Q (.ref D) H) ∨ (J.go i H ∧ ∃ Nx : Hp → Prop,
    (∀ H', Nx H' → ∃ m', m' < m ∧ W (i + 1) m' H') ∧ ∀ x H', J.yld i H x H' → Turn1 g tt te vs (wipe σ vs) D x H' Nx)
theorem g_lc {wi : TI} (h : wi σ H fun J H1 => LcG J g tt te vs σ Q H1) : tLc wi g tt te vs σ H Q := h
def ForG (J : It) (g : TG) (tb : TS) (D : Ends) (σ : L2.St) (H1 : Hp) : Prop := ∃ W : Nat → Nat → L2.St → Hp → Prop, (∃ m, W 0 m σ H1) ∧ ∀ i m σ H, W i m σ H →
  (J.stop i H ∧ D.nx σ H) ∨ (J.go i H ∧ ∃ N : L2.St → Hp → Prop, (∀ σ' H', N σ' H' → ∃ m', m' < m ∧ W (i + 1) m' σ' H') ∧
    ∀ x H', J.yld i H x H' → g x σ H' fun σ2 H2 => tb { D with nx := N, ct := N, bk := D.nx } σ2 H2)
theorem g_for {wi : TI} (h : wi σ H fun J H1 => ForG J g tb D0 σ H1) : tFor wi g tb D0 σ H := h
variable {R : It → Hp → Prop}
def Rng1R (ws : List V) (R : It → Hp → Prop) (H : Hp) : Prop := ∃ j : Int, ws = [.int j] ∧ -(2 ^ 62) ≤ j ∧ j < 2 ^ 62 ∧ R (Itr 0 j.toNat) H
theorem g_iRng1 {ta : TA} (h : ta σ H fun ws H1 => Rng1R ws R H1) : iRng1 ta σ H R := h
theorem g_rng1 {v : Int} (c : -(2 ^ 62) ≤ v ∧ v < 2 ^ 62) (h : R (Itr 0 v.toNat) H) : Rng1R [.int v] R H := ⟨v, rfl, c.1, c.2, h⟩
def Rng2R (ws : List V) (R : It → Hp → Prop) (H : Hp) : Prop := ∃ i j : Int, ws = [.int i, .int j] ∧ (-(2 ^ 62) ≤ i ∧ i < 2 ^ 62 ∧ -(2 ^ 62) ≤ j ∧ j < 2 ^ 62) ∧ R (Itr i (j - i).toNat) H
theorem g_iRng2 {ta : TA} (h : ta σ H fun ws H1 => Rng2R ws R H1) : iRng2 ta σ H R := h
theorem g_rng2 {i j : Int} (c : -(2 ^ 62) ≤ i ∧ i < 2 ^ 62 ∧ -(2 ^ 62) ≤ j ∧ j < 2 ^ 62) (h : R (Itr i (j - i).toNat) H) : Rng2R [.int i, .int j] R H := ⟨i, j, rfl, c, h⟩
def LstR (K : PySem.W.Frag) (x : V) (R : It → Hp → Prop) (H : Hp) : Prop := ∃ a, x = .ref a ∧ (∃ xs, SqL K H a xs) ∧ R (Itl K a) H
theorem g_iList {tl : TE} (h : tl σ H fun x H1 => LstR K x R H1) : iList K tl σ H R := h
theorem g_lstR {xs : List V} (c : SqL K H a xs) (h : R (Itl K a) H) : LstR K (.ref a) R H := ⟨a, rfl, ⟨xs, c⟩, h⟩
def TupR (K : PySem.W.Frag) (x : V) (R : It → Hp → Prop) (H : Hp) : Prop := ∃ a, x = .ref a ∧ (∃ xs, SqT K H a xs) ∧ R (Itt K a) H
theorem g_iTup {tl : TE} (h : tl σ H fun x H1 => TupR K x R H1) : iTup K tl σ H R := h
theorem g_tupR {xs : List V} (c : SqT K H a xs) (h : R (Itt K a) H) : TupR K (.ref a) R H := ⟨a, rfl, ⟨xs, c⟩, h⟩
def WhB (tb : TS) (D : Ends) (W : Nat → L2.St → Hp → Prop) (m : Nat) (σ : L2.St) (b : Bool) (H1 : Hp) : Prop :=
  if b = true then ∃ N : L2.St → Hp → Prop, (∀ σ' H', N σ' H' → ∃ m', m' < m ∧ W m' σ' H') ∧ tb { D with nx := N, ct := N, bk := D.nx } σ H1 else D.nx σ H1
theorem g_while {c : TT} (W : Nat → L2.St → Hp → Prop) (h0 : ∃ m, W m σ H) (hs : ∀ m σ H, W m σ H → c σ H (WhB tb D0 W m σ)) : tWhile c tb D0 σ H := ⟨W, h0, hs⟩
theorem g_whB {W : Nat → L2.St → Hp → Prop} {m : Nat} {p : Prop} [Decidable p] (h1 : p → tb { D0 with nx := fun σ' H' => ∃ m', m' < m ∧ W m' σ' H', ct := fun σ' H' => ∃ m', m' < m ∧ W m' σ' H', bk := D0.nx } σ H)
    (h2 : ¬ p → D0.nx σ H) : WhB tb D0 W m σ (decide p) H := by
  unfold WhB
  exact g_iteD (fun h => ⟨_, fun _ _ z => z, h1 h⟩) h2
/-- a comprehension over a range: Pv by the turns done and the heap, the new list at D -/
theorem lcR {lo : Int} {n : Nat} (hw : wipe σ vs = σ0) (h : ∀ D, H D = none → ∃ Pv : Nat → Hp → Prop, Pv 0 (upd H D (.lst [])) ∧
    (∀ (i : Nat) (H' : Hp), i < n → Pv i H' → Turn1 g tt te vs σ0 D (.int (lo + i)) H' (Pv (i + 1))) ∧ ∀ H', Pv n H' → Q (.ref D) H') : LcG (Itr lo n) g tt te vs σ Q H := by
  subst hw
  intro D hD
  obtain ⟨Pv, h0, hs, hd⟩ := h D hD
  refine ⟨fun i m H => m = n - i ∧ i ≤ n ∧ Pv i H, ⟨n, by simp, Nat.zero_le _, h0⟩, ?_⟩
  rintro i m H ⟨rfl, hi, p⟩
  rcases Nat.lt_or_ge i n with hlt | hge
  · exact .inr ⟨hlt, Pv (i + 1), fun H' p' => ⟨n - (i + 1), by omega, rfl, hlt, p'⟩, fun x H' ⟨e1, e2⟩ => by subst e1 e2; exact hs i _ hlt p⟩
  · have e : i = n := by omega
    subst e
    exact .inl ⟨Nat.le_refl _, hd H p⟩
theorem lcL {xs : List V} (hw : wipe σ vs = σ0) (h : ∀ D, H D = none → ∃ Pv : Nat → Hp → Prop, Pv 0 (upd H D (.lst [])) ∧ (∀ i H', i ≤ xs.length → Pv i H' → SqL K H' a xs) ∧
    (∀ (i : Nat) (x : V) (H' : Hp), xs[i]? = some x → Pv i H' → Turn1 g tt te vs σ0 D x H' (Pv (i + 1))) ∧ ∀ H', Pv xs.length H' → Q (.ref D) H') : LcG (Itl K a) g tt te vs σ Q H := by
  subst hw
  intro D hD
  obtain ⟨Pv, h0, hl, hs, hd⟩ := h D hD
  refine ⟨fun i m H => m = xs.length - i ∧ i ≤ xs.length ∧ Pv i H, ⟨xs.length, by simp, Nat.zero_le _, h0⟩, ?_⟩
  rintro i m H ⟨rfl, hi, p⟩
  have q := hl i H hi p
  rcases Nat.lt_or_ge i xs.length with hlt | hge
  · exact .inr ⟨⟨xs, xs[i], q, by simp [hlt]⟩, Pv (i + 1), fun H' p' => ⟨xs.length - (i + 1), by omega, rfl, hlt, p'⟩, fun x H' ⟨e1, e2⟩ => by subst e1; exact hs i x _ (e2 xs q) p⟩
  · have e : i = xs.length := by omega
    subst e
    exact .inl ⟨⟨xs, q, Nat.le_refl _⟩, hd H p⟩
/-- over a list of ints, nothing changed within a turn: p tells which items are kept, f what stands for them -/
theorem lcP {S : List Int} {f : Int → V} {p : Int → Bool} (hw : wipe σ vs = σ0) (hS : SqL K H a (S.map V.int)) (hl : S.length ≤ 1000)
    (turn : ∀ (D : Addr) (acc : List V) (x : Int) (N : Hp → Prop), H D = none → x ∈ S → (p x = true → TurnD D N (f x) (upd H D (.lst acc))) → (p x = false → N (upd H D (.lst acc))) →
      Turn1 g tt te vs σ0 D (.int x) (upd H D (.lst acc)) N)
    (q : ∀ D, H D = none → Q (.ref D) (upd H D (.lst ((S.filter p).map f)))) : LcG (Itl K a) g tt te vs σ Q H := by
  refine lcL (xs := S.map V.int) hw fun D hD => ⟨fun i H' => H' = upd H D (.lst (((S.take i).filter p).map f)), rfl, ?_, ?_, ?_⟩
  · rintro i H' _ rfl
    exact (same_new hD).seq hS
  · rintro i x H' hx rfl
    rw [List.getElem?_map, Option.map_eq_some_iff] at hx
    obtain ⟨n, hn, rfl⟩ := hx
    have hlt : i < S.length := (List.getElem?_eq_some_iff.mp hn).1
    refine turn D _ n _ hD (List.mem_of_getElem? hn) (fun hp => g_turnD upd_same ?_ ?_) (fun hp => ?_)
    · rw [List.length_map]
      have h1 := List.length_filter_le p (S.take i)
      rw [List.length_take] at h1
      omega
    · dsimp only
      rw [upd_upd, List.take_add_one, hn, List.filter_append, List.map_append]
      simp [hp]
    · dsimp only
      rw [List.take_add_one, hn, List.filter_append]
      simp [hp]
  · rintro H' rfl
    rw [List.length_map, List.take_length]
    exact q D hD
/-- the same over range(n) -/
theorem lcPR {n : Nat} {f : Nat → V} {p : Nat → Bool} (hw : wipe σ vs = σ0) (hl : n ≤ 1000)
    (turn : ∀ (D : Addr) (acc : List V) (x : Nat) (N : Hp → Prop), H D = none → x < n → (p x = true → TurnD D N (f x) (upd H D (.lst acc))) → (p x = false → N (upd H D (.lst acc))) →
      Turn1 g tt te vs σ0 D (.int (0 + (x : Int))) (upd H D (.lst acc)) N)
    (q : ∀ D, H D = none → Q (.ref D) (upd H D (.lst (((List.range n).filter p).map f)))) : LcG (Itr 0 n) g tt te vs σ Q H := by
  refine lcR hw fun D hD => ⟨fun i H' => H' = upd H D (.lst (((List.range i).filter p).map f)), rfl, ?_, ?_⟩
  · rintro i H' hi rfl
    refine turn D _ i _ hD hi (fun hp => g_turnD upd_same ?_ ?_) (fun hp => ?_)
    · rw [List.length_map]
      have h1 := List.length_filter_le p (List.range i)
      rw [List.length_range] at h1
      omega
    · dsimp only
      rw [upd_upd, List.range_succ, List.filter_append, List.map_append]
      simp [hp]
    · dsimp only
      rw [List.range_succ, List.filter_append]
      simp [hp]
  · rintro H' rfl
    exact q D hD
theorem forL {xs : List V} (h : ∃ Pv : Nat → L2.St → Hp → Prop, Pv 0 σ H ∧ (∀ i σ' H', i ≤ xs.length → Pv i σ' H' → SqL K H' a xs) ∧
    (∀ i x σ' H', xs[i]? = some x → Pv i σ' H' → g x σ' H' fun σ2 H2 => tb { D0 with nx := Pv (i + 1), ct := Pv (i + 1), bk := D0.nx } σ2 H2) ∧ ∀ σ' H', Pv xs.length σ' H' → D0.nx σ' H') : ForG (Itl K a) g tb D0 σ H := by
  obtain ⟨Pv, h0, hl, hs, hd⟩ := h
  exact for_list Pv h0 hl hs hd
theorem forR {lo : Int} {n : Nat} (h : ∃ Pv : Nat → L2.St → Hp → Prop, Pv 0 σ H ∧
    (∀ i σ' H', i < n → Pv i σ' H' → g (.int (lo + i)) σ' H' fun σ2 H2 => tb { D0 with nx := Pv (i + 1), ct := Pv (i + 1), bk := D0.nx } σ2 H2) ∧ ∀ σ' H', Pv n σ' H' → D0.nx σ' H') : ForG (Itr lo n) g tb D0 σ H := by
  obtain ⟨Pv, h0, hs, hd⟩ := h
  exact for_range Pv h0 hs hd
theorem forT {xs : List V} (h : ∃ Pv : Nat → L2.St → Hp → Prop, Pv 0 σ H ∧ (∀ i σ' H', i ≤ xs.length → Pv i σ' H' → SqT K H' a xs) ∧
    (∀ i x σ' H', xs[i]? = some x → Pv i σ' H' → g x σ' H' fun σ2 H2 => tb { D0 with nx := Pv (i + 1), ct := Pv (i + 1), bk := D0.nx } σ2 H2) ∧ ∀ σ' H', Pv xs.length σ' H' → D0.nx σ' H') : ForG (Itt K a) g tb D0 σ H := by
  obtain ⟨Pv, h0, hl, hs, hd⟩ := h
  exact for_tup Pv h0 hl hs hd
theorem g_app {p : Addr} {xs : List V} {y : V} {H : Hp} {Q : VK} (h : H p = some (.lst xs)) (hl : xs.length < 1000) (q : Q .non (upd H p (.lst (xs ++ [y])))) : rAppend (.ref p) [y] H Q :=
  ⟨p, xs, y, rfl, rfl, h, small1000 (Nat.le_of_lt hl), q⟩
/-- a turn that changes nothing: the item is kept if p says so, and f of it stands in the new list -/
def Pure1 (g : TG) (tt : TT) (te : TE) (vs : List Nat) (σ0 : L2.St) (p : V → Bool) (f : V → V) (x : V) (H : Hp) : Prop :=
  g x σ0 H fun σ2 H2 => wipe σ2 vs = σ0 ∧ tt σ2 H2 fun b H3 => if b = true then te σ2 H3 fun y H4 => p x = true ∧ y = f x ∧ H4 = H else p x = false ∧ H3 = H
end
theorem pure_step {H : Hp} {D : Addr} {xs : List V} {i : Nat} {x y : V} {p : V → Bool} {f : V → V} (hx : xs[i]? = some x) (hp : p x = true) (hy : y = f x) (hl : xs.length ≤ 1000) :
    ∃ acc, (upd H D (.lst (((xs.take i).filter p).map f))) D = some (.lst acc) ∧ acc.length < sizeLine ∧
      upd (upd H D (.lst (((xs.take i).filter p).map f))) D (.lst (acc ++ [y])) = upd H D (.lst (((xs.take (i + 1)).filter p).map f)) := by
  refine ⟨_, upd_same, small1000 ?_, ?_⟩
  · rw [List.length_map]
    have h1 := List.length_filter_le p (xs.take i)
    have h2 : (xs.take i).length ≤ xs.length := by rw [List.length_take]; exact Nat.min_le_right _ _
    omega
  · rw [upd_upd, List.take_add_one, hx, List.filter_append, List.map_append, hy]
    simp [hp]
theorem pure_skip {H : Hp} {D : Addr} {xs : List V} {i : Nat} {x : V} {p : V → Bool} {f : V → V} (hx : xs[i]? = some x) (hp : p x = false) :
    upd H D (.lst (((xs.take i).filter p).map f)) = upd H D (.lst (((xs.take (i + 1)).filter p).map f)) := by
  rw [List.take_add_one, hx, List.filter_append]
  simp [hp]
theorem cxK {CX : CXT} {P : Program} {w : World} {K : PySem.W.Frag} {mg : Str → Option Value} {base : Heap} {N : List Str} {q : Str} {sc : Scope} {f : Addr} {cdv : Value}
    {A : PySem.Around} {outer : List PySem.Env} {s : Shared} {H : Hp} {E : XK} : (cxOf CX P w K mg base N q sc f cdv A outer s H E).K = K := rfl
end Q

set_option Elab.async false
set_option linter.all false
set_option maxRecDepth 100000
namespace PySem
/-! enumerate(t) over a tuple -/
set_option maxHeartbeats 1000000 in
theorem qMeetsEnum {v : Value} {o : Obj} {HH : Heap → Prop} (B : Begins v o HH) :
    Meets (Builtin.«enumerate.__new__» ⟨[.type "enumerate", v], []⟩) (fun _ R s => HH s.heap ∧ R (.ok (.ret (.ref (s.heap.push o).objs.size)))
      { s with heap := (s.heap.push o).push { cls := .type "enumerate", data := .fields #[.none, .bool false, .ref s.heap.objs.size, rawInt 0, .none, .none] } }) :=
  .of_wp fun prog w A R s hyp => by
    obtain ⟨hp, gg, dd, tk, os⟩ := s
    obtain ⟨hstart, hyp⟩ := hyp
    have hsub := sub_enumerate
    have goIter : ∀ {A' : Around} {E : Value → Shared → Prop} {Q : Value → Shared → Prop}, Q (.ref hp.objs.size) ⟨hp.push o, gg, dd, tk, os⟩ → wpAny (model prog w) A' (pyIter v) Q E ⟨hp, gg, dd, tk, os⟩ :=
      fun z => B.iter prog w _ _ ⟨hp, gg, dd, tk, os⟩ _ hstart z
    wp_walk using goIter
    refine wpAny_stack_any fun st => wpAny_pure ?_
    split
    · rename_i c _ _ _ _ _
      cases (c == Value.type "enumerate") <;> (wp_walk using goIter; exact ⟨_, rfl, hyp⟩)
    · wp_walk using goIter
      exact ⟨_, rfl, hyp⟩
theorem qEnumBegin {prog : Program} {w : World} {A : Around} {E : Value → Shared → Prop} {s : Shared} {v : Value} {o : Obj} {HH : Heap → Prop} {Q : Value → Shared → Prop} (B : Begins v o HH) (hb : HH s.heap)
    (done : ∀ h', IsEnum h' (s.heap.objs.size + 1) s.heap.objs.size 0 .none → h'.get? s.heap.objs.size = some o →
      (∀ b o, s.heap.get? b = some o → h'.get? b = some o) → Q (.ref (s.heap.objs.size + 1)) { s with heap := h' }) :
    wpAny (model prog w) A (call (.type "enumerate") [v]) Q E s := by
  refine callType_new F.called_enumerate (by decide) (F.typeCall_enumerate_1 _) (F.newCall_enumerate_1 _) (fun obj => F.args_object_init_2 obj _) F.entry_enumerate_new (qMeetsEnum B) ⟨hb, ?_⟩
  have size1 : (s.heap.push o).objs.size = s.heap.objs.size + 1 := Heap.size_push ..
  show _ ∧ _
  rw [size1]
  have isE : IsEnum ((s.heap.push o).push { cls := .type "enumerate", data := .fields #[.none, .bool false, .ref s.heap.objs.size, rawInt 0, .none, .none] }) (s.heap.objs.size + 1) s.heap.objs.size 0 .none := by
    have z := Heap.get?_push_size (s.heap.push o) (o := { cls := .type "enumerate", data := .fields #[.none, .bool false, .ref s.heap.objs.size, rawInt 0, .none, .none] }) rfl
    rw [size1] at z
    exact z
  exact ⟨⟨_, isE, rfl⟩, done _ isE (Heap.get?_push_of_some _ (Heap.get?_push_size _ B.free)) fun b o x => Heap.get?_push_of_some _ (Heap.get?_push_of_some _ x)⟩
theorem qEnumEnd {prog : Program} {w : World} {A : Around} {E : Value → Shared → Prop} {s : Shared} {e it t : Addr} {i : Nat} {k : Int} {items : Array Value} {old : Value} {Q : Option Value → Shared → Prop} (hh : A.handled = none)
    (isE : IsEnum s.heap e it k old) (iti : s.heap.IsTupleIter it t i) (ht : s.heap.IsTuple t items) (no : items[i]? = none)
    (done : ∀ h', Heap.ExtBut it s.heap h' → Q none { s with heap := h' }) : wpAny (model prog w) A (pyNext (.ref e)) Q E s := by
  have tyE : s.TypeIs (.ref e) "enumerate" := ⟨_, isE, rfl⟩
  unfold pyNext
  refine wpAny_bind (wpAny_attempt (wpAny_callSpecial?_slot (name := Str.ofString "__next__") tyE F.slot_enumerate_next ?_))
  refine wpAny_call_entry F.slot_enumerate_next tyE F.entry_enumerate_next ?_ (F.args_enumerate_next_1 _)
  show wpAny _ _ (field (.ref e) 2 >>= _) _ _ s
  refine wpAny_bind (wpAny_field isE rfl (x := .ref it) rfl (wpAny_bind ?_))
  refine wpAny_nextOf_tuple_end (show A.in1.handled = none from hh) iti ht no fun h' x eb ⟨ox, hox, cx⟩ => ?_
  refine wpAny_bind (wpAny_isInstance (T := "StopIteration") (b := true) ⟨ox, hox, cx⟩ isSubtype_stop ?_)
  exact wpAny_pure (done _ eb)
end PySem
namespace Q
open PySem PySem.Spec L2 RZ
/-- the turns of enumerate over a tuple: a new pair each -/
def Iet (K : PySem.W.Frag) (a : Addr) : It :=
  ⟨fun i H => ∃ (xs : List V) (x : V), SqT K H a xs ∧ xs[i]? = some x,
    fun i H v H' => ∃ T x, v = .ref T ∧ H T = none ∧ H' = upd H T (.tup [.int (i : Nat), x]) ∧ ∀ xs, SqT K H a xs → xs[i]? = some x,
    fun i H => ∃ xs : List V, SqT K H a xs ∧ xs.length ≤ i⟩
theorem turnT {P : Program} {w : World} {K : PySem.W.Frag} {elts : List Expr} {kk : Nat} {tpos : Pos} (a e it : Addr) :
    L2.Turn P w K (.Tuple elts kk tpos) (Iet K a) [e, it] e (fun i h => (∃ old, IsEnum h e it ((i : Nat) : Int) old) ∧ h.IsTupleIter it a i ∧ e ≠ it) where
  mem := List.mem_cons_self ..
  obj := fun i h st b hb => by
    obtain ⟨⟨old, isE⟩, ⟨oi, hoi, _, hdi⟩, _⟩ := st
    rcases List.mem_cons.mp hb with z | z
    · exact ⟨_, by rw [z]; exact isE, fun v q => by cases q⟩
    · have z2 : b = it := by simpa using z
      exact ⟨oi, by rw [z2]; exact hoi, fun v q => by rw [hdi] at q; cases q⟩
  keep := fun i h h' ⟨⟨old, isE⟩, iti, ne⟩ k => ⟨⟨old, k e (by simp) _ isE⟩, iti.at fun o q => k it (by simp) o q, ne⟩
  item := by
    intro X hP hw hK hc i pins s σ H E I hf st hg
    subst hP hw hK
    obtain ⟨⟨old, isE⟩, iti, ne⟩ := st
    obtain ⟨xs, x, hq, hx⟩ := hg
    obtain ⟨its, rv, p, hz⟩ := I.tuple hq
    obtain ⟨u, hu, ru⟩ := rv.get hx
    have hT : s.heap.IsTuple a its.toArray := p
    have sz_e : e < s.heap.objs.size := Heap.lt_size isE
    have sz_i : it < s.heap.objs.size := by obtain ⟨_, q, _⟩ := iti; exact Heap.lt_size q
    have a_it : a ≠ it := fun z => by
      obtain ⟨o1, e1, c1, _⟩ := iti
      obtain ⟨o2, e2, c2, _⟩ := hT
      rw [z, e1] at e2
      cases e2
      rw [c1] at c2
      injection c2 with c3
      exact absurd c3 (by decide)
    have a_e : e ≠ a := fun z => by
      obtain ⟨o2, e2, c2, _⟩ := hT
      rw [← z, isE] at e2
      cases e2
      injection c2 with c3
      exact absurd c3 (by decide)
    have D := Draws.tuple (prog := X.prog) (w := X.w) (A := X.A.in1) (show X.A.in1.handled = none from I.ok.hd hc) it a a_it its.toArray
    have ilt : i < its.toArray.size := by
      have z := List.getElem?_eq_some_iff.mp hu
      rw [List.size_toArray]
      exact z.1
    refine wpAny_pyNext_enum_itemD D isE ⟨iti, hT⟩ ilt ne (by simp [a_e, ne]) fun y h' tk hy ho st' hTup hsz hk => ?_
    have ey : y = u := by
      have z : its.toArray[i]? = some u := by simpa using hu
      rw [z] at hy
      exact (Option.some.inj hy).symm
    subst ey
    refine ⟨_, rfl, wpAny_letOwnedTupleGo_enum (s := { s with heap := h', toks := tk + 1 }) ho fun h'' he' sb => ?_⟩
    have hT2 : h''.get? s.heap.objs.size = some { cls := .type "tuple", data := .seq #[.int i tk, y] } := (sb.2 _ (Nat.ne_of_gt sz_e)).trans hTup
    have new : ObjOk X.prog X.w (upd H s.heap.objs.size (.tup [.int (i : Nat), x])) h'' s.heap.objs.size (.tup [.int (i : Nat), x]) :=
      ⟨by show 2 ≤ sizeLine; decide, [.int i tk, y], .cons ⟨_, rfl⟩ (.cons ru .nil), ⟨_, hT2, rfl, _, rfl⟩⟩
    have I1 : Inv X pins σ (upd H s.heap.objs.size (.tup [.int (i : Nat), x])) { s with heap := h'', toks := tk + 1 } :=
      I.turnedNew (ch := [e, it]) (fun b ob hb q => (sb.2 b (fun z => hb (by simp [z]))).trans (hk b ob (fun z => hb (by simp [z])) (fun z => hb (by simp [z])) q)) hf (Nat.le_refl _) new
    refine ⟨.ref s.heap.objs.size, _, I1, rfl, ⟨_, x, rfl, I.hok.fresh (Nat.le_refl _), rfl, fun ys hy => by rw [I.tuple_inj hy hq]; exact hx⟩,
      ⟨⟨y, ?_⟩, st'.1.at fun o q => (sb.2 it (Ne.symm ne)).trans q, ne⟩, fun b hb => ?_⟩
    · rw [show ((i + 1 : Nat) : Int) = (i : Int) + 1 from by omega]
      exact he'
    · have lt : b < s.heap.objs.size := by
        rcases List.mem_cons.mp hb with z | z
        · rw [z]; exact sz_e
        · rw [show b = it from by simpa using z]; exact sz_i
      rw [upd_ne (Nat.ne_of_lt lt)]
      exact (hf b hb).1
  done := by
    intro X hP hw hK hc i pins s σ H E I hf st hg
    subst hP hw hK
    obtain ⟨⟨old, isE⟩, iti, ne⟩ := st
    obtain ⟨xs, hq, hx⟩ := hg
    obtain ⟨its, rv, p, hz⟩ := I.tuple hq
    obtain ⟨f0, f1, f2, f3, f4, f5⟩ := hf it (by simp)
    have hT : s.heap.IsTuple a its.toArray := p
    have none_i : its.toArray[i]? = none := by
      have z := rv.length
      rw [List.getElem?_toArray]
      exact List.getElem?_eq_none_iff.mpr (by omega)
    exact qEnumEnd (I.ok.hd hc) isE iti hT none_i fun h' eb => ⟨rfl, I.turned (t' := s.toks) (fun b o hb q => eb b o hb q) f0 f1 f3 f4 f5⟩
  self := fun A i s Q E ⟨⟨_, isE⟩, _⟩ hQ => wpAny_pyIter_enum isE hQ
/-- enumerate over a list or a tuple -/
def iEn2 (K : PySem.W.Frag) (ta : TA) : TI := fun σ H R => ta σ H fun vs H1 => ∃ a xs, vs = [.ref a] ∧ ((SqL K H1 a xs ∧ R (Ite K a) H1) ∨ (SqT K H1 a xs ∧ R (Iet K a) H1))
theorem pi_en2 {X : Cx} {e : Expr} {ta : TA} {p pos tpos : Pos} {elts : List Expr} {kk : Nat} (hg : Gl X "enumerate") (hm : X.mg "enumerate" = none) (ha : PA X [e] ta) (hs : starEach [e] X.env = [(false, eval e X.env)] := by rfl) :
    PI X (.Tuple elts kk tpos) (.Call (.Name "enumerate" p) [e] [] pos) (iEn2 X.K ta) := by
  refine ⟨fun pins s σ H R I h => ?_⟩
  refine PyProof.Rows.Call_ (ld_blt I hg hm PyProof.Rows.boot_enumerate (PyProof.Rows.callWith_type1 (thn (ha.run pos pins s σ H _ I h) fun us s1 ⟨vs, H1, I1, r1, q1⟩ => ?_) hs rfl))
  obtain ⟨a, xs, ex, hq⟩ := q1
  subst ex
  cases r1 with
  | cons r rr =>
    cases rr
    cases r
    have places : ∀ b ∈ [s1.heap.objs.size + 1, s1.heap.objs.size], s1.heap.objs.size ≤ b := fun b hb => by
      rcases List.mem_cons.mp hb with z | z
      · omega
      · have z2 : b = s1.heap.objs.size := by simpa using z
        omega
    rcases hq with ⟨hq, q⟩ | ⟨hq, q⟩
    · obtain ⟨its, rv, p', hz⟩ := I1.list hq
      refine call_enumerate_list p'.isList fun h' he hit hsz hk => wpAny_pyIter_enum he ?_
      exact ⟨s1.heap.objs.size + 1, [s1.heap.objs.size + 1, s1.heap.objs.size], _, _, H1, rfl, I1.kept (t' := s1.toks) hk, turn_enum a (s1.heap.objs.size + 1) s1.heap.objs.size,
        ⟨⟨.none, he⟩, hit, Nat.succ_ne_self _⟩, fun b hb => I1.fpOk (places b hb) (I1.hok.fresh (places b hb)), q⟩
    · obtain ⟨its, rv, p', hz⟩ := I1.tuple hq
      have hT : s1.heap.IsTuple a its.toArray := p'
      refine qEnumBegin (begins_tuple a its.toArray) hT fun h' he hit hk => wpAny_pyIter_enum he ?_
      exact ⟨s1.heap.objs.size + 1, [s1.heap.objs.size + 1, s1.heap.objs.size], _, _, H1, rfl, I1.kept (t' := s1.toks) hk, turnT a (s1.heap.objs.size + 1) s1.heap.objs.size,
        ⟨⟨.none, he⟩, ⟨_, hit, rfl, rfl⟩, Nat.succ_ne_self _⟩, fun b hb => I1.fpOk (places b hb) (I1.hok.fresh (places b hb)), q⟩
theorem k_en2 {X : Cx} {K : PySem.W.Frag} {e : Expr} {ta : TA} {p pos tpos : Pos} {elts : List Expr} {kk : Nat} (ek : X.K = K) (hg : Gl X "enumerate") (hm : X.mg "enumerate" = none) (ha : PA X [e] ta) (hs : starEach [e] X.env = [(false, eval e X.env)] := by rfl) :
    PI X (.Tuple elts kk tpos) (.Call (.Name "enumerate" p) [e] [] pos) (iEn2 K ta) := by subst ek; exact pi_en2 hg hm ha hs
section
variable {K : PySem.W.Frag} {g : TG} {tt : TT} {te : TE} {vs : List Nat} {σ σ0 : L2.St} {H : Hp} {Q : VK} {a : Addr} {R : It → Hp → Prop} {N : L2.St → Hp → Prop}
def En2R (K : PySem.W.Frag) (vs : List V) (R : It → Hp → Prop) (H : Hp) : Prop := ∃ a xs, vs = [.ref a] ∧ ((SqL K H a xs ∧ R (Ite K a) H) ∨ (SqT K H a xs ∧ R (Iet K a) H))
theorem g_iEn2 {ta : TA} (h : ta σ H fun ws H1 => En2R K ws R H1) : iEn2 K ta σ H R := h
theorem g_en2L {xs : List V} (c : SqL K H a xs) (h : R (Ite K a) H) : En2R K [.ref a] R H := ⟨a, xs, rfl, .inl ⟨c, h⟩⟩
theorem g_en2T {xs : List V} (c : SqT K H a xs) (h : R (Iet K a) H) : En2R K [.ref a] R H := ⟨a, xs, rfl, .inr ⟨c, h⟩⟩
def En1R (K : PySem.W.Frag) (vs : List V) (R : It → Hp → Prop) (H : Hp) : Prop := ∃ a xs, vs = [.ref a] ∧ SqL K H a xs ∧ R (Ite K a) H
theorem g_iEnum {ta : TA} (h : ta σ H fun ws H1 => En1R K ws R H1) : iEnum K ta σ H R := h
theorem g_en1 {xs : List V} (c : SqL K H a xs) (h : R (Ite K a) H) : En1R K [.ref a] R H := ⟨a, xs, rfl, c, h⟩
theorem g_gTup {n : Nat} {t : TGs} {p : Addr} {xs : List V} (c : SqT K H p xs) (e : xs.length = n) (h : t xs σ H N) : gTup K n t (.ref p) σ H N := ⟨p, xs, rfl, c, e, h⟩
theorem g_gCons {t : TG} {u : TGs} {v : V} {r : List V} (h : t v σ H fun σ' H' => u r σ' H' N) : gCons t u (v :: r) σ H N := ⟨v, r, rfl, h⟩
theorem g_gNil (h : N σ H) : gNil [] σ H N := ⟨rfl, h⟩
theorem lcE {xs : List V} (hw : wipe σ vs = σ0) (h : ∀ D, H D = none → ∃ Pv : Nat → Hp → Prop, Pv 0 (upd H D (.lst [])) ∧ (∀ i H', i ≤ xs.length → Pv i H' → SqL K H' a xs) ∧
    (∀ (i : Nat) (x : V) (T : Addr) (H' : Hp), xs[i]? = some x → Pv i H' → H' T = none → Turn1 g tt te vs σ0 D (.ref T) (upd H' T (.tup [.int (i : Nat), x])) (Pv (i + 1))) ∧
    ∀ H', Pv xs.length H' → Q (.ref D) H') : LcG (Ite K a) g tt te vs σ Q H := by
  subst hw
  intro D hD
  obtain ⟨Pv, h0, hl, hs, hd⟩ := h D hD
  refine ⟨fun i m H => m = xs.length - i ∧ i ≤ xs.length ∧ Pv i H, ⟨xs.length, by simp, Nat.zero_le _, h0⟩, ?_⟩
  rintro i m H ⟨rfl, hi, p⟩
  have q := hl i H hi p
  rcases Nat.lt_or_ge i xs.length with hlt | hge
  · exact .inr ⟨⟨xs, xs[i], q, by simp [hlt]⟩, Pv (i + 1), fun H' p' => ⟨xs.length - (i + 1), by omega, rfl, hlt, p'⟩, fun v H' ⟨T, x, e1, e2, e3, e4⟩ => by subst e1 e3; exact hs i x T _ (e4 xs q) p e2⟩
  · have e : i = xs.length := by omega
    subst e
    exact .inl ⟨⟨xs, q, Nat.le_refl _⟩, hd H p⟩
theorem lcET {xs : List V} (hw : wipe σ vs = σ0) (h : ∀ D, H D = none → ∃ Pv : Nat → Hp → Prop, Pv 0 (upd H D (.lst [])) ∧ (∀ i H', i ≤ xs.length → Pv i H' → SqT K H' a xs) ∧
    (∀ (i : Nat) (x : V) (T : Addr) (H' : Hp), xs[i]? = some x → Pv i H' → H' T = none → Turn1 g tt te vs σ0 D (.ref T) (upd H' T (.tup [.int (i : Nat), x])) (Pv (i + 1))) ∧
    ∀ H', Pv xs.length H' → Q (.ref D) H') : LcG (Iet K a) g tt te vs σ Q H := by
  subst hw
  intro D hD
  obtain ⟨Pv, h0, hl, hs, hd⟩ := h D hD
  refine ⟨fun i m H => m = xs.length - i ∧ i ≤ xs.length ∧ Pv i H, ⟨xs.length, by simp, Nat.zero_le _, h0⟩, ?_⟩
  rintro i m H ⟨rfl, hi, p⟩
  have q := hl i H hi p
  rcases Nat.lt_or_ge i xs.length with hlt | hge
  · exact .inr ⟨⟨xs, xs[i], q, by simp [hlt]⟩, Pv (i + 1), fun H' p' => ⟨xs.length - (i + 1), by omega, rfl, hlt, p'⟩, fun v H' ⟨T, x, e1, e2, e3, e4⟩ => by subst e1 e3; exact hs i x T _ (e4 xs q) p e2⟩
  · have e : i = xs.length := by omega
    subst e
    exact .inl ⟨⟨xs, q, Nat.le_refl _⟩, hd H p⟩
def ZipR (K : PySem.W.Frag) (vs : List V) (R : It → Hp → Prop) (H : Hp) : Prop := ∃ a b xs ys, vs = [.ref a, .ref b] ∧ ((SqL K H a xs ∧ SqL K H b ys ∧ R (Itz K a b) H) ∨ (SqT K H a xs ∧ SqT K H b ys ∧ R (ItzT K a b) H))
theorem g_iZipA {ta : TA} (h : ta σ H fun ws H1 => ZipR K ws R H1) : iZipA K ta σ H R := h
theorem g_zipL {b : Addr} {xs ys : List V} (c : SqL K H a xs) (d : SqL K H b ys) (h : R (Itz K a b) H) : ZipR K [.ref a, .ref b] R H := ⟨a, b, xs, ys, rfl, .inl ⟨c, d, h⟩⟩
theorem g_zipT {b : Addr} {xs ys : List V} (c : SqT K H a xs) (d : SqT K H b ys) (h : R (ItzT K a b) H) : ZipR K [.ref a, .ref b] R H := ⟨a, b, xs, ys, rfl, .inr ⟨c, d, h⟩⟩
theorem lcZ {b : Addr} {xs ys : List V} (hl : xs.length = ys.length) (hw : wipe σ vs = σ0) (h : ∀ D, H D = none → ∃ Pv : Nat → Hp → Prop, Pv 0 (upd H D (.lst [])) ∧ (∀ i H', Pv i H' → SqL K H' a xs ∧ SqL K H' b ys) ∧
    (∀ (i : Nat) (x y : V) (T : Addr) (H' : Hp), xs[i]? = some x → ys[i]? = some y → Pv i H' → H' T = none → Turn1 g tt te vs σ0 D (.ref T) (upd H' T (.tup [x, y])) (Pv (i + 1))) ∧
    ∀ H', Pv xs.length H' → Q (.ref D) H') : LcG (Itz K a b) g tt te vs σ Q H := by
  subst hw
  intro D hD
  obtain ⟨Pv, h0, hq, hs, hd⟩ := h D hD
  refine ⟨fun i m H => m = xs.length - i ∧ i ≤ xs.length ∧ Pv i H, ⟨xs.length, by simp, Nat.zero_le _, h0⟩, ?_⟩
  rintro i m H ⟨rfl, hi, p⟩
  obtain ⟨q1, q2⟩ := hq i H p
  rcases Nat.lt_or_ge i xs.length with hlt | hge
  · exact .inr ⟨⟨xs, ys, xs[i], ys[i]'(by omega), q1, q2, by simp [hlt], by simp⟩, Pv (i + 1), fun H' p' => ⟨xs.length - (i + 1), by omega, rfl, hlt, p'⟩,
      fun v H' ⟨T, x, y, e1, e2, e3, e4, e5⟩ => by subst e1 e3; exact hs i x y T _ (e4 xs q1) (e5 ys q2) p e2⟩
  · have e : i = xs.length := by omega
    subst e
    exact .inl ⟨⟨xs, ys, q1, q2, .inl (Nat.le_refl _)⟩, hd H p⟩
theorem lcZT {b : Addr} {xs ys : List V} (hl : xs.length = ys.length) (hw : wipe σ vs = σ0) (h : ∀ D, H D = none → ∃ Pv : Nat → Hp → Prop, Pv 0 (upd H D (.lst [])) ∧ (∀ i H', Pv i H' → SqT K H' a xs ∧ SqT K H' b ys) ∧
    (∀ (i : Nat) (x y : V) (T : Addr) (H' : Hp), xs[i]? = some x → ys[i]? = some y → Pv i H' → H' T = none → Turn1 g tt te vs σ0 D (.ref T) (upd H' T (.tup [x, y])) (Pv (i + 1))) ∧
    ∀ H', Pv xs.length H' → Q (.ref D) H') : LcG (ItzT K a b) g tt te vs σ Q H := by
  subst hw
  intro D hD
  obtain ⟨Pv, h0, hq, hs, hd⟩ := h D hD
  refine ⟨fun i m H => m = xs.length - i ∧ i ≤ xs.length ∧ Pv i H, ⟨xs.length, by simp, Nat.zero_le _, h0⟩, ?_⟩
  rintro i m H ⟨rfl, hi, p⟩
  obtain ⟨q1, q2⟩ := hq i H p
  rcases Nat.lt_or_ge i xs.length with hlt | hge
  · exact .inr ⟨⟨xs, ys, xs[i], ys[i]'(by omega), q1, q2, by simp [hlt], by simp⟩, Pv (i + 1), fun H' p' => ⟨xs.length - (i + 1), by omega, rfl, hlt, p'⟩,
      fun v H' ⟨T, x, y, e1, e2, e3, e4, e5⟩ => by subst e1 e3; exact hs i x y T _ (e4 xs q1) (e5 ys q2) p e2⟩
  · have e : i = xs.length := by omega
    subst e
    exact .inl ⟨⟨xs, ys, q1, q2, .inl (Nat.le_refl _)⟩, hd H p⟩
end
theorem k_zip {X : Cx} {K : PySem.W.Frag} {e e2 : Expr} {ta : TA} {p pos tpos : Pos} {elts : List Expr} {kk : Nat} (ek : X.K = K) (hg : Gl X "zip") (hm : X.mg "zip" = none) (ha : PA X [e, e2] ta)
    (hs : starEach [e, e2] X.env = (false, eval e X.env) :: starEach [e2] X.env := by rfl) (hl : (backTo pos (starEach [e2] X.env)).any (·.1) = false := by rfl) :
    PI X (.Tuple elts kk tpos) (.Call (.Name "zip" p) [e, e2] [] pos) (iZipA K ta) := by subst ek; exact pi_zipA hg hm ha hs hl
end Q

set_option Elab.async false
set_option linter.all false
set_option maxRecDepth 100000
set_option maxHeartbeats 4000000
namespace Q
open PySem PySem.Spec L2
local macro_rules | `(tactic| walk_at "n") => `(tactic| first
  | with_reducible assumption
  | exact Ne.symm (by with_reducible assumption)
  | ((refine' ne_of_none ?k1 (by with_reducible assumption)); (case k1 => walk_at "h"))
  | ((refine' Ne.symm (ne_of_none ?k1 (by with_reducible assumption))); (case k1 => walk_at "h")))
local macro_rules | `(tactic| walk_at "h") => `(tactic| first
  | with_reducible assumption
  | with_reducible exact upd_same
  | ((with_reducible refine' h_ne ?k1 ?k2); (case k1 => walk_at "n"); (case k2 => walk_at "h"))
  | ((with_reducible refine' h_sm (by with_reducible assumption) ?k1); (case k1 => walk_at "h"))
  | ((with_reducible refine' h_chg (by with_reducible assumption) ?k1 ?k2); (case k1 => walk_at "n"); (case k2 => walk_at "h")))
local macro_rules | `(tactic| walk_at "l") => `(tactic| first
  | with_reducible assumption
  | ((with_reducible refine' SqL.of ?k1); (case k1 => walk_at "h"))
  | ((with_reducible refine' sqL_new (by with_reducible assumption) ?k1); (case k1 => walk_at "l"))
  | ((with_reducible refine' sqL_sm (by with_reducible assumption) ?k1); (case k1 => walk_at "l")))
local macro_rules | `(tactic| walk_at "t") => `(tactic| first
  | with_reducible assumption
  | ((with_reducible refine' SqT.of ?k1); (case k1 => walk_at "h"))
  | ((with_reducible refine' sqT_new (by with_reducible assumption) ?k1); (case k1 => walk_at "t"))
  | ((with_reducible refine' seqT_same (by with_reducible assumption) ?k1); (case k1 => walk_at "t")))
local macro_rules | `(tactic| walk_at "lt") => `(tactic| first
  | with_reducible assumption
  | ((refine' Or.inl ?k1); (case k1 => walk_at "l"))
  | ((refine' Or.inr ?k1); (case k1 => walk_at "t")))
local macro_rules | `(tactic| walk_at "c") => `(tactic| first
  | exact trivial
  | with_reducible assumption
  | exact wide_div (b := 100) (by decide) (by decide) (by decide) (by decide)
  | decide
  | omega
  | (refine' Or.inr ⟨?_, ?_⟩ <;> first | decide | omega)
  | (refine' Or.inl ⟨?_, ?_⟩ <;> first | decide | omega)
  | (refine' And.intro ?_ (And.intro ?_ ?_) <;> first | decide | omega)
  | (refine' And.intro ?_ ?_ <;> first | decide | omega))
local macro_rules | `(tactic| walk_at "ty") => `(tactic| first
  | exact .base (.int _)
  | exact .base (.str _)
  | exact .base (.bl _)
  | exact .base .non
  | ((with_reducible refine' tyL ?k1); (case k1 => walk_at "l"))
  | ((with_reducible refine' tyT ?k1); (case k1 => walk_at "t")))
local macro_rules | `(tactic| walk_at "kb") => `(tactic| first
  | exact kb_int_int
  | exact kb_int_str
  | exact kb_int_bool
  | exact kb_int_list
  | exact kb_int_tuple
  | exact kb_str_int
  | exact kb_str_str
  | exact kb_str_bool
  | exact kb_str_list
  | exact kb_str_tuple
  | exact kb_bool_int
  | exact kb_bool_str
  | exact kb_bool_bool
  | exact kb_bool_list
  | exact kb_bool_tuple
  | exact kb_NoneType_int
  | exact kb_NoneType_str
  | exact kb_NoneType_bool
  | exact kb_NoneType_list
  | exact kb_NoneType_tuple
  | exact kb_list_int
  | exact kb_list_str
  | exact kb_list_bool
  | exact kb_list_list
  | exact kb_list_tuple
  | exact kb_tuple_int
  | exact kb_tuple_str
  | exact kb_tuple_bool
  | exact kb_tuple_list
  | exact kb_tuple_tuple)
local macro_rules | `(tactic| walk_at "s") => `(tactic| first
  | with_reducible refine' g_seq ?_
  | with_reducible refine' g_asg ?_
  | with_reducible refine' g_ifS ?_
  | with_reducible refine' g_ret ?_
  | with_reducible refine' g_drop ?_
  | with_reducible refine' g_next ?_
  | with_reducible refine' g_op ?_
  | with_reducible refine' g_c ?_
  | with_reducible refine' g_v0 ?_
  | with_reducible refine' g_n0 ?_
  | with_reducible refine' g_v1 ?_
  | with_reducible refine' g_n1 ?_
  | with_reducible refine' g_v2 ?_
  | with_reducible refine' g_n2 ?_
  | with_reducible refine' g_v3 ?_
  | with_reducible refine' g_n3 ?_
  | with_reducible refine' g_v4 ?_
  | with_reducible refine' g_n4 ?_
  | with_reducible refine' g_v5 ?_
  | with_reducible refine' g_n5 ?_
  | with_reducible refine' g_v6 ?_
  | with_reducible refine' g_n6 ?_
  | with_reducible refine' g_v7 ?_
  | with_reducible refine' g_n7 ?_
  | with_reducible refine' g_v8 ?_
  | with_reducible refine' g_n8 ?_
  | with_reducible refine' g_v9 ?_
  | with_reducible refine' g_n9 ?_
  | with_reducible refine' g_v10 ?_
  | with_reducible refine' g_n10 ?_
  | with_reducible refine' g_v11 ?_
  | with_reducible refine' g_n11 ?_
  | with_reducible refine' g_v12 ?_
  | with_reducible refine' g_n12 ?_
  | with_reducible refine' g_v13 ?_
  | with_reducible refine' g_n13 ?_
  | with_reducible refine' g_v14 ?_
  | with_reducible refine' g_n14 ?_
  | with_reducible refine' g_v15 ?_
  | with_reducible refine' g_n15 ?_
  | with_reducible refine' g_sub ?_
  | with_reducible refine' g_rI0 ?_
  | with_reducible refine' g_p6 ?_
  | with_reducible refine' g_p18 ?_
  | ((with_reducible refine' g_rI ?_ ?_); (· walk_at "c"))
  | with_reducible refine' g_cb ?_
  | with_reducible refine' g_cons ?_
  | with_reducible refine' g_nil ?_
  | with_reducible refine' g_int ?_
  | ((with_reducible refine' g_ixL0 ?k1 ?_); (case k1 => walk_at "l"))
  | ((with_reducible refine' g_setL0 ?k1 ?_); (case k1 => walk_at "h"))
  | ((with_reducible refine' g_ixL1 ?k1 ?_); (case k1 => walk_at "l"))
  | ((with_reducible refine' g_setL1 ?k1 ?_); (case k1 => walk_at "h"))
  | ((with_reducible refine' g_ixL2 ?k1 ?_); (case k1 => walk_at "l"))
  | ((with_reducible refine' g_setL2 ?k1 ?_); (case k1 => walk_at "h"))
  | ((with_reducible refine' g_ixL3 ?k1 ?_); (case k1 => walk_at "l"))
  | ((with_reducible refine' g_setL3 ?k1 ?_); (case k1 => walk_at "h"))
  | ((with_reducible refine' g_ixL4 ?k1 ?_); (case k1 => walk_at "l"))
  | ((with_reducible refine' g_setL4 ?k1 ?_); (case k1 => walk_at "h"))
  | ((with_reducible refine' g_ixL5 ?k1 ?_); (case k1 => walk_at "l"))
  | ((with_reducible refine' g_setL5 ?k1 ?_); (case k1 => walk_at "h"))
  | ((with_reducible refine' g_ixL6 ?k1 ?_); (case k1 => walk_at "l"))
  | ((with_reducible refine' g_setL6 ?k1 ?_); (case k1 => walk_at "h"))
  | ((with_reducible refine' g_ixL7 ?k1 ?_); (case k1 => walk_at "l"))
  | ((with_reducible refine' g_setL7 ?k1 ?_); (case k1 => walk_at "h"))
  | ((with_reducible refine' g_ixL8 ?k1 ?_); (case k1 => walk_at "l"))
  | ((with_reducible refine' g_setL8 ?k1 ?_); (case k1 => walk_at "h"))
  | ((with_reducible refine' g_ixL9 ?k1 ?_); (case k1 => walk_at "l"))
  | ((with_reducible refine' g_setL9 ?k1 ?_); (case k1 => walk_at "h"))
  | ((with_reducible refine' g_ixL ?k1 ?k2 ?_); (case k1 => walk_at "l"); (case k2 => walk_at "a"))
  | ((with_reducible refine' g_setL ?k1 ?k2 ?_); (case k1 => walk_at "h"); (case k2 => rfl))
  | with_reducible refine' g_eqI ?_
  | with_reducible refine' g_neI ?_
  | with_reducible refine' g_eqS ?_
  | with_reducible refine' g_eqB ?_
  | with_reducible refine' g_neB ?_
  | with_reducible refine' g_test ?_
  | with_reducible refine' g_b ?_
  | with_reducible refine' g_bl ?_
  | with_reducible refine' g_and ?_
  | with_reducible refine' g_or ?_
  | with_reducible refine' g_not ?_
  | with_reducible refine' g_yes ?_
  | with_reducible refine' g_if ?_
  | with_reducible refine' g_andV ?_
  | with_reducible refine' g_orV ?_
  | with_reducible refine' g_notV ?_
  | with_reducible refine' g_call ?_
  | (with_reducible refine' g_lst ?_)
  | (with_reducible refine' g_tup ?_)
  | ((with_reducible refine' g_len ?k1 ?_); (case k1 => walk_at "lt"))
  | (with_reducible refine' g_un ?_)
  | (with_reducible refine' g_rU ?_)
  | with_reducible refine' g_isNr ?_
  | with_reducible refine' g_isNn ?_
  | with_reducible refine' g_isNi ?_
  | with_reducible refine' g_isNb ?_
  | with_reducible refine' g_isNs ?_
  | ((with_reducible refine' g_newL ?k1 ?_); (case k1 => (simp only [List.length_cons, List.length_nil, Nat.reduceAdd, Nat.reduceLeDiff])); intro p hp)
  | ((with_reducible refine' g_newT ?k1 ?_); (case k1 => (simp only [List.length_cons, List.length_nil, Nat.reduceAdd, Nat.reduceLeDiff])); intro p hp)
  | with_reducible refine' g_sl ?_
  | with_reducible refine' g_part ?_
  | with_reducible refine' g_partI ?_
  | with_reducible refine' g_noPart ?_
  | ((with_reducible refine' g_slL ?k1 ?_); (case k1 => walk_at "l"); intro p hp)
  | ((with_reducible refine' g_inI ?k1 ?_); (case k1 => walk_at "lt"))
  | ((with_reducible refine' g_notinI ?k1 ?_); (case k1 => walk_at "lt"))
  | ((with_reducible refine' g_cat ?k1 ?k2 ?k3 ?_); (case k1 => walk_at "h"); (case k2 => walk_at "h"); (case k3 => walk_at "len"); intro p hp)
  | ((with_reducible refine' g_list ?k1 ?_); (case k1 => walk_at "lt"); intro p hp)
  | ((with_reducible refine' g_tuple ?k1 ?_); (case k1 => walk_at "l"); intro p hp)
  | ((with_reducible refine' g_sum ?k1 ?_); (case k1 => walk_at "l"))
  | ((with_reducible refine' g_any ?k1 ?_); (case k1 => walk_at "l"))
  | ((with_reducible refine' g_all ?k1 ?_); (case k1 => walk_at "l"))
  | with_reducible refine' g_iEn2 ?_
  | with_reducible refine' g_iEnum ?_
  | ((with_reducible refine' g_en1 ?k1 ?_); (case k1 => walk_at "l"))
  | ((with_reducible refine' g_gTup ?k1 ?k2 ?_); (case k1 => walk_at "t"); (case k2 => rfl))
  | with_reducible refine' g_gCons ?_
  | with_reducible refine' g_gNil ?_
  | ((with_reducible refine' g_qix0 ?k1 ?_); (case k1 => walk_at "lt"))
  | ((with_reducible refine' g_qix1 ?k1 ?_); (case k1 => walk_at "lt"))
  | ((with_reducible refine' g_qix2 ?k1 ?_); (case k1 => walk_at "lt"))
  | ((with_reducible refine' g_qix3 ?k1 ?_); (case k1 => walk_at "lt"))
  | ((with_reducible refine' g_qix4 ?k1 ?_); (case k1 => walk_at "lt"))
  | ((with_reducible refine' g_qix5 ?k1 ?_); (case k1 => walk_at "lt"))
  | ((with_reducible refine' g_qix6 ?k1 ?_); (case k1 => walk_at "lt"))
  | ((with_reducible refine' g_qix7 ?k1 ?_); (case k1 => walk_at "lt"))
  | ((with_reducible refine' g_qix8 ?k1 ?_); (case k1 => walk_at "lt"))
  | ((with_reducible refine' g_qix9 ?k1 ?_); (case k1 => walk_at "lt"))
  | ((with_reducible refine' g_qix ?k1 ?k2 ?_); (case k1 => walk_at "lt"); (case k2 => walk_at "a"))
  | with_reducible refine' g_turn1 ?_
  | ((with_reducible refine' g_turnB ?k1 ?_); (case k1 => rfl))
  | with_reducible refine' g_turnCt ?_
  | with_reducible refine' g_aug ?_
  | with_reducible refine' g_ipI ?_
  | with_reducible refine' g_par ?_
  | with_reducible refine' g_parR ?_
  | with_reducible refine' g_par3 ?_
  | with_reducible refine' g_parR3 ?_
  | with_reducible refine' g_callN ?_
  | ((with_reducible refine' g_kArg ?k1 ?k2 ?k3 ?_); (case k1 => rfl); (case k2 => rfl); (case k3 => rfl))
  | with_reducible refine' g_bm ?_
  | ((with_reducible refine' g_bmL ?k1 ?_); (case k1 => walk_at "l"))
  | ((with_reducible refine' g_neDI ?k1 ?k2 ?_); (case k1 => walk_at "l"); (case k2 => walk_at "l"))
  | ((with_reducible refine' g_eqDI ?k1 ?k2 ?_); (case k1 => walk_at "l"); (case k2 => walk_at "l"))
  | with_reducible refine' g_ifT ?_
  | with_reducible refine' g_lstRg ?_
  | with_reducible refine' g_tRg1 ?_
  | with_reducible refine' g_rg1R ?_
  | ((with_reducible refine' g_rgNew ?_ ?_); (· (first | omega | (refine' And.intro ?_ (And.intro ?_ (And.intro ?_ ?_)) <;> omega))); intro p hp)
  | with_reducible refine' g_iZipA ?_
  | with_reducible refine' g_lc ?_
  | with_reducible refine' g_for ?_
  | with_reducible refine' g_iRng1 ?_
  | ((with_reducible refine' g_rng1 ?_ ?_); (· walk_at "c"))
  | with_reducible refine' g_iRng2 ?_
  | ((with_reducible refine' g_rng2 ?_ ?_); (· walk_at "c"))
  | with_reducible refine' g_iList ?_
  | ((with_reducible refine' g_lstR ?k1 ?_); (case k1 => walk_at "l"))
  | with_reducible refine' g_iTup ?_
  | ((with_reducible refine' g_tupR ?k1 ?_); (case k1 => walk_at "t"))
  | ((with_reducible refine' g_isi ?k1 ?k2 ?_); (case k1 => walk_at "ty"); (case k2 => walk_at "kb"))
  | ((with_reducible refine' g_isiT2 ?k1 ?k2 ?k3 ?k4 ?_); (case k1 => walk_at "h"); (case k2 => walk_at "ty"); (case k3 => walk_at "kb"); (case k4 => walk_at "kb"))
  | with_reducible refine' iteT ?_
  | with_reducible refine' iteF ?_
  | ((with_reducible refine' g_iteCT ?k1 ?_); (case k1 => decide))
  | ((with_reducible refine' g_iteCF ?k1 ?_); (case k1 => decide)))
local macro_rules | `(tactic| walk_at "s") => `(tactic| first
  | with_reducible refine' g_fld ?_
  | with_reducible refine' g_chain ?_
  | with_reducible refine' g_chR ?_
  | ((with_reducible refine' g_fldR ?k1 ?k2 ?k3 ?k4 ?_); (case k1 => walk_at "h"); (case k2 => (with_reducible assumption)); (case k3 => (with_reducible assumption)); (case k4 => rfl))
  | with_reducible refine' g_meth ?_
  | ((with_reducible refine' g_methR ?k1 ?k2 ?_); (case k1 => walk_at "h"); (case k2 => rfl))
  | with_reducible refine' g_sfld ?_
  | ((with_reducible refine' g_sfldR ?k1 ?k2 ?k3 ?k4 ?_); (case k1 => walk_at "h"); (case k2 => (with_reducible assumption)); (case k3 => (with_reducible assumption)); (case k4 => first | decide | exact (by decide : 1 < 1000) | exact (by decide : 2 < 1000) | exact (by decide : 3 < 1000) | exact (by decide : 4 < 1000) | exact (by decide : 5 < 1000) | exact (by decide : 6 < 1000) | exact (by decide : 7 < 1000) | exact (by decide : 8 < 1000) | exact (by decide : 9 < 1000) | exact (by decide : 10 < 1000) | exact (by decide : 11 < 1000) | exact (by decide : 12 < 1000) | exact (by decide : 13 < 1000) | exact (by decide : 14 < 1000) | exact (by decide : 15 < 1000) | exact (by decide : 16 < 1000) | exact (by decide : 17 < 1000) | exact (by decide : 18 < 1000) | exact (by decide : 19 < 1000) | exact (by decide : 20 < 1000))))
local macro_rules | `(tactic| walk_at "a") => `(tactic| first
  | rfl
  | (with_reducible assumption))
local macro_rules | `(tactic| walk_at "go") => `(tactic| repeat walk_at "s")
local macro_rules | `(tactic| walk_at "chg") => `(tactic| first
  | with_reducible assumption
  | with_reducible exact Chg.refl
  | ((with_reducible refine' Chg.put ?_); walk_at "chg")
  | ((with_reducible refine' Chg.lay ?_ (by with_reducible assumption)); walk_at "chg")
  | ((with_reducible refine' Chg.putn ?_ (by with_reducible assumption)); walk_at "chg")
  | ((with_reducible refine' Chg.trans ?_ (sm_chg (by with_reducible assumption))); walk_at "chg")
  | ((with_reducible refine' Chg.trans ?_ (by with_reducible assumption)); walk_at "chg"))
local macro_rules | `(tactic| walk_at "len") => `(tactic| (first
  | omega
  | ((try simp only [List.length_map, List.length_cons, List.length_nil, List.length_append, List.length_range]); omega)))

def topS (i : Nat) : Stmt := PySem.Challenge.pw_answersalone_k08_whole_choosing.main.body.getD i (.Pass ⟨0, 0, 0, 0⟩)
abbrev s_draw_number : Stmt := topS 1
abbrev N_draw_number : List Str := ["seed", "place"]
abbrev P_draw_number : List Str := ["seed", "place"]
theorem sc_draw_number : FnScope N_draw_number P_draw_number (defScope s_draw_number) :=
  ⟨rfl, rfl, rfl, by decide +kernel, rfl, by decide +kernel, by decide +kernel⟩
abbrev s_choose : Stmt := topS 2
abbrev N_choose : List Str := ["weights", "allowed", "knob", "seed", "place", "counted"]
abbrev P_choose : List Str := ["weights", "allowed", "knob", "seed", "place"]
theorem sc_choose : FnScope N_choose P_choose (defScope s_choose) :=
  ⟨rfl, rfl, rfl, by decide +kernel, rfl, by decide +kernel, by decide +kernel⟩
abbrev s__counted : Stmt := topS 3
abbrev N__counted : List Str := ["weights", "allowed", "token", "weight"]
abbrev P__counted : List Str := ["weights", "allowed"]
theorem sc__counted : FnScope N__counted P__counted (defScope s__counted) :=
  ⟨rfl, rfl, rfl, by decide +kernel, rfl, by decide +kernel, by decide +kernel⟩
abbrev s__token_above : Stmt := topS 4
abbrev N__token_above : List Str := ["weights", "number", "token", "total"]
abbrev P__token_above : List Str := ["weights", "number"]
theorem sc__token_above : FnScope N__token_above P__token_above (defScope s__token_above) :=
  ⟨rfl, rfl, rfl, by decide +kernel, rfl, by decide +kernel, by decide +kernel⟩
abbrev s__law_bag : Stmt := topS 6
abbrev N__law_bag : List Str := ["script", "mix", "item"]
abbrev P__law_bag : List Str := ["script"]
theorem sc__law_bag : FnScope N__law_bag P__law_bag (defScope s__law_bag) :=
  ⟨rfl, rfl, rfl, by decide +kernel, rfl, by decide +kernel, by decide +kernel⟩
abbrev s__law_draw : Stmt := topS 7
abbrev N__law_draw : List Str := ["bag", "size", "item", "digit"]
abbrev P__law_draw : List Str := ["bag", "size"]
theorem sc__law_draw : FnScope N__law_draw P__law_draw (defScope s__law_draw) :=
  ⟨rfl, rfl, rfl, by decide +kernel, rfl, by decide +kernel, by decide +kernel⟩
abbrev s__law_of : Stmt := topS 8
abbrev N__law_of : List Str := ["bag", "things"]
abbrev P__law_of : List Str := ["bag", "things"]
theorem sc__law_of : FnScope N__law_of P__law_of (defScope s__law_of) :=
  ⟨rfl, rfl, rfl, by decide +kernel, rfl, by decide +kernel, by decide +kernel⟩
abbrev s__law_like : Stmt := topS 9
abbrev N__law_like : List Str := ["told", "due", "a", "b"]
abbrev P__law_like : List Str := ["told", "due"]
theorem sc__law_like : FnScope N__law_like P__law_like (defScope s__law_like) :=
  ⟨rfl, rfl, rfl, by decide +kernel, rfl, by decide +kernel, by decide +kernel⟩
abbrev s__law_number : Stmt := topS 10
abbrev N__law_number : List Str := ["at", "spot", "rest"]
abbrev P__law_number : List Str := ["at", "spot"]
theorem sc__law_number : FnScope N__law_number P__law_number (defScope s__law_number) :=
  ⟨rfl, rfl, rfl, by decide +kernel, rfl, by decide +kernel, by decide +kernel⟩
abbrev s__law_loads : Stmt := topS 11
abbrev N__law_loads : List Str := ["bag", "many", "top", "k", "same"]
abbrev P__law_loads : List Str := ["bag"]
theorem sc__law_loads : FnScope N__law_loads P__law_loads (defScope s__law_loads) :=
  ⟨rfl, rfl, rfl, by decide +kernel, rfl, by decide +kernel, by decide +kernel⟩
abbrev s__law_some : Stmt := topS 12
abbrev N__law_some : List Str := ["bag", "many", "keep", "gap", "some", "a"]
abbrev P__law_some : List Str := ["bag", "many"]
theorem sc__law_some : FnScope N__law_some P__law_some (defScope s__law_some) :=
  ⟨rfl, rfl, rfl, by decide +kernel, rfl, by decide +kernel, by decide +kernel⟩
abbrev s__law_best_so : Stmt := topS 13
abbrev N__law_best_so : List Str := ["found", "loads", "some", "a"]
abbrev P__law_best_so : List Str := ["found", "loads", "some"]
theorem sc__law_best_so : FnScope N__law_best_so P__law_best_so (defScope s__law_best_so) :=
  ⟨rfl, rfl, rfl, by decide +kernel, rfl, by decide +kernel, by decide +kernel⟩
abbrev s__law_drawn_so : Stmt := topS 14
abbrev N__law_drawn_so : List Str := ["found", "loads", "some", "n", "total", "a", "ahead", "rest"]
abbrev P__law_drawn_so : List Str := ["found", "loads", "some", "n"]
theorem sc__law_drawn_so : FnScope N__law_drawn_so P__law_drawn_so (defScope s__law_drawn_so) :=
  ⟨rfl, rfl, rfl, by decide +kernel, rfl, by decide +kernel, by decide +kernel⟩
abbrev s__law_choice_so : Stmt := topS 15
abbrev N__law_choice_so : List Str := ["found", "loads", "some", "knob_word", "n", "a"]
abbrev P__law_choice_so : List Str := ["found", "loads", "some", "knob_word", "n"]
theorem sc__law_choice_so : FnScope N__law_choice_so P__law_choice_so (defScope s__law_choice_so) :=
  ⟨rfl, rfl, rfl, by decide +kernel, rfl, by decide +kernel, by decide +kernel⟩
abbrev s__law_seed : Stmt := topS 16
abbrev N__law_seed : List Str := ["bag"]
abbrev P__law_seed : List Str := ["bag"]
theorem sc__law_seed : FnScope N__law_seed P__law_seed (defScope s__law_seed) :=
  ⟨rfl, rfl, rfl, by decide +kernel, rfl, by decide +kernel, by decide +kernel⟩
abbrev s__law_spot : Stmt := topS 17
abbrev N__law_spot : List Str := ["bag"]
abbrev P__law_spot : List Str := ["bag"]
theorem sc__law_spot : FnScope N__law_spot P__law_spot (defScope s__law_spot) :=
  ⟨rfl, rfl, rfl, by decide +kernel, rfl, by decide +kernel, by decide +kernel⟩
abbrev s__law_trial_so : Stmt := topS 18
abbrev N__law_trial_so : List Str := ["bag", "loads", "many", "at", "spot", "n", "every", "some", "passed", "held", "told", "less", "a"]
abbrev P__law_trial_so : List Str := ["bag", "loads"]
theorem sc__law_trial_so : FnScope N__law_trial_so P__law_trial_so (defScope s__law_trial_so) :=
  ⟨rfl, rfl, rfl, by decide +kernel, rfl, by decide +kernel, by decide +kernel⟩
abbrev s_law : Stmt := topS 19
abbrev N_law : List Str := ["script", "bag", "lap", "loads"]
abbrev P_law : List Str := ["script"]
theorem sc_law : FnScope N_law P_law (defScope s_law) :=
  ⟨rfl, rfl, rfl, by decide +kernel, rfl, by decide +kernel, by decide +kernel⟩

/-- the bag of a law -/
def Bag (H : Hp) (a l : Addr) : Prop := ∃ (ns : List Int) (i g m c : Int),
  H a = some (.lst [.ref l, .int i, .int g, .int m, .int c]) ∧ H l = some (.lst (ns.map V.int)) ∧ l ≠ a ∧
  0 ≤ i ∧ 0 ≤ g ∧ 0 ≤ m ∧ m < 2147483629 ∧ 0 ≤ c

structure Top (K : PySem.W.Frag) (mg : Str → Option Value) : Prop where
  f_draw_number : ∃ (f : Addr) (fd : FuncData), FunD K "draw_number" "draw_number" (defArgs s_draw_number) (defBody s_draw_number) (defScope s_draw_number) [] [] f fd ∧ mg "draw_number" = some (.ref f)
  f_choose : ∃ (f : Addr) (fd : FuncData), FunD K "choose" "choose" (defArgs s_choose) (defBody s_choose) (defScope s_choose) [] [("allowed", .non), ("knob", .str "best"), ("seed", .int 0), ("place", .int 0)] f fd ∧ mg "choose" = some (.ref f)
  f__counted : ∃ (f : Addr) (fd : FuncData), FunD K "_counted" "_counted" (defArgs s__counted) (defBody s__counted) (defScope s__counted) [] [] f fd ∧ mg "_counted" = some (.ref f)
  f__token_above : ∃ (f : Addr) (fd : FuncData), FunD K "_token_above" "_token_above" (defArgs s__token_above) (defBody s__token_above) (defScope s__token_above) [] [] f fd ∧ mg "_token_above" = some (.ref f)
  f__law_bag : ∃ (f : Addr) (fd : FuncData), FunD K "_law_bag" "_law_bag" (defArgs s__law_bag) (defBody s__law_bag) (defScope s__law_bag) [] [] f fd ∧ mg "_law_bag" = some (.ref f)
  f__law_draw : ∃ (f : Addr) (fd : FuncData), FunD K "_law_draw" "_law_draw" (defArgs s__law_draw) (defBody s__law_draw) (defScope s__law_draw) [] [] f fd ∧ mg "_law_draw" = some (.ref f)
  f__law_of : ∃ (f : Addr) (fd : FuncData), FunD K "_law_of" "_law_of" (defArgs s__law_of) (defBody s__law_of) (defScope s__law_of) [] [] f fd ∧ mg "_law_of" = some (.ref f)
  f__law_like : ∃ (f : Addr) (fd : FuncData), FunD K "_law_like" "_law_like" (defArgs s__law_like) (defBody s__law_like) (defScope s__law_like) [] [] f fd ∧ mg "_law_like" = some (.ref f)
  f__law_number : ∃ (f : Addr) (fd : FuncData), FunD K "_law_number" "_law_number" (defArgs s__law_number) (defBody s__law_number) (defScope s__law_number) [] [] f fd ∧ mg "_law_number" = some (.ref f)
  f__law_loads : ∃ (f : Addr) (fd : FuncData), FunD K "_law_loads" "_law_loads" (defArgs s__law_loads) (defBody s__law_loads) (defScope s__law_loads) [] [] f fd ∧ mg "_law_loads" = some (.ref f)
  f__law_some : ∃ (f : Addr) (fd : FuncData), FunD K "_law_some" "_law_some" (defArgs s__law_some) (defBody s__law_some) (defScope s__law_some) [] [] f fd ∧ mg "_law_some" = some (.ref f)
  f__law_best_so : ∃ (f : Addr) (fd : FuncData), FunD K "_law_best_so" "_law_best_so" (defArgs s__law_best_so) (defBody s__law_best_so) (defScope s__law_best_so) [] [] f fd ∧ mg "_law_best_so" = some (.ref f)
  f__law_drawn_so : ∃ (f : Addr) (fd : FuncData), FunD K "_law_drawn_so" "_law_drawn_so" (defArgs s__law_drawn_so) (defBody s__law_drawn_so) (defScope s__law_drawn_so) [] [] f fd ∧ mg "_law_drawn_so" = some (.ref f)
  f__law_choice_so : ∃ (f : Addr) (fd : FuncData), FunD K "_law_choice_so" "_law_choice_so" (defArgs s__law_choice_so) (defBody s__law_choice_so) (defScope s__law_choice_so) [] [] f fd ∧ mg "_law_choice_so" = some (.ref f)
  f__law_seed : ∃ (f : Addr) (fd : FuncData), FunD K "_law_seed" "_law_seed" (defArgs s__law_seed) (defBody s__law_seed) (defScope s__law_seed) [] [] f fd ∧ mg "_law_seed" = some (.ref f)
  f__law_spot : ∃ (f : Addr) (fd : FuncData), FunD K "_law_spot" "_law_spot" (defArgs s__law_spot) (defBody s__law_spot) (defScope s__law_spot) [] [] f fd ∧ mg "_law_spot" = some (.ref f)
  f__law_trial_so : ∃ (f : Addr) (fd : FuncData), FunD K "_law_trial_so" "_law_trial_so" (defArgs s__law_trial_so) (defBody s__law_trial_so) (defScope s__law_trial_so) [] [] f fd ∧ mg "_law_trial_so" = some (.ref f)
  f_law : ∃ (f : Addr) (fd : FuncData), FunD K "law" "law" (defArgs s_law) (defBody s_law) (defScope s_law) [] [] f fd ∧ mg "law" = some (.ref f)
  z_max : mg "max" = none
  z_sum : mg "sum" = none
  z_list : mg "list" = none
  z_enumerate : mg "enumerate" = none
  z_int : mg "int" = none
  z_len : mg "len" = none
  z_isinstance : mg "isinstance" = none
  z_tuple : mg "tuple" = none
  z_all : mg "all" = none
  z_bool : mg "bool" = none
  z_str : mg "str" = none
  z_zip : mg "zip" = none
  z_range : mg "range" = none
  z_any : mg "any" = none
section
variable {P : Program} {w : World} {K : PySem.W.Frag} {mg : Str → Option Value} {base : Heap}
def spDraw (B : Int) : Sp := fun vs H Q _ => ∃ (a l : Addr) (size : Int), vs = [.ref a, .int size] ∧ Bag H a l ∧ 1 ≤ size ∧ size ≤ B ∧
  ∀ (r : Int) (H' : Hp), 0 ≤ r → r < size → Bag H' a l → Chg a H H' → Q (.int r) H'
theorem ok_draw1 {f : Addr} {fd : FuncData} (T : Top K mg) (F : FunD K "_law_draw" "_law_draw" (defArgs s__law_draw) (defBody s__law_draw) (defScope s__law_draw) [] [] f fd) :
    FnOk P w K mg base CX0 1 f fd P__law_draw (spDraw 1000000) := by
  refine F.ok sc__law_draw (fun vs H Q E h => ?_) (fun cdv A outer s H vs Q E hr h => ?_)
  · obtain ⟨a, l, size, rfl, _⟩ := h
    rfl
  · obtain ⟨a, l, size, rfl, ⟨ns, i, g, m, c, hB, hl, hla, hi, hg, hm, hm', hc⟩, h1, h2, q⟩ := h
    refine ⟨_, PSs.nox (C8.pss_cut (ps_asg (pe_op op_add (pe_ix (k_ix (K := K) (by rfl)) (pv 0) pe_int (fun _ _ => rfl)) pe_int) (pg_sub (pv 0) pe_int set_list))
    (C8.pss_cut (ps_if (PW.pt (pw_and (pt_cmpR op_eq (pe_ix (k_ix (K := K) (by rfl)) (pv 0) pe_int (fun _ _ => rfl)) pe_int (nomark _)) (pw_and1 (pt_cmpR op_lt (pe_ix (k_ix (K := K) (by rfl)) (pv 0) pe_int (fun _ _ => rfl)) (pe_callB (k_len (K := K) (by rfl)) (by rfl) T.z_len (by decide +kernel) (pa_cons (pe_ix (k_ix (K := K) (by rfl)) (pv 0) pe_int (fun _ _ => rfl)) pa_nil)) (nomark _)))))
    (pss_cons (ps_set (i := 2) sc__law_draw.nd rfl (by first | exact Or.inl rfl | exact Or.inr rfl) (pe_ix (k_ix (K := K) (by rfl)) (pe_ix (k_ix (K := K) (by rfl)) (pv 0) pe_int (fun _ _ => rfl)) (pe_ix (k_ix (K := K) (by rfl)) (pv 0) pe_int (fun _ _ => rfl)) (fun _ _ => rfl)))
    (pss_cons (ps_asg (pe_op op_add (pe_ix (k_ix (K := K) (by rfl)) (pv 0) pe_int (fun _ _ => rfl)) pe_int) (pg_sub (pv 0) pe_int set_list))
    (pss_one (ps_if (pt_cmpR op_ge (pv 2) (pe_op op_pow pe_int pe_int) (nomark _))
    (pss_one (ps_asg (pv 2) (pg_sub (pv 0) pe_int set_list)))
    (pss_one (ps_asg (pe_op op_mod (pe_callTy c_int (by rfl) T.z_int (by decide +kernel) (pa_cons (pe_op op_add (pe_op op_add (pe_op op_mul (pe_ix (k_ix (K := K) (by rfl)) (pv 0) pe_int (fun _ _ => rfl)) pe_int) (pe_op op_mul (pe_op op_mod (pe_callTy c_int (by rfl) T.z_int (by decide +kernel) (pa_cons (pv 2) pa_nil)) pe_int) pe_int)) pe_int) pa_nil)) pe_int) (pg_sub (pv 0) pe_int set_list)))))))
    pss_nil)
    (pss_cons (ps_if (pt_cmpR op_gt (pe_ix (k_ix (K := K) (by rfl)) (pv 0) pe_int (fun _ _ => rfl)) pe_int (nomark _))
    (pss_cons (ps_set (i := 3) sc__law_draw.nd rfl (by first | exact Or.inl rfl | exact Or.inr rfl) (pe_op op_mod (pe_callTy c_int (by rfl) T.z_int (by decide +kernel) (pa_cons (pe_ix (k_ix (K := K) (by rfl)) (pv 0) pe_int (fun _ _ => rfl)) pa_nil)) (pv 1)))
    (pss_cons (ps_asg (pe_op op_fdiv (pe_ix (k_ix (K := K) (by rfl)) (pv 0) pe_int (fun _ _ => rfl)) (pv 1)) (pg_sub (pv 0) pe_int set_list))
    (pss_one (ps_ret (pv 3)))))
    pss_nil)
    (pss_cons (ps_if (pt_cmpR op_gt (pv 1) (pe_op op_pow pe_int pe_int) (nomark _))
    pss_never
    pss_nil)
    (pss_cons (ps_asg (pe_op op_mod (pe_callTy c_int (by rfl) T.z_int (by decide +kernel) (pa_cons (pe_op op_add (pe_op op_add (pe_op op_pow (pe_ix (k_ix (K := K) (by rfl)) (pv 0) pe_int (fun _ _ => rfl)) pe_int) (pe_op op_mul (pe_ix (k_ix (K := K) (by rfl)) (pv 0) pe_int (fun _ _ => rfl)) pe_int)) pe_int) pa_nil)) pe_int) (pg_sub (pv 0) pe_int set_list))
    (pss_one (ps_ret (pe_op op_mod (pe_callTy c_int (by rfl) T.z_int (by decide +kernel) (pa_cons (pe_op op_add (pe_op op_fdiv (pe_ix (k_ix (K := K) (by rfl)) (pv 0) pe_int (fun _ _ => rfl)) pe_int) (pe_op op_mul (pe_op op_mod (pe_callTy c_int (by rfl) T.z_int (by decide +kernel) (pa_cons (pe_ix (k_ix (K := K) (by rfl)) (pv 0) pe_int (fun _ _ => rfl)) pa_nil)) pe_int) pe_int)) pa_nil)) (pv 1))))))))), ?_⟩
    try simp only [cxK]
    rw [show L2.start N__law_draw [V.ref a, V.int size] = [some (.ref a), some (.int size), none, none] from rfl]
    refine g_cut (fun σ' H' => σ' = [some (.ref a), some (.int size), none, none] ∧ ∃ c', H' = upd H a (.lst [V.ref l, V.int i, V.int g, V.int m, V.int c']) ∧ 0 ≤ c') ?_ ?_
    · walk_at "go"
      exact ⟨rfl, _, rfl, by omega⟩
    rintro σ' H' ⟨rfl, c', rfl, hc'⟩
    refine g_cut (fun σ' H' => ∃ x2, σ' = [some (.ref a), some (.int size), x2, none] ∧ ∃ i' g' m', H' a = some (.lst [V.ref l, V.int i', V.int g', V.int m', V.int c']) ∧
      0 ≤ i' ∧ 0 ≤ g' ∧ 0 ≤ m' ∧ m' < 2147483629 ∧ Chg a H H') ?_ ?_
    · walk_at "go"
      refine g_iteD (fun h3 => ?_) (fun h3 => ?_)
      · walk_at "go"
        refine g_iteD (fun h4 => ?_) (fun h4 => ?_)
        · have e : atI (ns.map V.int) i = some (.int (ns.getD i.toNat 0)) := by
            have z := atI_nat (xs := ns.map V.int) (j := i.toNat) (v := .int (ns.getD i.toNat 0)) (by
              rw [List.getElem?_map, List.getD_eq_getElem?_getD, List.getElem?_eq_getElem (by rw [List.length_map] at h4; omega)]; rfl)
            rwa [Int.toNat_of_nonneg hi] at z
          walk_at "go"
          refine g_iteD (fun h5 => ?_) (fun h5 => ?_)
          · walk_at "go"
            exact ⟨_, rfl, _, _, _, by walk_at "h", by omega, by omega, hm, hm', by walk_at "chg"⟩
          · walk_at "go"
            exact ⟨_, rfl, _, _, _, by walk_at "h", by omega, by omega, by omega, by omega, by walk_at "chg"⟩
        · walk_at "go"
          exact ⟨_, rfl, i, g, m, by walk_at "h", hi, hg, hm, hm', by walk_at "chg"⟩
      · walk_at "go"
        exact ⟨_, rfl, i, g, m, by walk_at "h", hi, hg, hm, hm', by walk_at "chg"⟩
    rintro σ' H' ⟨x2, rfl, i', g', m', hB', hi', hg', hm1, hm2, ch⟩
    have hl' : H' l = some (HO.lst (List.map V.int ns)) := by walk_at "h"
    walk_at "go"
    refine g_iteD (fun h3 => ?_) (fun h3 => ?_)
    · have hs : 0 < size := by omega
      have hd : CDiv g' size := ⟨by omega, by omega⟩
      walk_at "go"
      exact q _ _ (Int.emod_nonneg _ (by omega)) (Int.emod_lt_of_pos _ (by omega))
        ⟨ns, _, _, _, _, by walk_at "h", by walk_at "h", hla, hi', Int.ediv_nonneg hg' (by omega), hm1, hm2, hc'⟩ (by walk_at "chg")
    · have hs : 0 < size := by omega
      walk_at "go"
      refine g_iteX (by omega) ?_
      walk_at "go"
      exact q _ _ (Int.emod_nonneg _ (by omega)) (Int.emod_lt_of_pos _ (by omega))
        ⟨ns, _, _, _, _, by walk_at "h", by walk_at "h", hla, hi', hg', by omega, by omega, hc'⟩ (by walk_at "chg")

theorem c_draw1 (T : Top K mg) : Cal P w K mg base "_law_draw" 1 P__law_draw (spDraw 1000000) := cal_mk T.f__law_draw (ok_draw1 T) (fun F => F.bindsN fun _ _ _ _ _ _ us hl => match us, hl with | [_, _], _ => rfl)
end

set_option Elab.async false
set_option linter.all false
set_option maxRecDepth 100000
set_option maxHeartbeats 4000000
open PySem PySem.Spec L2

section
variable {P : Program} {w : World} {K : PySem.W.Frag} {mg : Str → Option Value} {base : Heap}
abbrev FnP (K : PySem.W.Frag) (x : Str) (st : Stmt) (f : Addr) (fd : FuncData) : Prop := FunD K x x (defArgs st) (defBody st) (defScope st) [] [] f fd
theorem g_draw1 {a l : Addr} {size : Int} {H : Hp} {Q : VK} {E : XK} (hB : Bag H a l) (h1 : 1 ≤ size ∧ size ≤ 1000000) (q : ∀ (r : Int) (H' : Hp), 0 ≤ r → r < size → Bag H' a l → Chg a H H' → Q (.int r) H') :
    spDraw 1000000 [.ref a, .int size] H Q E := ⟨a, l, size, rfl, hB, h1.1, h1.2, q⟩
theorem bag_of {H : Hp} {a l : Addr} {ns : List Int} {i g m c : Int} (hB : H a = some (HO.lst [V.ref l, V.int i, V.int g, V.int m, V.int c])) (hl : H l = some (HO.lst (ns.map V.int))) (hla : l ≠ a)
    (hi : 0 ≤ i) (hg : 0 ≤ g) (hm : 0 ≤ m) (hm' : m < 2147483629) (hc : 0 ≤ c) : Bag H a l := ⟨ns, i, g, m, c, hB, hl, hla, hi, hg, hm, hm', hc⟩
theorem bag_new {H : Hp} {a l p : Addr} {o : HO} (h : Bag H a l) (hp : H p = none) : Bag (L2.upd H p o) a l := by
  obtain ⟨ns, i, g, m, c, hB, hl, r⟩ := h
  exact ⟨ns, i, g, m, c, h_ne (ne_of_none hB hp) hB, h_ne (ne_of_none hl hp) hl, r⟩
theorem bag_sm {H H' : Hp} {a l : Addr} (h : Bag H a l) (s : Same H H') : Bag H' a l := by
  obtain ⟨ns, i, g, m, c, hB, hl, r⟩ := h
  exact ⟨ns, i, g, m, c, s _ _ hB, s _ _ hl, r⟩
theorem bag_chg {H : Hp} {a l D : Addr} {o : HO} (h : Bag H a l) (h1 : D ≠ a) (h2 : D ≠ l) : Bag (L2.upd H D o) a l := by
  obtain ⟨ns, i, g, m, c, hB, hl, r⟩ := h
  exact ⟨ns, i, g, m, c, h_ne (Ne.symm h1) hB, h_ne (Ne.symm h2) hl, r⟩
theorem bag_apart {H : Hp} {a l D : Addr} (h : Bag H a l) (hD : H D = none) : D ≠ a ∧ D ≠ l := by
  obtain ⟨ns, i, g, m, c, hB, hl, r⟩ := h
  exact ⟨Ne.symm (ne_of_none hB hD), Ne.symm (ne_of_none hl hD)⟩
theorem ok_draw2 {f : Addr} {fd : FuncData} (T : Top K mg) (F : FnP K "_law_draw" s__law_draw f fd) :
    FnOk P w K mg base CX0 2 f fd P__law_draw (spDraw 1000000000) := by
  have C__law_draw : Cal P w K mg base "_law_draw" 1 P__law_draw (spDraw 1000000) := c_draw1 T
  refine F.ok sc__law_draw (fun vs H Q E h => ?_) (fun cdv A outer s H vs Q E hr h => ?_)
  · obtain ⟨a, l, size, rfl, _⟩ := h
    rfl
  · obtain ⟨a, l, size, rfl, ⟨ns, i, g, m, c, hB, hl, hla, hi, hg, hm, hm', hc⟩, h1, h2, q⟩ := h
    refine ⟨_, PSs.nox (C8.pss_cut (ps_asg (pe_op op_add (pe_ix (k_ix (K := K) (by rfl)) (pv 0) pe_int (fun _ _ => rfl)) pe_int) (pg_sub (pv 0) pe_int set_list))
    (C8.pss_cut (ps_if (PW.pt (pw_and (pt_cmpR op_eq (pe_ix (k_ix (K := K) (by rfl)) (pv 0) pe_int (fun _ _ => rfl)) pe_int (nomark _)) (pw_and1 (pt_cmpR op_lt (pe_ix (k_ix (K := K) (by rfl)) (pv 0) pe_int (fun _ _ => rfl)) (pe_callB (k_len (K := K) (by rfl)) (by rfl) T.z_len (by decide +kernel) (pa_cons (pe_ix (k_ix (K := K) (by rfl)) (pv 0) pe_int (fun _ _ => rfl)) pa_nil)) (nomark _)))))
    (pss_cons (ps_set (i := 2) sc__law_draw.nd rfl (by first | exact Or.inl rfl | exact Or.inr rfl) (pe_ix (k_ix (K := K) (by rfl)) (pe_ix (k_ix (K := K) (by rfl)) (pv 0) pe_int (fun _ _ => rfl)) (pe_ix (k_ix (K := K) (by rfl)) (pv 0) pe_int (fun _ _ => rfl)) (fun _ _ => rfl)))
    (pss_cons (ps_asg (pe_op op_add (pe_ix (k_ix (K := K) (by rfl)) (pv 0) pe_int (fun _ _ => rfl)) pe_int) (pg_sub (pv 0) pe_int set_list))
    (pss_one (ps_if (pt_cmpR op_ge (pv 2) (pe_op op_pow pe_int pe_int) (nomark _))
    (pss_one (ps_asg (pv 2) (pg_sub (pv 0) pe_int set_list)))
    (pss_one (ps_asg (pe_op op_mod (pe_callTy c_int (by rfl) T.z_int (by decide +kernel) (pa_cons (pe_op op_add (pe_op op_add (pe_op op_mul (pe_ix (k_ix (K := K) (by rfl)) (pv 0) pe_int (fun _ _ => rfl)) pe_int) (pe_op op_mul (pe_op op_mod (pe_callTy c_int (by rfl) T.z_int (by decide +kernel) (pa_cons (pv 2) pa_nil)) pe_int) pe_int)) pe_int) pa_nil)) pe_int) (pg_sub (pv 0) pe_int set_list)))))))
    pss_nil)
    (pss_cons (ps_if (pt_cmpR op_gt (pe_ix (k_ix (K := K) (by rfl)) (pv 0) pe_int (fun _ _ => rfl)) pe_int (nomark _))
    (pss_cons (ps_set (i := 3) sc__law_draw.nd rfl (by first | exact Or.inl rfl | exact Or.inr rfl) (pe_op op_mod (pe_callTy c_int (by rfl) T.z_int (by decide +kernel) (pa_cons (pe_ix (k_ix (K := K) (by rfl)) (pv 0) pe_int (fun _ _ => rfl)) pa_nil)) (pv 1)))
    (pss_cons (ps_asg (pe_op op_fdiv (pe_ix (k_ix (K := K) (by rfl)) (pv 0) pe_int (fun _ _ => rfl)) (pv 1)) (pg_sub (pv 0) pe_int set_list))
    (pss_one (ps_ret (pv 3)))))
    pss_nil)
    (pss_cons (ps_if (pt_cmpR op_gt (pv 1) (pe_op op_pow pe_int pe_int) (nomark _))
    (pss_one (ps_ret (pe_op op_mod (pe_callTy c_int (by rfl) T.z_int (by decide +kernel) (pa_cons (pe_op op_add (pe_op op_mul (pe_cal C__law_draw (hr.mono (by first | decide | omega)) (by rfl) (pa_cons (pv 0) (pa_cons (pe_op op_add (pe_op op_fdiv (pv 1) (pe_op op_pow pe_int pe_int)) pe_int) pa_nil))) (pe_op op_pow pe_int pe_int)) (pe_cal C__law_draw (hr.mono (by first | decide | omega)) (by rfl) (pa_cons (pv 0) (pa_cons (pe_op op_pow pe_int pe_int) pa_nil)))) pa_nil)) (pv 1))))
    pss_nil)
    (pss_cons (ps_asg (pe_op op_mod (pe_callTy c_int (by rfl) T.z_int (by decide +kernel) (pa_cons (pe_op op_add (pe_op op_add (pe_op op_pow (pe_ix (k_ix (K := K) (by rfl)) (pv 0) pe_int (fun _ _ => rfl)) pe_int) (pe_op op_mul (pe_ix (k_ix (K := K) (by rfl)) (pv 0) pe_int (fun _ _ => rfl)) pe_int)) pe_int) pa_nil)) pe_int) (pg_sub (pv 0) pe_int set_list))
    (pss_one (ps_ret (pe_op op_mod (pe_callTy c_int (by rfl) T.z_int (by decide +kernel) (pa_cons (pe_op op_add (pe_op op_fdiv (pe_ix (k_ix (K := K) (by rfl)) (pv 0) pe_int (fun _ _ => rfl)) pe_int) (pe_op op_mul (pe_op op_mod (pe_callTy c_int (by rfl) T.z_int (by decide +kernel) (pa_cons (pe_ix (k_ix (K := K) (by rfl)) (pv 0) pe_int (fun _ _ => rfl)) pa_nil)) pe_int) pe_int)) pa_nil)) (pv 1))))))))), ?_⟩
    try simp only [cxK]
    rw [show L2.start N__law_draw [V.ref a, V.int size] = [some (.ref a), some (.int size), none, none] from rfl]
    refine g_cut (fun σ' H' => σ' = [some (.ref a), some (.int size), none, none] ∧ ∃ c', H' = upd H a (.lst [V.ref l, V.int i, V.int g, V.int m, V.int c']) ∧ 0 ≤ c') ?_ ?_
    · walk_at "go"
      exact ⟨rfl, _, rfl, by omega⟩
    rintro σ' H' ⟨rfl, c', rfl, hc'⟩
    refine g_cut (fun σ' H' => ∃ x2, σ' = [some (.ref a), some (.int size), x2, none] ∧ ∃ i' g' m', H' a = some (.lst [V.ref l, V.int i', V.int g', V.int m', V.int c']) ∧
      0 ≤ i' ∧ 0 ≤ g' ∧ 0 ≤ m' ∧ m' < 2147483629 ∧ Chg a H H') ?_ ?_
    · walk_at "go"
      refine g_iteD (fun h3 => ?_) (fun h3 => ?_)
      · walk_at "go"
        refine g_iteD (fun h4 => ?_) (fun h4 => ?_)
        · have e : atI (ns.map V.int) i = some (.int (ns.getD i.toNat 0)) := by
            have z := atI_nat (xs := ns.map V.int) (j := i.toNat) (v := .int (ns.getD i.toNat 0)) (by
              rw [List.getElem?_map, List.getD_eq_getElem?_getD, List.getElem?_eq_getElem (by rw [List.length_map] at h4; omega)]; rfl)
            rwa [Int.toNat_of_nonneg hi] at z
          walk_at "go"
          refine g_iteD (fun h5 => ?_) (fun h5 => ?_)
          · walk_at "go"
            exact ⟨_, rfl, _, _, _, by walk_at "h", by omega, by omega, hm, hm', by walk_at "chg"⟩
          · walk_at "go"
            exact ⟨_, rfl, _, _, _, by walk_at "h", by omega, by omega, by omega, by omega, by walk_at "chg"⟩
        · walk_at "go"
          exact ⟨_, rfl, i, g, m, by walk_at "h", hi, hg, hm, hm', by walk_at "chg"⟩
      · walk_at "go"
        exact ⟨_, rfl, i, g, m, by walk_at "h", hi, hg, hm, hm', by walk_at "chg"⟩
    rintro σ' H' ⟨x2, rfl, i', g', m', hB', hi', hg', hm1, hm2, ch⟩
    have hl' : H' l = some (HO.lst (List.map V.int ns)) := by walk_at "h"
    walk_at "go"
    refine g_iteD (fun h3 => ?_) (fun h3 => ?_)
    · have hs : 0 < size := by omega
      have hd : CDiv g' size := ⟨by omega, by omega⟩
      walk_at "go"
      exact q _ _ (Int.emod_nonneg _ (by omega)) (Int.emod_lt_of_pos _ (by omega))
        ⟨ns, _, _, _, _, by walk_at "h", by walk_at "h", hla, hi', Int.ediv_nonneg hg' (by omega), hm1, hm2, hc'⟩ (by walk_at "chg")
    · have hs : 0 < size := by omega
      walk_at "go"
      refine g_iteD (fun h6 => ?_) (fun h6 => ?_)
      · have hBag : Bag H' a l := ⟨ns, _, _, _, _, by walk_at "h", by walk_at "h", hla, hi', hg', hm1, hm2, hc'⟩
        walk_at "go"
        refine g_draw1 hBag ⟨by omega, by omega⟩ fun r1 H1 r1a r1b B1 ch1 => ?_
        walk_at "go"
        refine g_draw1 B1 ⟨by omega, by omega⟩ fun r2 H2 r2a r2b B2 ch2 => ?_
        walk_at "go"
        exact q _ _ (Int.emod_nonneg _ (by omega)) (Int.emod_lt_of_pos _ (by omega)) B2 (by walk_at "chg")
      walk_at "go"
      exact q _ _ (Int.emod_nonneg _ (by omega)) (Int.emod_lt_of_pos _ (by omega))
        ⟨ns, _, _, _, _, by walk_at "h", by walk_at "h", hla, hi', hg', by omega, by omega, hc'⟩ (by walk_at "chg")
theorem c_draw2 (T : Top K mg) : Cal P w K mg base "_law_draw" 2 P__law_draw (spDraw 1000000000) := cal_mk T.f__law_draw (ok_draw2 T) (fun F => F.bindsN fun _ _ _ _ _ _ us hl => match us, hl with | [_, _], _ => rfl)
end

set_option Elab.async false
set_option linter.all false
set_option maxRecDepth 100000
set_option maxHeartbeats 4000000
open PySem PySem.Spec L2

section
variable {P : Program} {w : World} {K : PySem.W.Frag} {mg : Str → Option Value} {base : Heap}

theorem g_draw {a l : Addr} {size : Int} {H : Hp} {Q : VK} {E : XK} (hB : Bag H a l) (h1 : 1 ≤ size ∧ size ≤ 1000000000) (q : ∀ (r : Int) (H' : Hp), 0 ≤ r → r < size → Bag H' a l → Chg a H H' → Q (.int r) H') :
    spDraw 1000000000 [.ref a, .int size] H Q E := ⟨a, l, size, rfl, hB, h1.1, h1.2, q⟩
/-! _law_of -/
def spOf : Sp := fun vs H Q _ => ∃ (a l t : Addr) (xs : List V), vs = [.ref a, .ref t] ∧ Bag H a l ∧ H t = some (.lst xs) ∧ t ≠ a ∧ (1 ≤ xs.length ∧ xs.length ≤ 1000000) ∧
  ∀ (x : V) (H' : Hp), x ∈ xs → Bag H' a l → Chg a H H' → Q x H'
theorem g_of {a l t : Addr} {xs : List V} {H : Hp} {Q : VK} {E : XK} (hB : Bag H a l) (ht : H t = some (.lst xs)) (n : t ≠ a) (hl : 1 ≤ xs.length ∧ xs.length ≤ 1000000)
    (q : ∀ (x : V) (H' : Hp), x ∈ xs → Bag H' a l → Chg a H H' → Q x H') : spOf [.ref a, .ref t] H Q E := ⟨a, l, t, xs, rfl, hB, ht, n, hl, q⟩
theorem ok_of {f : Addr} {fd : FuncData} (T : Top K mg) (F : FnP K "_law_of" s__law_of f fd) : FnOk P w K mg base CX0 3 f fd P__law_of spOf := by
  have C__law_draw : Cal P w K mg base "_law_draw" 2 P__law_draw (spDraw 1000000000) := c_draw2 T
  refine F.ok sc__law_of (fun vs H Q E h => ?_) (fun cdv A outer s H vs Q E hr h => ?_)
  · obtain ⟨a, l, t, xs, rfl, _⟩ := h
    rfl
  · obtain ⟨a, l, t, xs, rfl, hB, ht, hn, hl, q⟩ := h
    refine ⟨_, PSs.nox (pss_one (ps_ret (pe_ix (k_ix (K := K) (by rfl)) (pv 1) (pe_cal C__law_draw (hr.mono (by first | decide | omega)) (by rfl) (pa_cons (pv 0) (pa_cons (pe_callB (k_len (K := K) (by rfl)) (by rfl) T.z_len (by decide +kernel) (pa_cons (pv 1) pa_nil)) pa_nil))) (fun _ _ => rfl)))), ?_⟩
    try simp only [cxK]
    rw [show L2.start N__law_of [V.ref a, V.ref t] = [some (.ref a), some (.ref t)] from rfl]
    walk_at "go"
    refine g_draw hB ⟨by omega, by omega⟩ fun r H1 ra rb B1 ch1 => ?_
    have e : atI xs r = some (xs.getD r.toNat .non) := by
      have z := atI_nat (xs := xs) (j := r.toNat) (v := xs.getD r.toNat .non) (by
        rw [List.getD_eq_getElem?_getD, List.getElem?_eq_getElem (by omega)]; rfl)
      rwa [Int.toNat_of_nonneg ra] at z
    walk_at "go"
    refine q _ _ ?_ B1 ch1
    rw [List.getD_eq_getElem?_getD, List.getElem?_eq_getElem (by omega)]
    exact List.getElem_mem _
theorem c_of (T : Top K mg) : Cal P w K mg base "_law_of" 3 P__law_of spOf := cal_mk T.f__law_of (ok_of T) (fun F => F.bindsN fun _ _ _ _ _ _ us hl => match us, hl with | [_, _], _ => rfl)
/-! numbers -/
def drawN (s p : Int) : Int := (s * 40503 + p * 30011 + 12345) % 65521
def spNum : Sp := fun vs H Q _ => ∃ (i j : Int), vs = [.int i, .int j] ∧ Q (.int (drawN i j)) H
theorem ok_drawn {f : Addr} {fd : FuncData} (F : FnP K "draw_number" s_draw_number f fd) : FnOk P w K mg base CX0 1 f fd P_draw_number spNum := by
  refine F.ok sc_draw_number (fun vs H Q E h => ?_) (fun cdv A outer s H vs Q E hr h => ?_)
  · obtain ⟨i, j, rfl, _⟩ := h
    rfl
  · obtain ⟨i, j, rfl, q⟩ := h
    refine ⟨_, PSs.nox (pss_one (ps_ret (pe_op op_mod (pe_op op_add (pe_op op_add (pe_op op_mul (pv 0) pe_int) (pe_op op_mul (pv 1) pe_int)) pe_int) pe_int))), ?_⟩
    rw [show L2.start N_draw_number [V.int i, V.int j] = [some (.int i), some (.int j)] from rfl]
    walk_at "go"
    exact q
theorem ok_number {f : Addr} {fd : FuncData} (T : Top K mg) (F : FnP K "_law_number" s__law_number f fd) : FnOk P w K mg base CX0 1 f fd P__law_number spNum := by
  refine F.ok sc__law_number (fun vs H Q E h => ?_) (fun cdv A outer s H vs Q E hr h => ?_)
  · obtain ⟨i, j, rfl, _⟩ := h
    rfl
  · obtain ⟨i, j, rfl, q⟩ := h
    refine ⟨_, PSs.nox (pss_cons (ps_set (i := 2) sc__law_number.nd rfl (by first | exact Or.inl rfl | exact Or.inr rfl) pe_int)
    (pss_cons (ps_set (i := 2) sc__law_number.nd rfl (by first | exact Or.inl rfl | exact Or.inr rfl) (pe_op op_mod (pe_callTy c_int (by rfl) T.z_int (by decide +kernel) (pa_cons (pe_op op_add (pv 2) (pe_op op_mul (pe_op op_mod (pe_callTy c_int (by rfl) T.z_int (by decide +kernel) (pa_cons (pv 0) pa_nil)) pe_int) pe_int)) pa_nil)) pe_int))
    (pss_one (ps_ret (pe_op op_mod (pe_callTy c_int (by rfl) T.z_int (by decide +kernel) (pa_cons (pe_op op_add (pv 2) (pe_op op_mul (pe_op op_mod (pe_callTy c_int (by rfl) T.z_int (by decide +kernel) (pa_cons (pv 1) pa_nil)) pe_int) pe_int)) pa_nil)) pe_int))))), ?_⟩
    try simp only [cxK]
    rw [show L2.start N__law_number [V.int i, V.int j] = [some (.int i), some (.int j), none] from rfl]
    walk_at "go"
    have e : ((12345 + i % 65521 * 40503) % 65521 + j % 65521 * 30011) % 65521 = drawN i j := by unfold drawN; omega
    rw [← e] at q
    exact q
theorem c_drawn (T : Top K mg) : Cal P w K mg base "draw_number" 1 P_draw_number spNum := cal_mk T.f_draw_number ok_drawn (fun F => F.bindsN fun _ _ _ _ _ _ us hl => match us, hl with | [_, _], _ => rfl)
theorem c_number (T : Top K mg) : Cal P w K mg base "_law_number" 1 P__law_number spNum := cal_mk T.f__law_number (ok_number T) (fun F => F.bindsN fun _ _ _ _ _ _ us hl => match us, hl with | [_, _], _ => rfl)
/-! _law_like, of ints -/
def spLike : Sp := fun vs H Q _ => ∃ (i j : Int), vs = [.int i, .int j] ∧ ∀ H', Same H H' → Q (.bl (decide (i = j))) H'
theorem ok_like {f : Addr} {fd : FuncData} (T : Top K mg) (F : FnP K "_law_like" s__law_like f fd) : FnOk P w K mg base CX0 1 f fd P__law_like spLike := by
  refine F.ok sc__law_like (fun vs H Q E h => ?_) (fun cdv A outer s H vs Q E hr h => ?_)
  · obtain ⟨i, j, rfl, _⟩ := h
    rfl
  · obtain ⟨i, j, rfl, q⟩ := h
    refine ⟨_, PSs.nox (pss_cons (ps_if (pt_val (pe_callB (k_isiT (K := K) (by rfl)) (by rfl) T.z_isinstance (by decide +kernel) (pa_cons (pv 1) (pa_cons (pe_tup (pa_cons (pe_bltn (v := .ty "list") (u := .type "list") (by rfl) T.z_list (by decide +kernel) rfl) (pa_cons (pe_bltn (v := .ty "tuple") (u := .type "tuple") (by rfl) T.z_tuple (by decide +kernel) rfl) pa_nil))) pa_nil))))
    pss_never
    pss_nil)
    (pss_cons (ps_if (PW.pt (pw_or (pt_cmpR o_isN (pv 1) pe_non (nomark _)) (pw_or1 (pt_cmpR o_isN (pv 0) pe_non (nomark _)))))
    (pss_one (ps_ret (pe_and (pe_cmpR o_isN (pv 1) pe_non (nomark _)) (pe_one (pe_cmpR o_isN (pv 0) pe_non (nomark _))))))
    pss_nil)
    (pss_cons (ps_if (PW.pt (pw_or (pt_val (pe_callB (k_isiT (K := K) (by rfl)) (by rfl) T.z_isinstance (by decide +kernel) (pa_cons (pv 0) (pa_cons (pe_tup (pa_cons (pe_bltn (v := .ty "list") (u := .type "list") (by rfl) T.z_list (by decide +kernel) rfl) (pa_cons (pe_bltn (v := .ty "tuple") (u := .type "tuple") (by rfl) T.z_tuple (by decide +kernel) rfl) pa_nil))) pa_nil)))) (pw_or1 (pt_cmpR op_ne (pe_callB (k_isi (K := K) (by rfl)) (by rfl) T.z_isinstance (by decide +kernel) (pa_cons (pv 0) (pa_cons (pe_bltn (v := .ty "bool") (u := .type "bool") (by rfl) T.z_bool (by decide +kernel) rfl) pa_nil))) (pe_callB (k_isi (K := K) (by rfl)) (by rfl) T.z_isinstance (by decide +kernel) (pa_cons (pv 1) (pa_cons (pe_bltn (v := .ty "bool") (u := .type "bool") (by rfl) T.z_bool (by decide +kernel) rfl) pa_nil))) (nomark _)))))
    (pss_one (ps_ret pe_bl))
    pss_nil)
    (pss_cons (ps_if (PW.pt (pw_or (pt_cmpR op_ne (pe_callB (k_isi (K := K) (by rfl)) (by rfl) T.z_isinstance (by decide +kernel) (pa_cons (pv 0) (pa_cons (pe_bltn (v := .ty "str") (u := .type "str") (by rfl) T.z_str (by decide +kernel) rfl) pa_nil))) (pe_callB (k_isi (K := K) (by rfl)) (by rfl) T.z_isinstance (by decide +kernel) (pa_cons (pv 1) (pa_cons (pe_bltn (v := .ty "str") (u := .type "str") (by rfl) T.z_str (by decide +kernel) rfl) pa_nil))) (nomark _)) (pw_or1 (pt_cmpR op_ne (pe_callB (k_isi (K := K) (by rfl)) (by rfl) T.z_isinstance (by decide +kernel) (pa_cons (pv 0) (pa_cons (pe_bltn (v := .ty "int") (u := .type "int") (by rfl) T.z_int (by decide +kernel) rfl) pa_nil))) (pe_callB (k_isi (K := K) (by rfl)) (by rfl) T.z_isinstance (by decide +kernel) (pa_cons (pv 1) (pa_cons (pe_bltn (v := .ty "int") (u := .type "int") (by rfl) T.z_int (by decide +kernel) rfl) pa_nil))) (nomark _)))))
    (pss_one (ps_ret pe_bl))
    pss_nil)
    (pss_one (ps_ret (pe_cmpR op_eq (pv 0) (pv 1) (nomark _)))))))), ?_⟩
    try simp only [cxK]
    rw [show L2.start N__law_like [V.int i, V.int j] = [some (.int i), some (.int j), none, none] from rfl]
    walk_at "go"
    exact q _ ((same_new (by assumption)).trans (same_new (by assumption)))
theorem c_like (T : Top K mg) : Cal P w K mg base "_law_like" 1 P__law_like spLike := cal_mk T.f__law_like (ok_like T) (fun F => F.bindsN fun _ _ _ _ _ _ us hl => match us, hl with | [_, _], _ => rfl)
end

set_option Elab.async false
set_option linter.all false
set_option maxRecDepth 100000
set_option maxHeartbeats 4000000
open PySem PySem.Spec L2

local macro_rules | `(tactic| walk_at "bag") => `(tactic| first
  | with_reducible assumption
  | ((with_reducible refine' bag_new ?k1 (by with_reducible assumption)); (case k1 => walk_at "bag"))
  | ((with_reducible refine' bag_sm ?k1 (by with_reducible assumption)); (case k1 => walk_at "bag")))

section
variable {P : Program} {w : World} {K : PySem.W.Frag} {mg : Str → Option Value} {base : Heap}

/-! numbers between two -/
def spBnd (lo hi : Int) : Sp := fun vs H Q _ => ∃ (a l : Addr), vs = [.ref a] ∧ Bag H a l ∧ ∀ (r : Int) (H' : Hp), lo ≤ r → r ≤ hi → Bag H' a l → Chg a H H' → Q (.int r) H'
theorem g_bnd {lo hi : Int} {a l : Addr} {H : Hp} {Q : VK} {E : XK} (hB : Bag H a l) (q : ∀ (r : Int) (H' : Hp), lo ≤ r → r ≤ hi → Bag H' a l → Chg a H H' → Q (.int r) H') : spBnd lo hi [.ref a] H Q E := ⟨a, l, rfl, hB, q⟩
theorem ne_bag {H : Hp} {a l p : Addr} (h : Bag H a l) (hp : H p = none) : p ≠ a := by
  obtain ⟨ns, i, g, m, c, hB, _⟩ := h
  exact Ne.symm (ne_of_none hB hp)
theorem ok_seed {f : Addr} {fd : FuncData} (T : Top K mg) (F : FnP K "_law_seed" s__law_seed f fd) : FnOk P w K mg base CX0 4 f fd P__law_seed (spBnd 0 10003) := by
  have C__law_draw : Cal P w K mg base "_law_draw" 2 P__law_draw (spDraw 1000000000) := c_draw2 T
  have C__law_of : Cal P w K mg base "_law_of" 3 P__law_of spOf := c_of T
  refine F.ok sc__law_seed (fun vs H Q E h => ?_) (fun cdv A outer s H vs Q E hr h => ?_)
  · obtain ⟨a, l, rfl, _⟩ := h
    rfl
  · obtain ⟨a, l, rfl, hB, q⟩ := h
    refine ⟨_, PSs.nox (pss_one (ps_ret (pe_cal C__law_of (hr.mono (by first | decide | omega)) (by rfl) (pa_cons (pv 0) (pa_cons (pe_lst (pa_cons pe_int (pa_cons pe_int (pa_cons pe_int (pa_cons pe_int (pa_cons (pe_cal C__law_draw (hr.mono (by first | decide | omega)) (by rfl) (pa_cons (pv 0) (pa_cons pe_int pa_nil))) (pa_cons (pe_cal C__law_draw (hr.mono (by first | decide | omega)) (by rfl) (pa_cons (pv 0) (pa_cons pe_int pa_nil))) pa_nil))))))) pa_nil))))), ?_⟩
    try simp only [cxK]
    rw [show L2.start N__law_seed [V.ref a] = [some (.ref a)] from rfl]
    walk_at "go"
    refine g_draw hB ⟨by omega, by omega⟩ fun r1 H1 a1 b1 B1 c1 => ?_
    walk_at "go"
    refine g_draw B1 ⟨by omega, by omega⟩ fun r2 H2 a2 b2 B2 c2 => ?_
    walk_at "go"
    rename_i p hp
    refine g_of (by walk_at "bag") upd_same (ne_bag B2 hp) ⟨by show 1 ≤ 6; decide, by show 6 ≤ 1000000; decide⟩ fun x H3 hx B3 c3 => ?_
    have ch : Chg a H H3 := ((c1.trans c2).lay hp).trans c3
    simp only [List.mem_cons, List.mem_nil_iff, or_false] at hx
    rcases hx with rfl | rfl | rfl | rfl | rfl | rfl <;> exact q _ _ (by omega) (by omega) B3 ch
theorem ok_spot {f : Addr} {fd : FuncData} (T : Top K mg) (F : FnP K "_law_spot" s__law_spot f fd) : FnOk P w K mg base CX0 4 f fd P__law_spot (spBnd 0 999999998) := by
  have C__law_draw : Cal P w K mg base "_law_draw" 2 P__law_draw (spDraw 1000000000) := c_draw2 T
  have C__law_of : Cal P w K mg base "_law_of" 3 P__law_of spOf := c_of T
  refine F.ok sc__law_spot (fun vs H Q E h => ?_) (fun cdv A outer s H vs Q E hr h => ?_)
  · obtain ⟨a, l, rfl, _⟩ := h
    rfl
  · obtain ⟨a, l, rfl, hB, q⟩ := h
    refine ⟨_, PSs.nox (pss_one (ps_ret (pe_cal C__law_of (hr.mono (by first | decide | omega)) (by rfl) (pa_cons (pv 0) (pa_cons (pe_lst (pa_cons pe_int (pa_cons pe_int (pa_cons pe_int (pa_cons (pe_cal C__law_draw (hr.mono (by first | decide | omega)) (by rfl) (pa_cons (pv 0) (pa_cons pe_int pa_nil))) (pa_cons (pe_cal C__law_draw (hr.mono (by first | decide | omega)) (by rfl) (pa_cons (pv 0) (pa_cons pe_int pa_nil))) (pa_cons (pe_cal C__law_draw (hr.mono (by first | decide | omega)) (by rfl) (pa_cons (pv 0) (pa_cons pe_int pa_nil))) (pa_cons (pe_cal C__law_draw (hr.mono (by first | decide | omega)) (by rfl) (pa_cons (pv 0) (pa_cons pe_int pa_nil))) pa_nil)))))))) pa_nil))))), ?_⟩
    try simp only [cxK]
    rw [show L2.start N__law_spot [V.ref a] = [some (.ref a)] from rfl]
    walk_at "go"
    refine g_draw hB ⟨by omega, by omega⟩ fun r1 H1 a1 b1 B1 c1 => ?_
    walk_at "go"
    refine g_draw B1 ⟨by omega, by omega⟩ fun r2 H2 a2 b2 B2 c2 => ?_
    walk_at "go"
    refine g_draw B2 ⟨by omega, by omega⟩ fun r3 H3 a3 b3 B3 c3 => ?_
    walk_at "go"
    refine g_draw B3 ⟨by omega, by omega⟩ fun r4 H4 a4 b4 B4 c4 => ?_
    walk_at "go"
    rename_i p hp
    refine g_of (by walk_at "bag") upd_same (ne_bag B4 hp) ⟨by show 1 ≤ 7; decide, by show 7 ≤ 1000000; decide⟩ fun x H5 hx B5 c5 => ?_
    have ch : Chg a H H5 := ((((c1.trans c2).trans c3).trans c4).lay hp).trans c5
    simp only [List.mem_cons, List.mem_nil_iff, or_false] at hx
    rcases hx with rfl | rfl | rfl | rfl | rfl | rfl | rfl <;> exact q _ _ (by omega) (by omega) B5 ch
theorem c_seed (T : Top K mg) : Cal P w K mg base "_law_seed" 4 P__law_seed (spBnd 0 10003) := cal_mk T.f__law_seed (ok_seed T) (fun F => F.bindsN fun _ _ _ _ _ _ us hl => match us, hl with | [_], _ => rfl)
theorem c_spot (T : Top K mg) : Cal P w K mg base "_law_spot" 4 P__law_spot (spBnd 0 999999998) := cal_mk T.f__law_spot (ok_spot T) (fun F => F.bindsN fun _ _ _ _ _ _ us hl => match us, hl with | [_], _ => rfl)
/-! _law_bag -/
def spBag (K : PySem.W.Frag) : Sp := fun vs H Q _ => ∃ (a : Addr) (ns : List Int), vs = [.ref a] ∧ SqL K H a (ns.map V.int) ∧ ∀ (p l : Addr) (H' : Hp), Bag H' p l → H p = none → Same H H' → Q (.ref p) H'
theorem ok_bag {f : Addr} {fd : FuncData} (T : Top K mg) (F : FnP K "_law_bag" s__law_bag f fd) : FnOk P w K mg base CX0 1 f fd P__law_bag (spBag K) := by
  refine F.ok sc__law_bag (fun vs H Q E h => ?_) (fun cdv A outer s H vs Q E hr h => ?_)
  · obtain ⟨a, ns, rfl, _⟩ := h
    rfl
  · obtain ⟨a, ns, rfl, hS, q⟩ := h
    refine ⟨_, PSs.nox (pss_cons (ps_set (i := 1) sc__law_bag.nd rfl (by first | exact Or.inl rfl | exact Or.inr rfl) pe_int)
    (pss_cons (ps_for PassesOwn.never rfl (k_pil (K := K) (by rfl) (pe_slice (k_sl (K := K) (by rfl)) (pv 0) po_none (po_some pe_int))) (pg_name (i := 2) sc__law_bag.nd rfl (by first | exact Or.inl rfl | exact Or.inr rfl))
    (pss_one (ps_set (i := 1) sc__law_bag.nd rfl (by first | exact Or.inl rfl | exact Or.inr rfl) (pe_op op_mod (pe_callTy c_int (by rfl) T.z_int (by decide +kernel) (pa_cons (pe_op op_add (pe_op op_add (pe_op op_mul (pv 1) pe_int) (pe_op op_mod (pe_callTy c_int (by rfl) T.z_int (by decide +kernel) (pa_cons (pv 2) pa_nil)) pe_int)) pe_int) pa_nil)) pe_int))))
    (pss_one (ps_ret (pe_lst (pa_cons (pe_callTy (k_list (K := K) (by rfl)) (by rfl) T.z_list (by decide +kernel) (pa_cons (pe_slice (k_sl (K := K) (by rfl)) (pv 0) po_none (po_some pe_int)) pa_nil)) (pa_cons pe_int (pa_cons pe_int (pa_cons (pv 1) (pa_cons pe_int pa_nil)))))))))), ?_⟩
    try simp only [cxK]
    rw [show L2.start N__law_bag [V.ref a] = [some (.ref a), none, none] from rfl]
    walk_at "go"
    rename_i p hp
    have ec : cutV (ns.map V.int) none (some 63) = (ns.take 63).map V.int := by
      unfold cutV
      rw [HT.sIx_none, show HT.sIx (ns.map V.int).length (ns.map V.int).length (some 63) = min 63 (ns.map V.int).length from HT.sIx_nat _ _ 63]
      rw [List.drop_zero, Nat.sub_zero, ← List.map_take]
      congr 1
      rw [List.length_map]
      rcases Nat.le_total 63 ns.length with z | z
      · rw [Nat.min_eq_left z]
      · rw [Nat.min_eq_right z, List.take_length, List.take_of_length_le z]
    rw [ec]
    have s1 : Same H (upd H p (.lst ((ns.take 63).map V.int))) := same_new hp
    refine forL (xs := (ns.take 63).map V.int) ⟨fun i σ' H' => ∃ m y, σ' = [some (.ref a), some (.int m), y] ∧ 0 ≤ m ∧ m < 2147483629 ∧ H' = upd H p (.lst ((ns.take 63).map V.int)), ⟨_, _, rfl, by decide, by decide, rfl⟩, ?_, ?_, ?_⟩
    · rintro i σ' H' _ ⟨m, y, rfl, _, _, rfl⟩
      exact SqL.of upd_same
    · rintro i x σ' H' hx ⟨m, y, rfl, hm, hm', rfl⟩
      rw [List.getElem?_map, Option.map_eq_some_iff] at hx
      obtain ⟨n, _, rfl⟩ := hx
      walk_at "go"
      exact ⟨_, _, rfl, by omega, by omega, rfl⟩
    · rintro σ' H' ⟨m, y, rfl, hm, hm', rfl⟩
      have hS1 : SqL K (upd H p (.lst ((ns.take 63).map V.int))) a (ns.map V.int) := s1.seq hS
      walk_at "go"
      rename_i p2 hp2 p3 hp3 p1 hp1
      rw [ec] at *
      have s2 := same_new hp2 (o := .lst ((ns.take 63).map V.int))
      have s3 := same_new hp3 (o := .lst ((ns.take 63).map V.int))
      have s4 := same_new hp1 (o := .lst [V.ref p3, V.int 0, V.int 0, V.int m, V.int 0])
      refine q p1 p3 _ ⟨ns.take 63, 0, 0, m, 0, upd_same, s4 _ _ upd_same, ?_, by decide, by decide, hm, hm', by decide⟩ (((s1.trans s2).trans s3).free hp1) (((s1.trans s2).trans s3).trans s4)
      exact ne_of_none upd_same hp1
theorem c_bag (T : Top K mg) : Cal P w K mg base "_law_bag" 1 P__law_bag (spBag K) := cal_mk T.f__law_bag (ok_bag T) (fun F => F.bindsN fun _ _ _ _ _ _ us hl => match us, hl with | [_], _ => rfl)
end

set_option Elab.async false
set_option linter.all false
set_option maxRecDepth 100000
set_option maxHeartbeats 4000000
open PySem PySem.Spec L2

section
variable {P : Program} {w : World} {K : PySem.W.Frag} {mg : Str → Option Value} {base : Heap}

/-! the mathematics of a choice -/
def cnt (ws : List Int) : Option (List Int) → List Int
  | none => ws
  | some S => ws.mapIdx fun i w => if (i : Int) ∈ S then w else 0
theorem cnt_len (ws : List Int) (al : Option (List Int)) : (cnt ws al).length = ws.length := by
  cases al with
  | none => rfl
  | some S => exact List.length_mapIdx
theorem cnt_nn {ws : List Int} (h : ∀ x ∈ ws, 0 ≤ x) (al : Option (List Int)) : ∀ x ∈ cnt ws al, 0 ≤ x := by
  cases al with
  | none => exact h
  | some S =>
    intro x hx
    obtain ⟨i, hi, rfl⟩ := List.mem_mapIdx.mp hx
    split
    · exact h _ (List.getElem_mem _)
    · exact Int.le_refl 0
/-- what a choice from counted weights c is: z if all are 0, else the first greatest, or the one at which the sum passes n mod the whole sum -/
structure Chosen (c : List Int) (z : Int) (best : Bool) (n : Int) (t : Int) : Prop where
  zero : (∀ x ∈ c, x = 0) → t = z
  rest : ¬ (∀ x ∈ c, x = 0) → ∃ j : Nat, t = j ∧ j < c.length ∧
    (best = true → (∀ x ∈ c, x ≤ c.getD j 0) ∧ ∀ m < j, c.getD m 0 < c.getD j 0) ∧
    (best = false → (c.take j).sum ≤ n % c.sum ∧ n % c.sum < (c.take (j + 1)).sum)
theorem take_mono {c : List Int} (h : ∀ x ∈ c, 0 ≤ x) {i j : Nat} (hij : i ≤ j) : (c.take i).sum ≤ (c.take j).sum := by
  induction c generalizing i j with
  | nil => simp
  | cons a r ih =>
    have ha := h a (List.mem_cons_self ..)
    have hr : ∀ x ∈ r, 0 ≤ x := fun x hx => h x (List.mem_cons_of_mem _ hx)
    cases i with
    | zero =>
      rw [List.take_zero, List.sum_nil]
      cases j with
      | zero => simp
      | succ j =>
        rw [List.take_succ_cons, List.sum_cons]
        have z := ih hr (Nat.zero_le j)
        rw [List.take_zero, List.sum_nil] at z
        omega
    | succ i =>
      obtain ⟨j, rfl⟩ : ∃ k, j = k + 1 := ⟨j - 1, by omega⟩
      rw [List.take_succ_cons, List.take_succ_cons, List.sum_cons, List.sum_cons]
      have z := ih hr (show i ≤ j by omega)
      omega
theorem chosen_one {c : List Int} (hc : ∀ x ∈ c, 0 ≤ x) {z n t t' : Int} {b : Bool} (h : Chosen c z b n t) (h' : Chosen c z b n t') : t = t' := by
  by_cases e : ∀ x ∈ c, x = 0
  · rw [h.zero e, h'.zero e]
  · obtain ⟨j, rfl, hj, b1, d1⟩ := h.rest e
    obtain ⟨k, rfl, hk, b2, d2⟩ := h'.rest e
    have gmem : ∀ i, i < c.length → c.getD i 0 ∈ c := fun i hi => by
      rw [List.getD_eq_getElem?_getD, List.getElem?_eq_getElem hi]
      exact List.getElem_mem hi
    cases b with
    | true =>
      obtain ⟨m1, l1⟩ := b1 rfl
      obtain ⟨m2, l2⟩ := b2 rfl
      rcases Nat.lt_trichotomy j k with q | q | q
      · have := l2 j q
        have := m1 _ (gmem k hk)
        omega
      · rw [q]
      · have := l1 k q
        have := m2 _ (gmem j hj)
        omega
    | false =>
      obtain ⟨m1, l1⟩ := d1 rfl
      obtain ⟨m2, l2⟩ := d2 rfl
      rcases Nat.lt_trichotomy j k with q | q | q
      · have := take_mono hc (show j + 1 ≤ k by omega)
        omega
      · rw [q]
      · have := take_mono hc (show k + 1 ≤ j by omega)
        omega
/-! _counted -/
def AlV (K : PySem.W.Frag) (H : Hp) (v : V) : Option (List Int) → Prop
  | none => v = .non
  | some S => ∃ b, v = .ref b ∧ (SqL K H b (S.map V.int) ∨ SqT K H b (S.map V.int))
def spCnt (K : PySem.W.Frag) : Sp := fun vs H Q _ => ∃ (a : Addr) (v : V) (ws : List Int) (al : Option (List Int)), vs = [.ref a, v] ∧ (SqL K H a (ws.map V.int) ∨ SqT K H a (ws.map V.int)) ∧ ws.length ≤ 1000 ∧ AlV K H v al ∧
  ∀ (p : Addr) (H' : Hp), H' p = some (.lst ((cnt ws al).map V.int)) → H p = none → Same H H' → Q (.ref p) H'
theorem ok_counted {f : Addr} {fd : FuncData} (T : Top K mg) (F : FnP K "_counted" s__counted f fd) : FnOk P w K mg base CX0 1 f fd P__counted (spCnt K) := by
  refine F.ok sc__counted (fun vs H Q E h => ?_) (fun cdv A outer s H vs Q E hr h => ?_)
  · obtain ⟨a, v, ws, al, rfl, _⟩ := h
    rfl
  · obtain ⟨a, v, ws, al, rfl, hS, hlen, hal, q⟩ := h
    refine ⟨_, PSs.nox (pss_cons (ps_if (pt_cmpR o_isN (pv 1) pe_non (nomark _))
    (pss_one (ps_ret (pe_callTy (k_list (K := K) (by rfl)) (by rfl) T.z_list (by decide +kernel) (pa_cons (pv 0) pa_nil))))
    pss_nil)
    (pss_one (ps_ret (pe_lc (own := [("token", 2), ("weight", 3)]) (g := gTup K 2 (gCons (gName 2) (gCons (gName 3) gNil))) (by rfl) sc__counted.nd (k_en2 (K := K) (by rfl) (by rfl) T.z_enumerate (pa_cons (pv 0) pa_nil)) (blkOk_by (own := [("token", 2), ("weight", 3)]) (N := N__counted) (sc := defScope s__counted) (by decide +kernel)) (fun _ _ _ _ _ => (k_pgt (K := K) (n := 2) (by rfl) (by rfl) (pgs_cons (pg_name (i := 2) sc__counted.nd rfl (Or.inl rfl)) (pgs_cons (pg_name (i := 3) sc__counted.nd rfl (Or.inl rfl)) pgs_nil)) (by rfl) (by rfl))) (fun _ _ _ _ _ => pts_nil) (fun _ _ _ _ _ => (pe_ifExp (pt_cmpR (k_in (K := K) (by rfl)) (pv 2) (pv 1) (by first | rfl | exact nomark _)) (pv 3) pe_int)))))), ?_⟩
    try simp only [cxK]
    rw [show L2.start N__counted [V.ref a, v] = [some (.ref a), some v, none, none] from rfl]
    cases al with
    | none =>
      obtain rfl : v = .non := hal
      walk_at "go"
      rename_i p hp
      exact q p _ upd_same hp (same_new hp)
    | some S =>
      obtain ⟨b, rfl, hA⟩ := hal
      walk_at "go"
      have turn : ∀ (D : Addr), H D = none → ∀ (i : Nat) (x : V) (T : Addr) (H' : Hp), (ws.map V.int)[i]? = some x → (H' D = some (.lst (((cnt ws (some S)).take i).map V.int)) ∧ Chg D H H') → H' T = none →
          Turn1 (gTup K 2 (gCons (gName 2) (gCons (gName 3) gNil))) tYes (tIf (tTest (tOp (rIn K false) (tVar 2) (tVar 1))) (tVar 3) (tC (V.int 0))) [2, 3]
            [some (V.ref a), some (V.ref b), none, none] D (.ref T) (upd H' T (.tup [.int (i : Nat), x])) fun H2 => H2 D = some (.lst (((cnt ws (some S)).take (i + 1)).map V.int)) ∧ Chg D H H2 := by
        intro D hD i x T H' hx ⟨e1, c1⟩ hT
        rw [List.getElem?_map, Option.map_eq_some_iff] at hx
        obtain ⟨n, hn, rfl⟩ := hx
        have s1 : Same H (upd H' T (.tup [.int (i : Nat), .int n])) := (chg_same c1 hD).trans (same_new hT)
        have hA1 := lt_same s1 hA
        have nT : T ≠ D := Ne.symm (ne_of_none e1 hT)
        have e2 : (upd H' T (.tup [.int (i : Nat), .int n])) D = some (.lst (((cnt ws (some S)).take i).map V.int)) := by walk_at "h"
        have lenA : (((cnt ws (some S)).take i).map V.int).length ≤ 1000 := by
          rw [List.length_map, List.length_take, cnt_len]
          omega
        have nxt : ∀ y : Int, (cnt ws (some S))[i]? = some y → ((cnt ws (some S)).take (i + 1)).map V.int = ((cnt ws (some S)).take i).map V.int ++ [.int y] := fun y hy => by
          rw [List.take_add_one, hy, List.map_append]
          rfl
        have at_i : (cnt ws (some S))[i]? = some (if (i : Int) ∈ S then n else 0) := by
          unfold cnt
          rw [List.getElem?_mapIdx, hn]
          rfl
        have fin : ∀ y : Int, (cnt ws (some S))[i]? = some y → TurnD D (fun H2 => H2 D = some (.lst (((cnt ws (some S)).take (i + 1)).map V.int)) ∧ Chg D H H2) (.int y) (upd H' T (.tup [.int (i : Nat), .int n])) := fun y hy =>
          g_turnD e2 lenA ⟨by rw [upd_same, nxt y hy], by walk_at "chg"⟩
        walk_at "go"
        refine g_iteD (fun hin => ?_) (fun hin => ?_)
        · walk_at "go"
          rw [if_pos hin] at at_i
          exact fin n at_i
        · walk_at "go"
          rw [if_neg hin] at at_i
          exact fin 0 at_i
      have last : ∀ (D : Addr) (H' : Hp), H D = none → (H' D = some (.lst (((cnt ws (some S)).take (ws.map V.int).length).map V.int)) ∧ Chg D H H') → Q (.ref D) H' := fun D H' hD ⟨e1, c1⟩ =>
        q D H' (by rw [e1, List.length_map, ← cnt_len ws (some S), List.take_length]) hD (chg_same c1 hD)
      rcases hS with hS | hS
      · refine g_en2L hS ?_
        refine lcE (xs := ws.map V.int) (σ0 := [some (V.ref a), some (V.ref b), none, none]) rfl fun D hD => ⟨fun i H2 => H2 D = some (.lst (((cnt ws (some S)).take i).map V.int)) ∧ Chg D H H2, ⟨upd_same, Chg.upd⟩, ?_, turn D hD, fun H' h => last D H' hD h⟩
        exact fun i H' _ h => (chg_same h.2 hD).seq hS
      · refine g_en2T hS ?_
        refine lcET (xs := ws.map V.int) (σ0 := [some (V.ref a), some (V.ref b), none, none]) rfl fun D hD => ⟨fun i H2 => H2 D = some (.lst (((cnt ws (some S)).take i).map V.int)) ∧ Chg D H H2, ⟨upd_same, Chg.upd⟩, ?_, turn D hD, fun H' h => last D H' hD h⟩
        exact fun i H' _ h => seqT_same (chg_same h.2 hD) hS
theorem c_counted (T : Top K mg) : Cal P w K mg base "_counted" 1 P__counted (spCnt K) := cal_mk T.f__counted (ok_counted T) (fun F => F.bindsN fun _ _ _ _ _ _ us hl => match us, hl with | [_, _], _ => rfl)
/-! _token_above -/
def spAbv (K : PySem.W.Frag) : Sp := fun vs H Q _ => ∃ (a : Addr) (c : List Int) (n : Int), vs = [.ref a, .int n] ∧ SqL K H a (c.map V.int) ∧ (∀ x ∈ c, 0 ≤ x) ∧ 0 ≤ n ∧ n < c.sum ∧
  ∀ j : Nat, j < c.length → (c.take j).sum ≤ n → n < (c.take (j + 1)).sum → Q (.int j) H
theorem sum_take1 {c : List Int} {j : Nat} (h : j < c.length) : (c.take (j + 1)).sum = (c.take j).sum + c.getD j 0 := by
  rw [List.take_add_one, List.getElem?_eq_getElem h, List.sum_append, List.getD_eq_getElem?_getD, List.getElem?_eq_getElem h]
  simp
theorem at_ints {c : List Int} {j : Nat} (h : j < c.length) : atI (c.map V.int) (j : Int) = some (.int (c.getD j 0)) :=
  atI_nat (by rw [List.getElem?_map, List.getElem?_eq_getElem h, List.getD_eq_getElem?_getD, List.getElem?_eq_getElem h]; rfl)
theorem ok_above {f : Addr} {fd : FuncData} (T : Top K mg) (F : FnP K "_token_above" s__token_above f fd) : FnOk P w K mg base CX0 1 f fd P__token_above (spAbv K) := by
  refine F.ok sc__token_above (fun vs H Q E h => ?_) (fun cdv A outer s H vs Q E hr h => ?_)
  · obtain ⟨a, c, n, rfl, _⟩ := h
    rfl
  · obtain ⟨a, c, n, rfl, hS, hc, hn, hs, q⟩ := h
    refine ⟨_, PSs.nox (pss_cons (ps_set (i := 2) sc__token_above.nd rfl (by first | exact Or.inl rfl | exact Or.inr rfl) pe_int)
    (pss_cons (ps_set (i := 3) sc__token_above.nd rfl (by first | exact Or.inl rfl | exact Or.inr rfl) (pe_ix (k_ix (K := K) (by rfl)) (pv 0) pe_int (fun _ _ => rfl)))
    (pss_cons (ps_while PassesOwn.never (pt_cmpR op_le (pv 3) (pv 1) (nomark _))
    (pss_cons (ps_aug (i := 2) sc__token_above.nd rfl (by first | exact Or.inl rfl | exact Or.inr rfl) pe_int ip_add)
    (pss_one (ps_set (i := 3) sc__token_above.nd rfl (by first | exact Or.inl rfl | exact Or.inr rfl) (pe_op op_add (pv 3) (pe_ix (k_ix (K := K) (by rfl)) (pv 0) (pv 2) (fun _ _ => rfl)))))))
    (pss_one (ps_ret (pv 2)))))), ?_⟩
    try simp only [cxK]
    rw [show L2.start N__token_above [V.ref a, .int n] = [some (.ref a), some (.int n), none, none] from rfl]
    have hpos : 0 < c.length := by
      cases c with
      | nil => simp at hs; omega
      | cons => simp
    have e0 : atI (c.map V.int) 0 = some (.int (c.getD 0 0)) := at_ints (j := 0) hpos
    walk_at "go"
    refine g_while (fun m σ' H' => ∃ j : Nat, σ' = [some (.ref a), some (.int n), some (.int j), some (.int (c.take (j + 1)).sum)] ∧ H' = H ∧ j < c.length ∧ (c.take j).sum ≤ n ∧ m = c.length - j)
      ⟨_, 0, by rw [sum_take1 hpos, List.take_zero, List.sum_nil, Int.zero_add]; rfl, rfl, hpos, by simpa using hn, rfl⟩ ?_
    rintro m σ' H' ⟨j, rfl, rfl, hj, hle, rfl⟩
    walk_at "go"
    refine g_whB (fun h3 => ?_) (fun h3 => ?_)
    · have hj1 : j + 1 < c.length := by
        rcases Nat.lt_or_ge (j + 1) c.length with z | z
        · exact z
        · rw [List.take_of_length_le z] at h3
          omega
      have e1 : atI (c.map V.int) ((j : Int) + 1) = some (.int (c.getD (j + 1) 0)) := at_ints hj1
      walk_at "go"
      refine ⟨c.length - (j + 1), by omega, j + 1, ?_, rfl, hj1, h3, rfl⟩
      rw [sum_take1 hj1]
      rfl
    · walk_at "go"
      exact q j hj hle (by omega)
theorem c_above (T : Top K mg) : Cal P w K mg base "_token_above" 1 P__token_above (spAbv K) := cal_mk T.f__token_above (ok_above T) (fun F => F.bindsN fun _ _ _ _ _ _ us hl => match us, hl with | [_, _], _ => rfl)
end

set_option Elab.async false
set_option linter.all false
set_option maxRecDepth 100000
set_option maxHeartbeats 4000000
open PySem PySem.Spec L2

section
variable {P : Program} {w : World} {K : PySem.W.Frag} {mg : Str → Option Value} {base : Heap}

def zOf : Option (List Int) → Int
  | none => 0
  | some S => S.headD 0
def spChoose (K : PySem.W.Frag) : Sp := fun vs H Q _ => ∃ (a : Addr) (v : V) (ws : List Int) (al : Option (List Int)) (knob : Str) (seed place : Int), vs = [.ref a, v, .str knob, .int seed, .int place] ∧
  (SqL K H a (ws.map V.int) ∨ SqT K H a (ws.map V.int)) ∧ 1 ≤ ws.length ∧ ws.length ≤ 1000 ∧ (∀ x ∈ ws, 0 ≤ x) ∧ AlV K H v al ∧ (∀ S, al = some S → S ≠ []) ∧
  ∀ (t : Int) (H' : Hp), Chosen (cnt ws al) (zOf al) (decide (knob = ("best" : Str))) (drawN seed place) t → Same H H' → Q (.int t) H'
abbrev FnC (K : PySem.W.Frag) (f : Addr) (fd : FuncData) : Prop := FunD K "choose" "choose" (defArgs s_choose) (defBody s_choose) (defScope s_choose) [] [("allowed", .non), ("knob", .str "best"), ("seed", .int 0), ("place", .int 0)] f fd
theorem all_zero {c : List Int} (hc : ∀ x ∈ c, 0 ≤ x) {m : Int} (hm : m ∈ c) (mx : ∀ y ∈ c, y ≤ m) : m = 0 ↔ ∀ x ∈ c, x = 0 := by
  constructor
  · intro e x hx
    have := hc x hx
    have := mx x hx
    omega
  · intro h
    exact h m hm
theorem sum_nn {c : List Int} (hc : ∀ x ∈ c, 0 ≤ x) : 0 ≤ c.sum := by
  have := take_mono hc (Nat.zero_le c.length)
  rwa [List.take_zero, List.sum_nil, List.take_length] at this
theorem sum_pos {c : List Int} (hc : ∀ x ∈ c, 0 ≤ x) (h : ¬ ∀ x ∈ c, x = 0) : 0 < c.sum := by
  induction c with
  | nil => exact absurd (fun x hx => by cases hx) h
  | cons a r ih =>
    have ha := hc a (List.mem_cons_self ..)
    have hr : ∀ x ∈ r, 0 ≤ x := fun x hx => hc x (List.mem_cons_of_mem _ hx)
    rw [List.sum_cons]
    have z := sum_nn hr
    by_cases e : a = 0
    · have := ih hr fun k => h fun x hx => by
        rcases List.mem_cons.mp hx with q | q
        · rw [q, e]
        · exact k x q
      omega
    · omega
theorem first_max {c : List Int} {m : Int} (hm : m ∈ c) (mx : ∀ y ∈ c, y ≤ m) : ∃ j : Nat, j < c.length ∧ c.getD j 0 = m ∧ ∀ k < j, c.getD k 0 < m := by
  induction c with
  | nil => cases hm
  | cons a r ih =>
    by_cases e : a = m
    · exact ⟨0, by simp, by simpa using e, fun k hk => absurd hk (by omega)⟩
    · have hm' : m ∈ r := by
        rcases List.mem_cons.mp hm with q | q
        · exact absurd q.symm e
        · exact q
      obtain ⟨j, h1, h2, h3⟩ := ih hm' fun y hy => mx y (List.mem_cons_of_mem _ hy)
      refine ⟨j + 1, by simpa using h1, by simpa using h2, fun k hk => ?_⟩
      cases k with
      | zero =>
        have := mx a (List.mem_cons_self ..)
        simp
        omega
      | succ k => simpa using h3 k (by omega)
theorem ok_choose {f : Addr} {fd : FuncData} (T : Top K mg) (F : FnC K f fd) : FnOk P w K mg base CX0 2 f fd P_choose (spChoose K) := by
  have C__counted : Cal P w K mg base "_counted" 1 P__counted (spCnt K) := c_counted T
  have C__token_above : Cal P w K mg base "_token_above" 1 P__token_above (spAbv K) := c_above T
  have C_draw_number : Cal P w K mg base "draw_number" 1 P_draw_number spNum := c_drawn T
  refine F.ok sc_choose (fun vs H Q E h => ?_) (fun cdv A outer s H vs Q E hr h => ?_)
  · obtain ⟨a, v, ws, al, knob, seed, place, rfl, _⟩ := h
    rfl
  · obtain ⟨a, v, ws, al, knob, seed, place, rfl, hS, h1, hlen, hw, hal, hne, q⟩ := h
    refine ⟨_, PSs.nox (pss_cons (ps_set (i := 5) sc_choose.nd rfl (by first | exact Or.inl rfl | exact Or.inr rfl) (pe_cal C__counted (hr.mono (by first | decide | omega)) (by rfl) (pa_cons (pv 0) (pa_cons (pv 1) pa_nil))))
    (pss_cons (ps_if (pt_cmpR op_eq (pe_callB (k_max (K := K) (by rfl) (by rfl)) (by rfl) T.z_max (by decide +kernel) (pa_cons (pv 5) pa_nil)) pe_int (nomark _))
    (pss_one (ps_ret (pe_ifExp (pt_cmpR o_isN (pv 1) pe_non (nomark _)) pe_int (pe_ix (k_ix (K := K) (by rfl)) (pv 1) pe_int (fun _ _ => rfl)))))
    pss_nil)
    (pss_cons (ps_if (pt_cmpR op_eq (pv 2) pe_str (nomark _))
    (pss_one (ps_ret (pe_bm PySem.F.plainAttrs_list PySem.F.slot_list_index PySem.F.type_list_index (k_index (K := K) (by rfl)) (pv 5) (pa_cons (pe_callB (k_max (K := K) (by rfl) (by rfl)) (by rfl) T.z_max (by decide +kernel) (pa_cons (pv 5) pa_nil)) pa_nil))))
    pss_nil)
    (pss_one (ps_ret (pe_cal C__token_above (hr.mono (by first | decide | omega)) (by rfl) (pa_cons (pv 5) (pa_cons (pe_op op_mod (pe_cal C_draw_number (hr.mono (by first | decide | omega)) (by rfl) (pa_cons (pv 3) (pa_cons (pv 4) pa_nil))) (pe_callB (k_sum (K := K) (by rfl) (by rfl)) (by rfl) T.z_sum (by decide +kernel) (pa_cons (pv 5) pa_nil))) pa_nil)))))))), ?_⟩
    try simp only [cxK]
    rw [show L2.start N_choose [V.ref a, v, .str knob, .int seed, .int place] = [some (.ref a), some v, some (.str knob), some (.int seed), some (.int place), none] from rfl]
    walk_at "go"
    refine ⟨a, v, ws, al, rfl, hS, hlen, hal, fun p H1 e1 hp s1 => ?_⟩
    have hlc := cnt_len ws al
    have hcn := cnt_nn hw al
    have hlp : 0 < (cnt ws al).length := by omega
    have bang : ∀ x : Int, x ∈ cnt ws al → True := fun _ _ => trivial
    generalize hc : cnt ws al = c at *
    walk_at "go"
    refine g_max (by walk_at "l") hlp fun m hm mx => ?_
    walk_at "go"
    refine g_iteD (fun h3 => ?_) (fun h3 => ?_)
    · have az := (all_zero hcn hm mx).mp h3
      cases al with
      | none =>
        obtain rfl : v = .non := hal
        walk_at "go"
        exact q _ _ ⟨fun _ => rfl, fun k => absurd az k⟩ s1
      | some S =>
        obtain ⟨b, rfl, hA⟩ := hal
        have hA1 := lt_same s1 hA
        have e2 : atI (S.map V.int) 0 = some (.int (S.headD 0)) := by
          cases S with
          | nil => exact absurd rfl (hne _ rfl)
          | cons x r => exact atI_nat (j := 0) rfl
        walk_at "go"
        exact q _ _ ⟨fun _ => rfl, fun k => absurd az k⟩ s1
    · have nz : ¬ ∀ x ∈ c, x = 0 := fun k => h3 ((all_zero hcn hm mx).mpr k)
      walk_at "go"
      refine g_iteD (fun h4 => ?_) (fun h4 => ?_)
      · walk_at "go"
        refine g_max (by walk_at "l") hlp fun m2 hm2 mx2 => ?_
        walk_at "go"
        obtain ⟨j, hj, ej, lj⟩ := first_max hm2 mx2
        refine ⟨p, c.map V.int, .int m2, j, .int m2, rfl, rfl, by walk_at "l", rfl, flat_ints c, ?_, ?_, fun k z' hk hz => ?_, ?_⟩
        · rw [List.getElem?_map, List.getElem?_eq_getElem hj]
          rw [List.getD_eq_getElem?_getD, List.getElem?_eq_getElem hj] at ej
          exact congrArg (fun z => some (V.int z)) ej
        · show (m2 == m2) = true
          simp
        · have hk2 : k < c.length := by omega
          rw [List.getElem?_map, List.getElem?_eq_getElem hk2] at hz
          have z := lj k hk
          rw [List.getD_eq_getElem?_getD, List.getElem?_eq_getElem hk2] at z
          obtain rfl := Option.some.inj hz
          show (c[k] == m2) = false
          have z2 : c[k] < m2 := z
          simp
          omega
        · rw [decide_eq_true h4] at q
          exact q _ _ ⟨fun k => absurd k nz, fun _ => ⟨j, rfl, hj, fun _ => ⟨fun x hx => by rw [ej]; exact mx2 x hx, fun k hk => by rw [ej]; exact lj k hk⟩, fun k => by cases k⟩⟩ s1
      · walk_at "go"
        refine ⟨seed, place, rfl, ?_⟩
        have sp := sum_pos hcn nz
        walk_at "go"
        refine ⟨p, c, drawN seed place % c.sum, rfl, by walk_at "l", hcn, Int.emod_nonneg _ (by omega), Int.emod_lt_of_pos _ sp, fun j hj l1 l2 => ?_⟩
        rw [decide_eq_false h4] at q
        exact q _ _ ⟨fun k => absurd k nz, fun _ => ⟨j, rfl, hj, (fun k => by cases k), fun _ => ⟨l1, l2⟩⟩⟩ s1
end

set_option Elab.async false
set_option linter.all false
set_option maxRecDepth 100000
set_option maxHeartbeats 4000000
open PySem PySem.Spec L2

local macro_rules | `(tactic| walk_at "bag") => `(tactic| first
  | with_reducible assumption
  | ((with_reducible refine' bag_new ?k1 (by with_reducible assumption)); (case k1 => walk_at "bag"))
  | ((with_reducible refine' bag_sm ?k1 (by with_reducible assumption)); (case k1 => walk_at "bag"))
  | ((with_reducible refine' bag_chg ?k1 (by with_reducible assumption) (by with_reducible assumption)); (case k1 => walk_at "bag")))

section
variable {P : Program} {w : World} {K : PySem.W.Frag} {mg : Str → Option Value} {base : Heap}

/-- a new list of weights, the bag drawn on -/
def spLoads : Sp := fun vs H Q _ => ∃ (a l : Addr), vs = [.ref a] ∧ Bag H a l ∧
  ∀ (p : Addr) (ws : List Int) (H' : Hp), H' p = some (.lst (ws.map V.int)) → p ≠ a → p ≠ l → 1 ≤ ws.length → ws.length ≤ 300 → (∀ x ∈ ws, 0 ≤ x) → Bag H' a l → Chg a H H' → Q (.ref p) H'
theorem map_repl (n : Nat) (v : Int) : (List.replicate n v).map V.int = List.replicate n (V.int v) := List.map_replicate
theorem ok_loads {f : Addr} {fd : FuncData} (T : Top K mg) (F : FnP K "_law_loads" s__law_loads f fd) : FnOk P w K mg base CX0 4 f fd P__law_loads spLoads := by
  have C__law_draw : Cal P w K mg base "_law_draw" 2 P__law_draw (spDraw 1000000000) := c_draw2 T
  have C__law_of : Cal P w K mg base "_law_of" 3 P__law_of spOf := c_of T
  refine F.ok sc__law_loads (fun vs H Q E h => ?_) (fun cdv A outer s H vs Q E hr h => ?_)
  · obtain ⟨a, l, rfl, _⟩ := h
    rfl
  · obtain ⟨a, l, rfl, hB, q⟩ := h
    refine ⟨_, PSs.nox (pss_cons (ps_set (i := 1) sc__law_loads.nd rfl (by first | exact Or.inl rfl | exact Or.inr rfl) (pe_cal C__law_of (hr.mono (by first | decide | omega)) (by rfl) (pa_cons (pv 0) (pa_cons (pe_lst (pa_cons pe_int (pa_cons pe_int (pa_cons pe_int (pa_cons pe_int (pa_cons pe_int (pa_cons pe_int (pa_cons pe_int (pa_cons pe_int (pa_cons (pe_cal C__law_of (hr.mono (by first | decide | omega)) (by rfl) (pa_cons (pv 0) (pa_cons (pe_lst (pa_cons pe_int (pa_cons pe_int (pa_cons pe_int (pa_cons pe_int pa_nil))))) pa_nil))) pa_nil)))))))))) pa_nil))))
    (pss_cons (ps_set (i := 2) sc__law_loads.nd rfl (by first | exact Or.inl rfl | exact Or.inr rfl) (pe_cal C__law_of (hr.mono (by first | decide | omega)) (by rfl) (pa_cons (pv 0) (pa_cons (pe_lst (pa_cons pe_int (pa_cons pe_int (pa_cons pe_int (pa_cons pe_int (pa_cons pe_int (pa_cons pe_int pa_nil))))))) pa_nil))))
    (pss_cons (ps_if (pt_cmpR op_eq (pe_cal C__law_draw (hr.mono (by first | decide | omega)) (by rfl) (pa_cons (pv 0) (pa_cons pe_int pa_nil))) pe_int (nomark _))
    (pss_one (ps_ret (pe_op op_cat (pe_lst (pa_cons (pe_op op_mul (pe_cal C__law_draw (hr.mono (by first | decide | omega)) (by rfl) (pa_cons (pv 0) (pa_cons pe_int pa_nil))) (pe_cal C__law_draw (hr.mono (by first | decide | omega)) (by rfl) (pa_cons (pv 0) (pa_cons (pv 2) pa_nil)))) pa_nil)) (pe_lc (own := [("k", 3)]) (g := gName 3) (by rfl) sc__law_loads.nd (pi_range1 (by rfl) T.z_range (pa_cons (pe_op op_sub (pv 1) pe_int) pa_nil)) (blkOk_by (own := [("k", 3)]) (N := N__law_loads) (sc := defScope s__law_loads) (by decide +kernel)) (fun _ _ _ _ _ => pg_name (i := 3) sc__law_loads.nd rfl (by first | exact Or.inl rfl | exact Or.inr rfl)) (fun _ _ _ _ _ => pts_nil) (fun _ _ _ _ _ => pe_int)))))
    pss_nil)
    (pss_cons (ps_if (pt_cmpR op_eq (pe_cal C__law_draw (hr.mono (by first | decide | omega)) (by rfl) (pa_cons (pv 0) (pa_cons pe_int pa_nil))) pe_int (nomark _))
    (pss_cons (ps_set (i := 4) sc__law_loads.nd rfl (by first | exact Or.inl rfl | exact Or.inr rfl) (pe_cal C__law_of (hr.mono (by first | decide | omega)) (by rfl) (pa_cons (pv 0) (pa_cons (pe_lst (pa_cons pe_int (pa_cons (pe_op op_sub (pv 2) pe_int) pa_nil))) pa_nil))))
    (pss_one (ps_ret (pe_lc (own := [("k", 3)]) (g := gName 3) (by rfl) sc__law_loads.nd (pi_range1 (by rfl) T.z_range (pa_cons (pv 1) pa_nil)) (blkOk_by (own := [("k", 3)]) (N := N__law_loads) (sc := defScope s__law_loads) (by decide +kernel)) (fun _ _ _ _ _ => pg_name (i := 3) sc__law_loads.nd rfl (by first | exact Or.inl rfl | exact Or.inr rfl)) (fun _ _ _ _ _ => pts_nil) (fun _ _ _ _ _ => (pv 4))))))
    pss_nil)
    (pss_one (ps_ret (pe_lc (own := [("k", 3)]) (g := gName 3) (by rfl) sc__law_loads.nd (pi_range1 (by rfl) T.z_range (pa_cons (pv 1) pa_nil)) (blkOk_by (own := [("k", 3)]) (N := N__law_loads) (sc := defScope s__law_loads) (by decide +kernel)) (fun _ _ _ _ _ => pg_name (i := 3) sc__law_loads.nd rfl (by first | exact Or.inl rfl | exact Or.inr rfl)) (fun _ _ _ _ _ => pts_nil) (fun _ _ _ _ _ => (pe_ifExp (pt_cmpR op_lt (pv 3) pe_int (nomark _)) (pe_op op_mul (pe_cal C__law_draw (hr.mono (by first | decide | omega)) (by rfl) (pa_cons (pv 0) (pa_cons pe_int pa_nil))) (pe_cal C__law_draw (hr.mono (by first | decide | omega)) (by rfl) (pa_cons (pv 0) (pa_cons (pv 2) pa_nil)))) (pv 3)))))))))), ?_⟩
    rw [show L2.start N__law_loads [V.ref a] = [some (.ref a), none, none, none, none] from rfl]
    walk_at "go"
    rename_i t1 ht1
    obtain ⟨na1, nl1⟩ := bag_apart hB ht1
    refine g_of (by walk_at "bag") upd_same na1 ⟨by show 1 ≤ 4; decide, by show 4 ≤ 1000000; decide⟩ fun x1 H1 hx1 B1 c1 => ?_
    have hx1' : ∃ m : Int, x1 = .int m ∧ 1 ≤ m ∧ m ≤ 300 := by
      simp only [List.mem_cons, List.mem_nil_iff, or_false] at hx1
      rcases hx1 with rfl | rfl | rfl | rfl <;> exact ⟨_, rfl, by decide, by decide⟩
    obtain ⟨m1, rfl, m1a, m1b⟩ := hx1'
    walk_at "go"
    rename_i t2 ht2
    obtain ⟨na2, nl2⟩ := bag_apart B1 ht2
    refine g_of (by walk_at "bag") upd_same na2 ⟨by show 1 ≤ 9; decide, by show 9 ≤ 1000000; decide⟩ fun x2 H2 hx2 B2 c2 => ?_
    have hx2' : ∃ m : Int, x2 = .int m ∧ 1 ≤ m ∧ m ≤ 300 := by
      simp only [List.mem_cons, List.mem_nil_iff, or_false] at hx2
      rcases hx2 with rfl | rfl | rfl | rfl | rfl | rfl | rfl | rfl | rfl <;> exact ⟨_, rfl, by omega, by omega⟩
    obtain ⟨many, rfl, mna, mnb⟩ := hx2'
    have ch2 : Chg a H H2 := (((Chg.refl).lay ht1).trans c1).lay ht2 |>.trans c2
    walk_at "go"
    rename_i t3 ht3
    obtain ⟨na3, nl3⟩ := bag_apart B2 ht3
    refine g_of (by walk_at "bag") upd_same na3 ⟨by show 1 ≤ 6; decide, by show 6 ≤ 1000000; decide⟩ fun x3 H3 hx3 B3 c3 => ?_
    have hx3' : ∃ m : Int, x3 = .int m ∧ 2 ≤ m ∧ m ≤ 999999999 := by
      simp only [List.mem_cons, List.mem_nil_iff, or_false] at hx3
      rcases hx3 with rfl | rfl | rfl | rfl | rfl | rfl <;> exact ⟨_, rfl, by decide, by decide⟩
    obtain ⟨tp, rfl, tpa, tpb⟩ := hx3'
    have ch3 : Chg a H H3 := (ch2.lay ht3).trans c3
    clear c1 c2 c3 ht1 ht2 ht3 ch2 B1 B2 hB
    walk_at "go"
    refine g_draw B3 ⟨by omega, by omega⟩ fun r4 H4 r4a r4b B4 c4 => ?_
    have ch4 := ch3.trans c4
    walk_at "go"
    refine g_iteD (fun h5 => ?_) (fun h5 => ?_)
    · walk_at "go"
      refine g_draw B4 ⟨by omega, by omega⟩ fun r5 H5 r5a r5b B5 c5 => ?_
      walk_at "go"
      refine g_draw B5 ⟨by omega, by omega⟩ fun r6 H6 r6a r6b B6 c6 => ?_
      have hm : 0 ≤ r5 * r6 := Int.mul_nonneg r5a r6a
      have ch6 := (ch4.trans c5).trans c6
      walk_at "go"
      rename_i t7 ht7
      refine lcR (σ0 := [some (.ref a), some (.int many), some (.int tp), none, none]) rfl fun D hD => ⟨fun i H' => H' = upd (upd H6 t7 (.lst [V.int (r5 * r6)])) D (.lst ((List.replicate i (0 : Int)).map V.int)), rfl, ?_, ?_⟩
      · rintro i H' hi rfl
        walk_at "go"
        refine g_turnD upd_same (by rw [List.length_map, List.length_replicate]; omega) ?_
        dsimp only
        rw [upd_upd, List.replicate_succ', List.map_append]
        rfl
      · rintro H' rfl
        obtain ⟨na7, nl7⟩ := bag_apart B6 ht7
        have B7 := bag_new (o := .lst [V.int (r5 * r6)]) B6 ht7
        have e7 : upd (upd H6 t7 (.lst [V.int (r5 * r6)])) D (.lst ((List.replicate (many - 1).toNat (0 : Int)).map V.int)) t7 = some (.lst [V.int (r5 * r6)]) := by walk_at "h"
        refine g_cat e7 upd_same (by simp only [List.length_cons, List.length_nil, List.length_map, List.length_replicate]; omega) fun p hp => ?_
        have B8 := bag_new (o := .lst ([V.int (r5 * r6)] ++ (List.replicate (many - 1).toNat (0 : Int)).map V.int)) (bag_new (o := .lst ((List.replicate (many - 1).toNat (0 : Int)).map V.int)) B7 hD) hp
        obtain ⟨nap, nlp⟩ := bag_apart (bag_new (o := .lst ((List.replicate (many - 1).toNat (0 : Int)).map V.int)) B7 hD) hp
        refine q p ((r5 * r6) :: List.replicate (many - 1).toNat 0) _ upd_same nap nlp (by simp) (by simp only [List.length_cons, List.length_replicate]; omega) ?_ B8 (((ch6.lay ht7).lay hD).lay hp)
        intro x hx
        rcases List.mem_cons.mp hx with rfl | hx
        · exact hm
        · rw [List.eq_of_mem_replicate hx]
          exact Int.le_refl 0
    · walk_at "go"
      refine g_draw B4 ⟨by omega, by omega⟩ fun r5 H5 r5a r5b B5 c5 => ?_
      have ch5 := ch4.trans c5
      walk_at "go"
      refine g_iteD (fun h6 => ?_) (fun h6 => ?_)
      · walk_at "go"
        rename_i t6 ht6
        obtain ⟨na6, nl6⟩ := bag_apart B5 ht6
        refine g_of (by walk_at "bag") upd_same na6 ⟨by show 1 ≤ 2; decide, by show 2 ≤ 1000000; decide⟩ fun x7 H7 hx7 B7 c7 => ?_
        have hx7' : ∃ m : Int, x7 = .int m ∧ 0 ≤ m := by
          simp only [List.mem_cons, List.mem_nil_iff, or_false] at hx7
          rcases hx7 with rfl | rfl <;> exact ⟨_, rfl, by omega⟩
        obtain ⟨same, rfl, sma⟩ := hx7'
        have ch7 := (ch5.lay (o := .lst [V.int 1, V.int (tp - 1)]) ht6).trans c7
        walk_at "go"
        refine lcR (σ0 := [some (.ref a), some (.int many), some (.int tp), none, some (.int same)]) rfl fun D hD => ⟨fun i H' => H' = upd H7 D (.lst ((List.replicate i same).map V.int)), rfl, ?_, ?_⟩
        · rintro i H' hi rfl
          walk_at "go"
          refine g_turnD upd_same (by rw [List.length_map, List.length_replicate]; omega) ?_
          dsimp only
          rw [upd_upd, List.replicate_succ', List.map_append]
          rfl
        · rintro H' rfl
          obtain ⟨naD, nlD⟩ := bag_apart B7 hD
          refine q D (List.replicate many.toNat same) _ upd_same naD nlD (by simp only [List.length_replicate]; omega) (by simp only [List.length_replicate]; omega) ?_ (bag_new B7 hD) (ch7.lay hD)
          intro x hx
          rw [List.eq_of_mem_replicate hx]
          exact sma
      · walk_at "go"
        refine lcR (σ0 := [some (.ref a), some (.int many), some (.int tp), none, none]) rfl fun D hD => ?_
        obtain ⟨naD, nlD⟩ := bag_apart B5 hD
        refine ⟨fun i H' => ∃ ws : List Int, H' D = some (.lst (ws.map V.int)) ∧ ws.length = i ∧ (∀ x ∈ ws, 0 ≤ x) ∧ Bag H' a l ∧ Chg a H5 H', ⟨[], upd_same, rfl, (fun x hx => by cases hx), bag_new B5 hD, (Chg.refl).lay hD⟩, ?_, ?_⟩
        · rintro i H' hi ⟨ws, e1, hlw, hnw, B6, c6⟩
          have put : ∀ (y : Int) (H2 : Hp), 0 ≤ y → H2 D = some (.lst (ws.map V.int)) → Bag H2 a l → Chg a H5 H2 →
              TurnD D (fun H' => ∃ ws : List Int, H' D = some (.lst (ws.map V.int)) ∧ ws.length = i + 1 ∧ (∀ x ∈ ws, 0 ≤ x) ∧ Bag H' a l ∧ Chg a H5 H') (.int y) H2 := fun y H2 hy e2 B c => by
            refine g_turnD e2 (by rw [List.length_map]; omega) ⟨ws ++ [y], by rw [upd_same, List.map_append]; rfl, by simp [hlw], ?_, bag_chg B naD nlD, c.putn hD⟩
            intro x hx
            rcases List.mem_append.mp hx with h | h
            · exact hnw x h
            · rw [List.mem_singleton.mp h]; exact hy
          walk_at "go"
          refine g_iteD (fun h7 => ?_) (fun h7 => ?_)
          · walk_at "go"
            refine g_draw B6 ⟨by omega, by omega⟩ fun r7 H7 r7a r7b B7 c7 => ?_
            walk_at "go"
            refine g_draw B7 ⟨by omega, by omega⟩ fun r8 H8 r8a r8b B8 c8 => ?_
            walk_at "go"
            exact put _ _ (Int.mul_nonneg r7a r8a) (c8 _ _ naD (c7 _ _ naD e1)) B8 ((c6.trans c7).trans c8)
          · walk_at "go"
            exact put _ _ (by omega) e1 B6 c6
        · rintro H' ⟨ws, e1, hlw, hnw, B6, c6⟩
          exact q D ws H' e1 naD nlD (by omega) (by omega) hnw B6 (ch5.trans c6)
theorem c_loads (T : Top K mg) : Cal P w K mg base "_law_loads" 4 P__law_loads spLoads := cal_mk T.f__law_loads (ok_loads T) (fun F => F.bindsN fun _ _ _ _ _ _ us hl => match us, hl with | [_], _ => rfl)
end

set_option Elab.async false
set_option linter.all false
set_option maxRecDepth 100000
set_option maxHeartbeats 4000000
open PySem PySem.Spec L2


section
variable {P : Program} {w : World} {K : PySem.W.Frag} {mg : Str → Option Value} {base : Heap}

/-! _law_some -/
def spSome : Sp := fun vs H Q _ => ∃ (a l : Addr) (many : Int), vs = [.ref a, .int many] ∧ Bag H a l ∧ 1 ≤ many ∧ many ≤ 400 ∧
  ∀ (p : Addr) (S : List Int) (H' : Hp), H' p = some (.lst (S.map V.int)) → p ≠ a → p ≠ l → S ≠ [] → (∀ x ∈ S, 0 ≤ x ∧ x < many) → S.Pairwise (· < ·) → S.length ≤ 400 → Bag H' a l → Chg a H H' → Q (.ref p) H'
theorem ok_some {f : Addr} {fd : FuncData} (T : Top K mg) (F : FnP K "_law_some" s__law_some f fd) : FnOk P w K mg base CX0 4 f fd P__law_some spSome := by
  have C__law_draw : Cal P w K mg base "_law_draw" 2 P__law_draw (spDraw 1000000000) := c_draw2 T
  have C__law_of : Cal P w K mg base "_law_of" 3 P__law_of spOf := c_of T
  refine F.ok sc__law_some (fun vs H Q E h => ?_) (fun cdv A outer s H vs Q E hr h => ?_)
  · obtain ⟨a, l, many, rfl, _⟩ := h
    rfl
  · obtain ⟨a, l, many, rfl, hB, m1, m2, q⟩ := h
    refine ⟨_, PSs.nox (pss_cons (ps_asg (pe_tup (pa_cons (pe_cal C__law_of (hr.mono (by first | decide | omega)) (by rfl) (pa_cons (pv 0) (pa_cons (pe_lst (pa_cons pe_int (pa_cons pe_int (pa_cons pe_int pa_nil)))) pa_nil))) (pa_cons (pe_op op_mod (pe_callTy c_int (by rfl) T.z_int (by decide +kernel) (pa_cons (pe_op op_fdiv (pe_ix (k_ix (K := K) (by rfl)) (pv 0) pe_int (fun _ _ => rfl)) pe_int) pa_nil)) pe_int) pa_nil))) (k_pgt (K := K) (n := 2) (by rfl) (by rfl) (pgs_cons (pg_name (i := 2) sc__law_some.nd rfl (by first | exact Or.inl rfl | exact Or.inr rfl)) (pgs_cons (pg_name (i := 3) sc__law_some.nd rfl (by first | exact Or.inl rfl | exact Or.inr rfl)) pgs_nil)) (by rfl) (by rfl)))
    (pss_cons (ps_setLc (i := 4) (own := [("a", 5)]) (g := gName 5) (by rfl) sc__law_some.nd rfl rfl (sw_true rfl rfl rfl (by decide +kernel)) (pi_range1 (by rfl) T.z_range (pa_cons (pv 1) pa_nil)) (blkOk_by (own := [("a", 5)]) (N := N__law_some) (sc := defScope s__law_some) (by decide +kernel)) (fun _ _ _ _ _ => pg_name (i := 5) sc__law_some.nd rfl (by first | exact Or.inl rfl | exact Or.inr rfl)) (fun _ _ _ _ _ => (pts_one (pt_ifE (pt_cmpR op_ge (pv 5) pe_int (nomark _)) (PW.pt (pw_or (pt_cmpR op_lt (pv 3) pe_int (nomark _)) (pw_or1 (pt_cmpR op_gt (pe_op op_mod (pe_callTy c_int (by rfl) T.z_int (by decide +kernel) (pa_cons (pv 5) pa_nil)) (pv 3)) pe_int (nomark _))))) (pt_cmpR op_lt (pe_cal C__law_draw (hr.mono (by first | decide | omega)) (by rfl) (pa_cons (pv 0) (pa_cons pe_int pa_nil))) (pv 2) (nomark _))))) (fun _ _ _ _ _ => (pv 5)))
    (pss_one (ps_ret (pe_ifExp (pt_cmpR (k_neD (K := K) (by rfl) hr.units) (pv 4) (pe_lst pa_nil) (nomark _)) (pv 4) (pe_lst (pa_cons (pe_cal C__law_draw (hr.mono (by first | decide | omega)) (by rfl) (pa_cons (pv 0) (pa_cons (pv 1) pa_nil))) pa_nil))))))), ?_⟩
    rw [show L2.start N__law_some [V.ref a, .int many] = [some (.ref a), some (.int many), none, none, none, none] from rfl]
    walk_at "go"
    rename_i t1 ht1
    obtain ⟨na1, nl1⟩ := bag_apart hB ht1
    refine g_of (by walk_at "bag") upd_same na1 ⟨by show 1 ≤ 3; decide, by show 3 ≤ 1000000; decide⟩ fun x1 H1 hx1 B1 c1 => ?_
    have hx1' : ∃ m : Int, x1 = .int m := by
      simp only [List.mem_cons, List.mem_nil_iff, or_false] at hx1
      rcases hx1 with rfl | rfl | rfl <;> exact ⟨_, rfl⟩
    obtain ⟨keep, rfl⟩ := hx1'
    have ch1 : Chg a H H1 := ((Chg.refl).lay ht1).trans c1
    clear c1 ht1 hB
    have B1' := B1
    obtain ⟨ns, i0, g0, m0, c0, hB0, hl0, nla, hi0, hg0, hm0, hm0', hc0⟩ := B1'
    walk_at "go"
    rename_i tp htp
    have B1t := bag_new (o := .tup [V.int keep, V.int (m0 / 4096 % 7)]) B1 htp
    have ch1t := ch1.lay (o := .tup [V.int keep, V.int (m0 / 4096 % 7)]) htp
    generalize upd H1 tp (.tup [V.int keep, V.int (m0 / 4096 % 7)]) = H1t at B1t ch1t ⊢
    refine lcR (σ0 := [some (.ref a), some (.int many), some (.int keep), some (.int (m0 / 4096 % 7)), none, none]) rfl fun D hD => ?_
    obtain ⟨naD, nlD⟩ := bag_apart B1t hD
    refine ⟨fun i H' => ∃ S : List Int, H' D = some (.lst (S.map V.int)) ∧ (∀ x ∈ S, 0 ≤ x ∧ x < (i : Int)) ∧ S.Pairwise (· < ·) ∧ S.length ≤ i ∧ Bag H' a l ∧ Chg a H1t H',
      ⟨[], upd_same, (fun x hx => by cases hx), .nil, Nat.le_refl _, bag_new B1t hD, (Chg.refl).lay hD⟩, ?_, ?_⟩
    · rintro i H' hi ⟨S, e1, hS, hP, hlS, B2, c2⟩
      have put : ∀ (H2 : Hp), H2 D = some (.lst (S.map V.int)) → Bag H2 a l → Chg a H1t H2 →
          TurnD D (fun H' => ∃ S : List Int, H' D = some (.lst (S.map V.int)) ∧ (∀ x ∈ S, 0 ≤ x ∧ x < ((i + 1 : Nat) : Int)) ∧ S.Pairwise (· < ·) ∧ S.length ≤ i + 1 ∧ Bag H' a l ∧ Chg a H1t H') (.int (0 + (i : Int))) H2 := fun H2 e2 B c => by
        refine g_turnD e2 (by rw [List.length_map]; omega) ⟨S ++ [0 + (i : Int)], by rw [upd_same, List.map_append]; rfl, ?_, ?_, by simp; omega, bag_chg B naD nlD, c.putn hD⟩
        · intro x hx
          rcases List.mem_append.mp hx with h | h
          · have := hS x h
            omega
          · rw [List.mem_singleton.mp h]
            omega
        · refine List.pairwise_append.mpr ⟨hP, List.pairwise_singleton .., fun x hx y hy => ?_⟩
          rw [List.mem_singleton.mp hy]
          have := hS x hx
          omega
      have skip : ∀ (H2 : Hp), H2 D = some (.lst (S.map V.int)) → Bag H2 a l → Chg a H1t H2 → ∃ S : List Int, H2 D = some (.lst (S.map V.int)) ∧ (∀ x ∈ S, 0 ≤ x ∧ x < ((i + 1 : Nat) : Int)) ∧ S.Pairwise (· < ·) ∧ S.length ≤ i + 1 ∧ Bag H2 a l ∧ Chg a H1t H2 :=
        fun H2 e2 B c => ⟨S, e2, fun x hx => by have := hS x hx; omega, hP, by omega, B, c⟩
      walk_at "go"
      refine g_iteD (fun h3 => ?_) (fun h3 => ?_)
      · walk_at "go"
        refine g_iteD (fun h4 => ?_) (fun h4 => ?_)
        · walk_at "go"
          exact put _ e1 B2 c2
        · have hgap : 0 < m0 / 4096 % 7 := by omega
          walk_at "go"
          refine g_turnC (fun h5 => ?_) (fun h5 => ?_)
          · walk_at "go"
            exact put _ e1 B2 c2
          · exact skip _ e1 B2 c2
      · walk_at "go"
        refine g_draw B2 ⟨by omega, by omega⟩ fun r7 H7 r7a r7b B7 c7 => ?_
        walk_at "go"
        refine g_turnC (fun h5 => ?_) (fun h5 => ?_)
        · walk_at "go"
          exact put _ (c7 _ _ naD e1) B7 (c2.trans c7)
        · exact skip _ (c7 _ _ naD e1) B7 (c2.trans c7)
    · rintro H' ⟨S, e1, hS, hP, hlS, B2, c2⟩
      have ch2 := ch1t.trans c2
      walk_at "go"
      rename_i t3 ht3
      have e3 : upd H' t3 (.lst []) t3 = some (.lst (([] : List Int).map V.int)) := upd_same
      refine g_neDI (by walk_at "l") (SqL.of e3) ?_
      walk_at "go"
      refine g_iteN (fun h5 => ?_) (fun h5 => ?_)
      · walk_at "go"
        exact q D S _ (by walk_at "h") naD nlD h5 (fun x hx => by have := hS x hx; omega) hP (by omega) (bag_new B2 ht3) (ch2.lay ht3)
      · walk_at "go"
        refine g_draw (bag_new B2 ht3) ⟨by omega, by omega⟩ fun r7 H7 r7a r7b B7 c7 => ?_
        walk_at "go"
        rename_i t4 ht4
        obtain ⟨na4, nl4⟩ := bag_apart B7 ht4
        refine q t4 [r7] _ upd_same na4 nl4 (by simp) (fun x hx => ?_) (List.pairwise_singleton ..) (by simp) (bag_new B7 ht4) (((ch2.lay ht3).trans c7).lay ht4)
        rw [List.mem_singleton.mp hx]
        exact ⟨r7a, r7b⟩
theorem c_some (T : Top K mg) : Cal P w K mg base "_law_some" 4 P__law_some spSome := cal_mk T.f__law_some (ok_some T) (fun F => F.bindsN fun _ _ _ _ _ _ us hl => match us, hl with | [_, _], _ => rfl)
end

set_option Elab.async false
set_option linter.all false
set_option maxRecDepth 100000
set_option maxHeartbeats 4000000
open PySem PySem.Spec L2

section
variable {P : Program} {w : World} {K : PySem.W.Frag} {mg : Str → Option Value} {base : Heap}

def wAt (ws : List Int) (x : Int) : Int := ws.getD x.toNat 0
theorem at_w {ws : List Int} {x : Int} (h : 0 ≤ x ∧ x < ws.length) : atI (ws.map V.int) x = some (.int (wAt ws x)) := by
  have z := at_ints (c := ws) (j := x.toNat) (by omega)
  rwa [Int.toNat_of_nonneg h.1] at z
structure Picks (ws S : List Int) : Prop where
  inb : ∀ x ∈ S, 0 ≤ x ∧ x < (ws.length : Int)
  len : S.length ≤ 400
/-! _law_best_so -/
def spBest (K : PySem.W.Frag) : Sp := fun vs H Q _ => ∃ (p b : Addr) (ws S : List Int) (t : Int), vs = [.int t, .ref p, .ref b] ∧ SqL K H p (ws.map V.int) ∧ SqL K H b (S.map V.int) ∧ Picks ws S ∧ t ∈ S ∧
  (∀ x ∈ S, wAt ws x < wAt ws t ∨ (wAt ws x = wAt ws t ∧ t ≤ x)) ∧ ∀ H', Same H H' → Q (.bl true) H'
theorem filter_tt (S : List Int) : (S.filter fun _ => true) = S := List.filter_eq_self.mpr fun _ _ => rfl
theorem all_true {S : List Int} {f : Int → V} (h : ∀ x ∈ S, f x = .bl true) : (S.filter fun _ => true).map f = (List.replicate S.length true).map V.bl := by
  induction S with
  | nil => rfl
  | cons a r ih =>
    have e := ih fun x hx => h x (List.mem_cons_of_mem _ hx)
    rw [filter_tt] at e ⊢
    rw [List.map_cons, e, h a (List.mem_cons_self ..)]
    rfl
theorem all_rep (n : Nat) : (List.replicate n true).all id = true := by
  induction n with
  | zero => rfl
  | succ n ih => rw [List.replicate_succ, List.all_cons, ih]; rfl
theorem ok_best {f : Addr} {fd : FuncData} (T : Top K mg) (F : FnP K "_law_best_so" s__law_best_so f fd) : FnOk P w K mg base CX0 1 f fd P__law_best_so (spBest K) := by
  refine F.ok sc__law_best_so (fun vs H Q E h => ?_) (fun cdv A outer s H vs Q E hr h => ?_)
  · obtain ⟨p, b, ws, S, t, rfl, _⟩ := h
    rfl
  · obtain ⟨p, b, ws, S, t, rfl, hP, hS, pk, ht, hc, q⟩ := h
    refine ⟨_, PSs.nox (pss_one (ps_ret (pe_callB (k_all (K := K) (by rfl) (by rfl)) (by rfl) T.z_all (by decide +kernel) (pa_cons (pe_lc (own := [("a", 3)]) (g := gName 3) (by rfl) sc__law_best_so.nd (k_pil (K := K) (by rfl) (pv 2)) (blkOk_by (own := [("a", 3)]) (N := N__law_best_so) (sc := defScope s__law_best_so) (by decide +kernel)) (fun _ _ _ _ _ => pg_name (i := 3) sc__law_best_so.nd rfl (by first | exact Or.inl rfl | exact Or.inr rfl)) (fun _ _ _ _ _ => pts_nil) (fun _ _ _ _ _ => (pe_or (pe_cmpR op_lt (pe_ix (k_ix (K := K) (by rfl)) (pv 1) (pv 3) (fun _ _ => rfl)) (pe_ix (k_ix (K := K) (by rfl)) (pv 1) (pv 0) (fun _ _ => rfl)) (nomark _)) (pe_one (pe_and (pe_cmpR op_eq (pe_ix (k_ix (K := K) (by rfl)) (pv 1) (pv 3) (fun _ _ => rfl)) (pe_ix (k_ix (K := K) (by rfl)) (pv 1) (pv 0) (fun _ _ => rfl)) (nomark _)) (pe_one (pe_cmpR op_ge (pv 3) (pv 0) (nomark _)))))))) pa_nil)))), ?_⟩
    rw [show L2.start N__law_best_so [.int t, V.ref p, V.ref b] = [some (.int t), some (.ref p), some (.ref b), none] from rfl]
    walk_at "go"
    refine lcP (f := fun _ => .bl true) (p := fun _ => true) (σ0 := [some (.int t), some (.ref p), some (.ref b), none]) rfl hS (by have := pk.len; omega) ?_ fun D hD => ?_
    · intro D acc x N hD hx k1 k2
      have hP1 : SqL K (upd H D (.lst acc)) p (ws.map V.int) := (same_new hD).seq hP
      have e1 := at_w (pk.inb x hx)
      have e2 := at_w (pk.inb t ht)
      have c := hc x hx
      walk_at "go"
      refine g_iteD (fun h3 => ?_) (fun h3 => ?_)
      · walk_at "go"
        exact k1 rfl
      · have h4 : wAt ws x = wAt ws t ∧ t ≤ x := c.resolve_left h3
        walk_at "go"
        refine g_iteY h4.1 ?_
        walk_at "go"
        rw [decide_eq_true h4.2]
        exact k1 rfl
    · rw [all_true fun _ _ => rfl]
      walk_at "go"
      rw [all_rep]
      exact q _ (same_new hD)
theorem c_best (T : Top K mg) : Cal P w K mg base "_law_best_so" 1 P__law_best_so (spBest K) := cal_mk T.f__law_best_so (ok_best T) (fun F => F.bindsN fun _ _ _ _ _ _ us hl => match us, hl with | [_, _, _], _ => rfl)
/-! _law_drawn_so -/
def spDrn (K : PySem.W.Frag) : Sp := fun vs H Q _ => ∃ (p b : Addr) (ws S : List Int) (t n : Int), vs = [.int t, .ref p, .ref b, .int n] ∧ SqL K H p (ws.map V.int) ∧ SqL K H b (S.map V.int) ∧ Picks ws S ∧ t ∈ S ∧
  0 < (S.map (wAt ws)).sum ∧ ((S.filter fun x => decide (x < t)).map (wAt ws)).sum ≤ n % (S.map (wAt ws)).sum ∧
  n % (S.map (wAt ws)).sum < ((S.filter fun x => decide (x < t)).map (wAt ws)).sum + wAt ws t ∧ ∀ H', Same H H' → Q (.bl true) H'
theorem ok_drn {f : Addr} {fd : FuncData} (T : Top K mg) (F : FnP K "_law_drawn_so" s__law_drawn_so f fd) : FnOk P w K mg base CX0 1 f fd P__law_drawn_so (spDrn K) := by
  refine F.ok sc__law_drawn_so (fun vs H Q E h => ?_) (fun cdv A outer s H vs Q E hr h => ?_)
  · obtain ⟨p, b, ws, S, t, n, rfl, _⟩ := h
    rfl
  · obtain ⟨p, b, ws, S, t, n, rfl, hP, hS, pk, ht, hpos, h1, h2, q⟩ := h
    refine ⟨_, PSs.nox (pss_cons (ps_set (i := 4) sc__law_drawn_so.nd rfl (by first | exact Or.inl rfl | exact Or.inr rfl) (pe_callB (k_sum (K := K) (by rfl) (by rfl)) (by rfl) T.z_sum (by decide +kernel) (pa_cons (pe_lc (own := [("a", 5)]) (g := gName 5) (by rfl) sc__law_drawn_so.nd (k_pil (K := K) (by rfl) (pv 2)) (blkOk_by (own := [("a", 5)]) (N := N__law_drawn_so) (sc := defScope s__law_drawn_so) (by decide +kernel)) (fun _ _ _ _ _ => pg_name (i := 5) sc__law_drawn_so.nd rfl (by first | exact Or.inl rfl | exact Or.inr rfl)) (fun _ _ _ _ _ => pts_nil) (fun _ _ _ _ _ => (pe_ix (k_ix (K := K) (by rfl)) (pv 1) (pv 5) (fun _ _ => rfl)))) pa_nil)))
    (pss_cons (ps_set (i := 6) sc__law_drawn_so.nd rfl (by first | exact Or.inl rfl | exact Or.inr rfl) (pe_callB (k_sum (K := K) (by rfl) (by rfl)) (by rfl) T.z_sum (by decide +kernel) (pa_cons (pe_lc (own := [("a", 5)]) (g := gName 5) (by rfl) sc__law_drawn_so.nd (k_pil (K := K) (by rfl) (pv 2)) (blkOk_by (own := [("a", 5)]) (N := N__law_drawn_so) (sc := defScope s__law_drawn_so) (by decide +kernel)) (fun _ _ _ _ _ => pg_name (i := 5) sc__law_drawn_so.nd rfl (by first | exact Or.inl rfl | exact Or.inr rfl)) (fun _ _ _ _ _ => (pts_one (pt_cmpR op_lt (pv 5) (pv 0) (nomark _)))) (fun _ _ _ _ _ => (pe_ix (k_ix (K := K) (by rfl)) (pv 1) (pv 5) (fun _ _ => rfl)))) pa_nil)))
    (pss_cons (ps_set (i := 7) sc__law_drawn_so.nd rfl (by first | exact Or.inl rfl | exact Or.inr rfl) (pe_op op_mod (pe_callTy c_int (by rfl) T.z_int (by decide +kernel) (pa_cons (pv 3) pa_nil)) (pv 4)))
    (pss_one (ps_ret (pe_and (pe_cmpR op_le (pv 6) (pv 7) (nomark _)) (pe_one (pe_cmpR op_lt (pv 7) (pe_op op_add (pv 6) (pe_ix (k_ix (K := K) (by rfl)) (pv 1) (pv 0) (fun _ _ => rfl))) (nomark _))))))))), ?_⟩
    rw [show L2.start N__law_drawn_so [.int t, V.ref p, V.ref b, .int n] = [some (.int t), some (.ref p), some (.ref b), some (.int n), none, none, none, none] from rfl]
    have hlen := pk.len
    walk_at "go"
    refine lcP (f := fun x => .int (wAt ws x)) (p := fun _ => true) (σ0 := [some (.int t), some (.ref p), some (.ref b), some (.int n), none, none, none, none]) rfl hS (by omega) ?_ fun D hD => ?_
    · intro D acc x N hD hx k1 k2
      have hP1 : SqL K (upd H D (.lst acc)) p (ws.map V.int) := (same_new hD).seq hP
      have e1 := at_w (pk.inb x hx)
      walk_at "go"
      exact k1 rfl
    · have e1 : (S.filter fun _ => true).map (fun x => V.int (wAt ws x)) = (S.map (wAt ws)).map V.int := by
        rw [filter_tt, List.map_map]; rfl
      rw [e1]
      have s1 : Same H (upd H D (.lst ((S.map (wAt ws)).map V.int))) := same_new hD
      have hS1 := s1.seq hS
      walk_at "go"
      refine lcP (f := fun x => .int (wAt ws x)) (p := fun x => decide (x < t)) (σ0 := [some (.int t), some (.ref p), some (.ref b), some (.int n), some (.int (S.map (wAt ws)).sum), none, none, none]) rfl hS1 (by omega) ?_ fun D2 hD2 => ?_
      · intro D2 acc x N hD2 hx k1 k2
        have hP1 : SqL K (upd (upd H D (.lst ((S.map (wAt ws)).map V.int))) D2 (.lst acc)) p (ws.map V.int) := (s1.trans (same_new hD2)).seq hP
        have e1 := at_w (pk.inb x hx)
        walk_at "go"
        refine g_turnC (fun h3 => ?_) (fun h3 => ?_)
        · walk_at "go"
          exact k1 (decide_eq_true h3)
        · exact k2 (decide_eq_false h3)
      · have e2 : (S.filter fun x => decide (x < t)).map (fun x => V.int (wAt ws x)) = ((S.filter fun x => decide (x < t)).map (wAt ws)).map V.int := by
          rw [List.map_map]; rfl
        rw [e2]
        have s2 := s1.trans (same_new (o := .lst (((S.filter fun x => decide (x < t)).map (wAt ws)).map V.int)) hD2)
        have hP2 := s2.seq hP
        have e3 := at_w (pk.inb t ht)
        walk_at "go"
        refine g_iteY h1 ?_
        walk_at "go"
        rw [decide_eq_true h2]
        exact q _ s2
theorem c_drn (T : Top K mg) : Cal P w K mg base "_law_drawn_so" 1 P__law_drawn_so (spDrn K) := cal_mk T.f__law_drawn_so (ok_drn T) (fun F => F.bindsN fun _ _ _ _ _ _ us hl => match us, hl with | [_, _, _, _], _ => rfl)
/-! _law_choice_so -/
def spCho (K : PySem.W.Frag) : Sp := fun vs H Q _ => ∃ (p b : Addr) (ws S : List Int) (t n : Int) (kw : Str), vs = [.int t, .ref p, .ref b, .str kw, .int n] ∧ SqL K H p (ws.map V.int) ∧ SqL K H b (S.map V.int) ∧ Picks ws S ∧ t ∈ S ∧
  ((∀ x ∈ S, wAt ws x = 0) → t = S.headD 0) ∧
  ((¬ ∀ x ∈ S, wAt ws x = 0) → kw = "best" → ∀ x ∈ S, wAt ws x < wAt ws t ∨ (wAt ws x = wAt ws t ∧ t ≤ x)) ∧
  ((¬ ∀ x ∈ S, wAt ws x = 0) → ¬ kw = "best" → 0 < (S.map (wAt ws)).sum ∧ ((S.filter fun x => decide (x < t)).map (wAt ws)).sum ≤ n % (S.map (wAt ws)).sum ∧
    n % (S.map (wAt ws)).sum < ((S.filter fun x => decide (x < t)).map (wAt ws)).sum + wAt ws t) ∧ ∀ H', Same H H' → Q (.bl true) H'
theorem all_zeros (ws S : List Int) : ((S.map fun x => decide (wAt ws x = 0)).all id = true) ↔ ∀ x ∈ S, wAt ws x = 0 := by
  simp [List.all_eq_true]
theorem ok_cho {f : Addr} {fd : FuncData} (T : Top K mg) (F : FnP K "_law_choice_so" s__law_choice_so f fd) : FnOk P w K mg base CX0 2 f fd P__law_choice_so (spCho K) := by
  have C__law_best_so : Cal P w K mg base "_law_best_so" 1 P__law_best_so (spBest K) := c_best T
  have C__law_drawn_so : Cal P w K mg base "_law_drawn_so" 1 P__law_drawn_so (spDrn K) := c_drn T
  refine F.ok sc__law_choice_so (fun vs H Q E h => ?_) (fun cdv A outer s H vs Q E hr h => ?_)
  · obtain ⟨p, b, ws, S, t, n, kw, rfl, _⟩ := h
    rfl
  · obtain ⟨p, b, ws, S, t, n, kw, rfl, hP, hS, pk, ht, hz, hb, hd, q⟩ := h
    refine ⟨_, PSs.nox (pss_cons (ps_if (PW.pt (pw_or (pt_not (pt_val (pe_callB (k_isi (K := K) (by rfl)) (by rfl) T.z_isinstance (by decide +kernel) (pa_cons (pv 0) (pa_cons (pe_bltn (v := .ty "int") (u := .type "int") (by rfl) T.z_int (by decide +kernel) rfl) pa_nil))))) (pw_or (pt_val (pe_callB (k_isi (K := K) (by rfl)) (by rfl) T.z_isinstance (by decide +kernel) (pa_cons (pv 0) (pa_cons (pe_bltn (v := .ty "bool") (u := .type "bool") (by rfl) T.z_bool (by decide +kernel) rfl) pa_nil)))) (pw_or1 (pt_cmpR (k_notin (K := K) (by rfl)) (pv 0) (pv 2) (by first | rfl | exact nomark _))))))
    (pss_one (ps_ret pe_bl))
    pss_nil)
    (pss_cons (ps_if (pt_val (pe_callB (k_all (K := K) (by rfl) (by rfl)) (by rfl) T.z_all (by decide +kernel) (pa_cons (pe_lc (own := [("a", 5)]) (g := gName 5) (by rfl) sc__law_choice_so.nd (k_pil (K := K) (by rfl) (pv 2)) (blkOk_by (own := [("a", 5)]) (N := N__law_choice_so) (sc := defScope s__law_choice_so) (by decide +kernel)) (fun _ _ _ _ _ => pg_name (i := 5) sc__law_choice_so.nd rfl (by first | exact Or.inl rfl | exact Or.inr rfl)) (fun _ _ _ _ _ => pts_nil) (fun _ _ _ _ _ => (pe_cmpR op_eq (pe_ix (k_ix (K := K) (by rfl)) (pv 1) (pv 5) (fun _ _ => rfl)) pe_int (nomark _)))) pa_nil)))
    (pss_one (ps_ret (pe_cmpR op_eq (pv 0) (pe_ix (k_ix (K := K) (by rfl)) (pv 2) pe_int (fun _ _ => rfl)) (nomark _))))
    pss_nil)
    (pss_cons (ps_if (pt_cmpR op_eq (pv 3) pe_str (nomark _))
    (pss_one (ps_ret (pe_cal C__law_best_so (hr.mono (by first | decide | omega)) (by rfl) (pa_cons (pv 0) (pa_cons (pv 1) (pa_cons (pv 2) pa_nil))))))
    pss_nil)
    (pss_one (ps_ret (pe_cal C__law_drawn_so (hr.mono (by first | decide | omega)) (by rfl) (pa_cons (pv 0) (pa_cons (pv 1) (pa_cons (pv 2) (pa_cons (pv 4) pa_nil)))))))))), ?_⟩
    rw [show L2.start N__law_choice_so [.int t, V.ref p, V.ref b, .str kw, .int n] = [some (.int t), some (.ref p), some (.ref b), some (.str kw), some (.int n), none] from rfl]
    have hlen := pk.len
    walk_at "go"
    refine g_iteNX ht ?_
    walk_at "go"
    refine lcP (f := fun x => .bl (decide (wAt ws x = 0))) (p := fun _ => true) (σ0 := [some (.int t), some (.ref p), some (.ref b), some (.str kw), some (.int n), none]) rfl hS (by omega) ?_ fun D hD => ?_
    · intro D acc x N hD hx k1 k2
      have hP1 : SqL K (upd H D (.lst acc)) p (ws.map V.int) := (same_new hD).seq hP
      have e1 := at_w (pk.inb x hx)
      walk_at "go"
      exact k1 rfl
    · have e1 : (S.filter fun _ => true).map (fun x => V.bl (decide (wAt ws x = 0))) = (S.map fun x => decide (wAt ws x = 0)).map V.bl := by
        rw [filter_tt, List.map_map]; rfl
      rw [e1]
      have s1 : Same H (upd H D (.lst ((S.map fun x => decide (wAt ws x = 0)).map V.bl))) := same_new hD
      have hS1 := s1.seq hS
      have hP1 := s1.seq hP
      walk_at "go"
      refine g_iteBB (fun h3 => ?_) (fun h3 => ?_)
      · have z := (all_zeros ws S).mp h3
        have e2 : atI (S.map V.int) 0 = some (.int (S.headD 0)) := by
          cases S with
          | nil => cases ht
          | cons x r => exact atI_nat (j := 0) rfl
        walk_at "go"
        rw [decide_eq_true (hz z)]
        exact q _ s1
      · have z : ¬ ∀ x ∈ S, wAt ws x = 0 := fun k => by
          rw [(all_zeros ws S).mpr k] at h3
          cases h3
        walk_at "go"
        refine g_iteD (fun h4 => ?_) (fun h4 => ?_)
        · walk_at "go"
          exact ⟨p, b, ws, S, t, rfl, hP1, hS1, pk, ht, hb z h4, fun H' s => q _ (s1.trans s)⟩
        · walk_at "go"
          obtain ⟨d1, d2, d3⟩ := hd z h4
          exact ⟨p, b, ws, S, t, n, rfl, hP1, hS1, pk, ht, d1, d2, d3, fun H' s => q _ (s1.trans s)⟩
theorem c_cho (T : Top K mg) : Cal P w K mg base "_law_choice_so" 2 P__law_choice_so (spCho K) := cal_mk T.f__law_choice_so (ok_cho T) (fun F => F.bindsN fun _ _ _ _ _ _ us hl => match us, hl with | [_, _, _, _, _], _ => rfl)
end

set_option Elab.async false
set_option linter.all false
set_option maxRecDepth 100000
set_option maxHeartbeats 4000000
open PySem PySem.Spec L2

section
variable {P : Program} {w : World} {K : PySem.W.Frag} {mg : Str → Option Value} {base : Heap}

theorem ok_draw_number (T : Top K mg) {f : Addr} {fd : FuncData} (F : FnP K "draw_number" s_draw_number f fd) : FnOk P w K mg base CX0 1 f fd P_draw_number spNum := ok_drawn F
theorem kc_draw_number_0_place_seed (T : Top K mg) : KCal P w K mg base "draw_number" 1 0 ["place", "seed"] (fun vs zs => pick [(2, 1), (2, 0)] vs [] zs) spNum := kcal_mk (ps := P_draw_number) T.f_draw_number (ok_draw_number T) (fun F => kbindsN F 0 ["place", "seed"] [(2, 1), (2, 0)] fun _ _ _ _ _ _ us ws l1 l2 => match us, ws, l1, l2 with | [], [_, _], _, _ => rfl)
theorem kc_choose_1_place_allowed_seed_knob (T : Top K mg) : KCal P w K mg base "choose" 2 1 ["place", "allowed", "seed", "knob"] (fun vs zs => pick [(0, 0), (2, 1), (2, 3), (2, 2), (2, 0)] vs (([] : List (Str × V)).map (·.2)) zs) (spChoose K) := kcal_mk (ps := P_choose) T.f_choose (ok_choose T) (fun F => kbindsK F 1 ["place", "allowed", "seed", "knob"] [] [(0, 0), (2, 1), (2, 3), (2, 2), (2, 0)] (by simp) (by simp) fun _ _ _ _ _ _ us mv ws l1 l2 l3 => match us, mv, ws, l1, l2, l3 with | [_], [], [_, _, _, _], _, _, _ => rfl)
theorem kc_choose_1_allowed_knob_seed_place (T : Top K mg) : KCal P w K mg base "choose" 2 1 ["allowed", "knob", "seed", "place"] (fun vs zs => pick [(0, 0), (2, 0), (2, 1), (2, 2), (2, 3)] vs (([] : List (Str × V)).map (·.2)) zs) (spChoose K) := kcal_mk (ps := P_choose) T.f_choose (ok_choose T) (fun F => kbindsK F 1 ["allowed", "knob", "seed", "place"] [] [(0, 0), (2, 0), (2, 1), (2, 2), (2, 3)] (by simp) (by simp) fun _ _ _ _ _ _ us mv ws l1 l2 l3 => match us, mv, ws, l1, l2, l3 with | [_], [], [_, _, _, _], _, _, _ => rfl)
theorem kc_choose_1_allowed_seed_place (T : Top K mg) : KCal P w K mg base "choose" 2 1 ["allowed", "seed", "place"] (fun vs zs => pick [(0, 0), (2, 0), (1, 0), (2, 1), (2, 2)] vs (([("knob", .str "best")] : List (Str × V)).map (·.2)) zs) (spChoose K) := kcal_mk (ps := P_choose) T.f_choose (ok_choose T) (fun F => kbindsK F 1 ["allowed", "seed", "place"] [("knob", .str "best")] [(0, 0), (2, 0), (1, 0), (2, 1), (2, 2)] (by simp) (by simp) fun _ _ _ _ _ _ us mv ws l1 l2 l3 => match us, mv, ws, l1, l2, l3 with | [_], [_], [_, _, _], _, _, _ => ⟨_, _, _, _, _, _, rfl, rfl, rfl⟩)
theorem kc_choose_1_knob_allowed (T : Top K mg) : KCal P w K mg base "choose" 2 1 ["knob", "allowed"] (fun vs zs => pick [(0, 0), (2, 1), (2, 0), (1, 0), (1, 1)] vs (([("seed", .int 0), ("place", .int 0)] : List (Str × V)).map (·.2)) zs) (spChoose K) := kcal_mk (ps := P_choose) T.f_choose (ok_choose T) (fun F => kbindsK F 1 ["knob", "allowed"] [("seed", .int 0), ("place", .int 0)] [(0, 0), (2, 1), (2, 0), (1, 0), (1, 1)] (by simp) (by simp) fun _ _ _ _ _ _ us mv ws l1 l2 l3 => match us, mv, ws, l1, l2, l3 with | [_], [_, _], [_, _], _, _, _ => ⟨_, _, _, _, _, _, rfl, rfl, ⟨_, _, _, _, _, _, rfl, rfl, rfl⟩⟩)
theorem kc_choose_1_knob_place (T : Top K mg) : KCal P w K mg base "choose" 2 1 ["knob", "place"] (fun vs zs => pick [(0, 0), (1, 0), (2, 0), (1, 1), (2, 1)] vs (([("allowed", .non), ("seed", .int 0)] : List (Str × V)).map (·.2)) zs) (spChoose K) := kcal_mk (ps := P_choose) T.f_choose (ok_choose T) (fun F => kbindsK F 1 ["knob", "place"] [("allowed", .non), ("seed", .int 0)] [(0, 0), (1, 0), (2, 0), (1, 1), (2, 1)] (by simp) (by simp) fun _ _ _ _ _ _ us mv ws l1 l2 l3 => match us, mv, ws, l1, l2, l3 with | [_], [_, _], [_, _], _, _, _ => ⟨_, _, _, _, _, _, rfl, rfl, ⟨_, _, _, _, _, _, rfl, rfl, rfl⟩⟩)
theorem kc_choose_1_knob_seed_allowed (T : Top K mg) : KCal P w K mg base "choose" 2 1 ["knob", "seed", "allowed"] (fun vs zs => pick [(0, 0), (2, 2), (2, 0), (2, 1), (1, 0)] vs (([("place", .int 0)] : List (Str × V)).map (·.2)) zs) (spChoose K) := kcal_mk (ps := P_choose) T.f_choose (ok_choose T) (fun F => kbindsK F 1 ["knob", "seed", "allowed"] [("place", .int 0)] [(0, 0), (2, 2), (2, 0), (2, 1), (1, 0)] (by simp) (by simp) fun _ _ _ _ _ _ us mv ws l1 l2 l3 => match us, mv, ws, l1, l2, l3 with | [_], [_], [_, _, _], _, _, _ => ⟨_, _, _, _, _, _, rfl, rfl, rfl⟩)
theorem kc_choose_0_weights_knob_seed_allowed_place (T : Top K mg) : KCal P w K mg base "choose" 2 0 ["weights", "knob", "seed", "allowed", "place"] (fun vs zs => pick [(2, 0), (2, 3), (2, 1), (2, 2), (2, 4)] vs (([] : List (Str × V)).map (·.2)) zs) (spChoose K) := kcal_mk (ps := P_choose) T.f_choose (ok_choose T) (fun F => kbindsK F 0 ["weights", "knob", "seed", "allowed", "place"] [] [(2, 0), (2, 3), (2, 1), (2, 2), (2, 4)] (by simp) (by simp) fun _ _ _ _ _ _ us mv ws l1 l2 l3 => match us, mv, ws, l1, l2, l3 with | [], [], [_, _, _, _, _], _, _, _ => rfl)
theorem kc_choose_1_ (T : Top K mg) : KCal P w K mg base "choose" 2 1 [] (fun vs zs => pick [(0, 0), (1, 0), (1, 1), (1, 2), (1, 3)] vs (([("allowed", .non), ("knob", .str "best"), ("seed", .int 0), ("place", .int 0)] : List (Str × V)).map (·.2)) zs) (spChoose K) := kcal_mk (ps := P_choose) T.f_choose (ok_choose T) (fun F => kbindsK F 1 [] [("allowed", .non), ("knob", .str "best"), ("seed", .int 0), ("place", .int 0)] [(0, 0), (1, 0), (1, 1), (1, 2), (1, 3)] (by simp) (by simp) fun _ _ _ _ _ _ us mv ws l1 l2 l3 => match us, mv, ws, l1, l2, l3 with | [_], [_, _, _, _], [], _, _, _ => ⟨_, _, _, _, _, _, rfl, rfl, ⟨_, _, _, _, _, _, rfl, rfl, ⟨_, _, _, _, _, _, rfl, rfl, ⟨_, _, _, _, _, _, rfl, rfl, rfl⟩⟩⟩⟩)
theorem kc_choose_1_allowed (T : Top K mg) : KCal P w K mg base "choose" 2 1 ["allowed"] (fun vs zs => pick [(0, 0), (2, 0), (1, 0), (1, 1), (1, 2)] vs (([("knob", .str "best"), ("seed", .int 0), ("place", .int 0)] : List (Str × V)).map (·.2)) zs) (spChoose K) := kcal_mk (ps := P_choose) T.f_choose (ok_choose T) (fun F => kbindsK F 1 ["allowed"] [("knob", .str "best"), ("seed", .int 0), ("place", .int 0)] [(0, 0), (2, 0), (1, 0), (1, 1), (1, 2)] (by simp) (by simp) fun _ _ _ _ _ _ us mv ws l1 l2 l3 => match us, mv, ws, l1, l2, l3 with | [_], [_, _, _], [_], _, _, _ => ⟨_, _, _, _, _, _, rfl, rfl, ⟨_, _, _, _, _, _, rfl, rfl, ⟨_, _, _, _, _, _, rfl, rfl, rfl⟩⟩⟩)
theorem kc_choose_1_knob_seed_place (T : Top K mg) : KCal P w K mg base "choose" 2 1 ["knob", "seed", "place"] (fun vs zs => pick [(0, 0), (1, 0), (2, 0), (2, 1), (2, 2)] vs (([("allowed", .non)] : List (Str × V)).map (·.2)) zs) (spChoose K) := kcal_mk (ps := P_choose) T.f_choose (ok_choose T) (fun F => kbindsK F 1 ["knob", "seed", "place"] [("allowed", .non)] [(0, 0), (1, 0), (2, 0), (2, 1), (2, 2)] (by simp) (by simp) fun _ _ _ _ _ _ us mv ws l1 l2 l3 => match us, mv, ws, l1, l2, l3 with | [_], [_], [_, _, _], _, _, _ => ⟨_, _, _, _, _, _, rfl, rfl, rfl⟩)
end

set_option Elab.async false
set_option linter.all false
set_option maxHeartbeats 4000000
theorem filter_sum (w : Int → Int) (j : Int) : ∀ S : List Int, S.Nodup →
    ((S.filter fun x => decide (x < j + 1)).map w).sum = ((S.filter fun x => decide (x < j)).map w).sum + (if j ∈ S then w j else 0)
  | [], _ => rfl
  | a :: r, hn => by
    obtain ⟨h1, h2⟩ := List.nodup_cons.mp hn
    have ih := filter_sum w j r h2
    by_cases e : a = j
    · subst e
      rw [if_neg h1] at ih
      rw [List.filter_cons_of_pos (by simp; omega), List.filter_cons_of_neg (by simp), if_pos (List.mem_cons_self ..), List.map_cons, List.sum_cons]
      omega
    · have m : (j ∈ a :: r) ↔ j ∈ r := by
        constructor
        · intro h
          rcases List.mem_cons.mp h with h | h
          · exact absurd h.symm e
          · exact h
        · exact List.mem_cons_of_mem _
      have ei : (if j ∈ a :: r then w j else 0) = if j ∈ r then w j else 0 := by
        by_cases q : j ∈ r
        · rw [if_pos q, if_pos (m.mpr q)]
        · rw [if_neg q, if_neg fun z => q (m.mp z)]
      rw [ei]
      by_cases lt : a < j
      · rw [List.filter_cons_of_pos (by simp; omega), List.filter_cons_of_pos (by simpa using lt), List.map_cons, List.map_cons, List.sum_cons, List.sum_cons, ih]
        omega
      · rw [List.filter_cons_of_neg (by simp; omega), List.filter_cons_of_neg (by simpa using lt), ih]
theorem cnt_at {ws S : List Int} {j : Nat} (h : j < ws.length) : (cnt ws (some S)).getD j 0 = if (j : Int) ∈ S then wAt ws j else 0 := by
  unfold cnt wAt
  rw [List.getD_eq_getElem?_getD, List.getElem?_mapIdx, List.getElem?_eq_getElem h]
  simp only [Option.map_some, Option.getD_some, Int.toNat_natCast]
  rw [List.getD_eq_getElem?_getD, List.getElem?_eq_getElem h]
  rfl
theorem cnt_take {ws S : List Int} (hn : S.Nodup) (hS : ∀ x ∈ S, 0 ≤ x) : ∀ j : Nat, j ≤ ws.length → ((cnt ws (some S)).take j).sum = ((S.filter fun x => decide (x < (j : Int))).map (wAt ws)).sum
  | 0, _ => by
    have e : (S.filter fun x => decide (x < ((0 : Nat) : Int))) = [] := by
      rw [List.filter_eq_nil_iff]
      intro x hx
      have := hS x hx
      simp
      omega
    rw [e]
    rfl
  | j + 1, h => by
    have ih := cnt_take (ws := ws) hn hS j (by omega)
    have hl := cnt_len ws (some S)
    rw [sum_take1 (by omega), cnt_at (by omega), ih]
    have z := filter_sum (wAt ws) (j : Int) S hn
    rw [show ((j + 1 : Nat) : Int) = (j : Int) + 1 from by omega, z]
theorem cnt_sum {ws S : List Int} (hn : S.Nodup) (pk : Picks ws S) : (cnt ws (some S)).sum = (S.map (wAt ws)).sum := by
  have hl := cnt_len ws (some S)
  have z := cnt_take (ws := ws) hn (fun x hx => (pk.inb x hx).1) ws.length (Nat.le_refl _)
  rw [← hl, List.take_length, hl] at z
  rw [z, List.filter_eq_self.mpr fun x hx => decide_eq_true (pk.inb x hx).2]
theorem cnt_zero {ws S : List Int} (pk : Picks ws S) : (∀ x ∈ cnt ws (some S), x = 0) ↔ ∀ x ∈ S, wAt ws x = 0 := by
  have hl := cnt_len ws (some S)
  constructor
  · intro h x hx
    have b := pk.inb x hx
    have hj : x.toNat < ws.length := by omega
    have e := cnt_at (S := S) hj
    rw [Int.toNat_of_nonneg b.1, if_pos hx] at e
    rw [← e, List.getD_eq_getElem?_getD, List.getElem?_eq_getElem (by omega)]
    exact h _ (List.getElem_mem _)
  · intro h x hx
    obtain ⟨j, hj, rfl⟩ := List.getElem_of_mem hx
    have e := cnt_at (ws := ws) (S := S) (j := j) (by omega)
    rw [List.getD_eq_getElem?_getD, List.getElem?_eq_getElem hj] at e
    have e2 : (cnt ws (some S))[j] = if (j : Int) ∈ S then wAt ws j else 0 := e
    rw [e2]
    split
    · rename_i m
      exact h _ m
    · rfl
theorem chosen_best {c : List Int} {z n n' t : Int} (h : Chosen c z true n t) : Chosen c z true n' t :=
  ⟨h.zero, fun k => by
    obtain ⟨j, e, hj, b, d⟩ := h.rest k
    exact ⟨j, e, hj, b, fun q => by cases q⟩⟩
theorem chosen_z {c : List Int} {z z' n t : Int} {b : Bool} (k : ¬ ∀ x ∈ c, x = 0) (h : Chosen c z b n t) : Chosen c z' b n t := ⟨fun q => absurd q k, h.rest⟩
theorem some_pos {c : List Int} (hc : ∀ x ∈ c, 0 ≤ x) (h : ¬ ∀ x ∈ c, x = 0) : ∃ x ∈ c, 0 < x := by
  apply Classical.byContradiction
  intro k
  refine h fun x hx => ?_
  have h1 := hc x hx
  have h2 : ¬ 0 < x := fun q => k ⟨x, hx, q⟩
  omega
/-- what the law asks of a choice -/
structure Due (ws S : List Int) (t n : Int) (bst : Bool) : Prop where
  mem : t ∈ S
  zero : (∀ x ∈ S, wAt ws x = 0) → t = S.headD 0
  best : (¬ ∀ x ∈ S, wAt ws x = 0) → bst = true → ∀ x ∈ S, wAt ws x < wAt ws t ∨ (wAt ws x = wAt ws t ∧ t ≤ x)
  drawn : (¬ ∀ x ∈ S, wAt ws x = 0) → bst = false → 0 < (S.map (wAt ws)).sum ∧ ((S.filter fun x => decide (x < t)).map (wAt ws)).sum ≤ n % (S.map (wAt ws)).sum ∧
    n % (S.map (wAt ws)).sum < ((S.filter fun x => decide (x < t)).map (wAt ws)).sum + wAt ws t
theorem due_of {ws S : List Int} {t n : Int} {b : Bool} (hw : ∀ x ∈ ws, 0 ≤ x) (hn : S.Nodup) (hne : S ≠ []) (pk : Picks ws S) (h : Chosen (cnt ws (some S)) (S.headD 0) b n t) : Due ws S t n b := by
  have hl := cnt_len ws (some S)
  have hcn := cnt_nn hw (some S)
  have headm : S.headD 0 ∈ S := by
    cases S with
    | nil => exact absurd rfl hne
    | cons x r => exact List.mem_cons_self ..
  by_cases k : ∀ x ∈ S, wAt ws x = 0
  · have e := h.zero ((cnt_zero pk).mpr k)
    exact ⟨by rw [e]; exact headm, fun _ => e, fun q => absurd k q, fun q => absurd k q⟩
  · have k2 : ¬ ∀ x ∈ cnt ws (some S), x = 0 := fun q => k ((cnt_zero pk).mp q)
    obtain ⟨j, rfl, hj, hb, hd⟩ := h.rest k2
    have hj2 : j < ws.length := by omega
    have ej := cnt_at (S := S) hj2
    have pos : 0 < (cnt ws (some S)).getD j 0 := by
      cases b with
      | true =>
        obtain ⟨x, hx, hp⟩ := some_pos hcn k2
        have := (hb rfl).1 x hx
        omega
      | false =>
        obtain ⟨d1, d2⟩ := hd rfl
        rw [sum_take1 hj] at d2
        omega
    have mj : (j : Int) ∈ S := by
      by_cases q : (j : Int) ∈ S
      · exact q
      · rw [if_neg q] at ej
        omega
    rw [if_pos mj] at ej
    refine ⟨mj, fun q => absurd q k, fun _ q x hx => ?_, fun _ q => ?_⟩
    · obtain ⟨b1, b2⟩ := hb q
      have bx := pk.inb x hx
      have hx2 : x.toNat < ws.length := by omega
      have ex := cnt_at (S := S) hx2
      rw [Int.toNat_of_nonneg bx.1, if_pos hx] at ex
      have le : wAt ws x ≤ wAt ws j := by
        rw [← ex, ← ej]
        refine b1 _ ?_
        rw [List.getD_eq_getElem?_getD, List.getElem?_eq_getElem (by omega)]
        exact List.getElem_mem _
      by_cases lt : wAt ws x < wAt ws j
      · exact .inl lt
      · refine .inr ⟨by omega, ?_⟩
        apply Classical.byContradiction
        intro q2
        have := b2 x.toNat (by omega)
        rw [ex, ej] at this
        omega
    · obtain ⟨d1, d2⟩ := hd q
      rw [sum_take1 hj, ej] at d2
      rw [cnt_sum hn pk] at d1 d2
      rw [cnt_take hn (fun x hx => (pk.inb x hx).1) j (by omega)] at d1 d2
      refine ⟨?_, d1, d2⟩
      rw [← cnt_sum hn pk]
      exact sum_pos hcn k2
/-- all tokens -/
def allOf (n : Nat) : List Int := (List.range n).map (fun i : Nat => (i : Int))
theorem all_mem {n : Nat} {x : Int} : x ∈ allOf n ↔ 0 ≤ x ∧ x < n := by
  unfold allOf
  rw [List.mem_map]
  constructor
  · rintro ⟨i, hi, rfl⟩
    have := List.mem_range.mp hi
    omega
  · intro h
    exact ⟨x.toNat, List.mem_range.mpr (by omega), by omega⟩
theorem all_pair (n : Nat) : (allOf n).Pairwise (· < ·) := by
  unfold allOf
  rw [List.pairwise_map]
  exact List.Pairwise.imp (fun {a b} (h : a < b) => by omega) List.pairwise_lt_range
theorem nodup_of {S : List Int} (h : S.Pairwise (· < ·)) : S.Nodup := List.Pairwise.imp (fun {a b} (h : a < b) => by omega) h
theorem all_len (n : Nat) : (allOf n).length = n := by unfold allOf; rw [List.length_map, List.length_range]
theorem cnt_all (ws : List Int) : cnt ws (some (allOf ws.length)) = ws := by
  apply List.ext_getElem?
  intro i
  unfold cnt
  rw [List.getElem?_mapIdx]
  rcases Nat.lt_or_ge i ws.length with h | h
  · rw [List.getElem?_eq_getElem h]
    have m : (i : Int) ∈ allOf ws.length := all_mem.mpr ⟨by omega, by omega⟩
    simp [m]
  · rw [List.getElem?_eq_none_iff.mpr h]
    rfl
theorem all_head {n : Nat} (h : 1 ≤ n) : (allOf n).headD 0 = 0 := by
  obtain ⟨m, rfl⟩ : ∃ m, n = m + 1 := ⟨n - 1, by omega⟩
  unfold allOf
  rw [List.range_succ_eq_map]
  rfl

set_option Elab.async false
set_option linter.all false
set_option maxRecDepth 100000
set_option maxHeartbeats 4000000
open PySem PySem.Spec L2


section
variable {P : Program} {w : World} {K : PySem.W.Frag} {mg : Str → Option Value} {base : Heap}

theorem g_num {i j : Int} {H : Hp} {Q : VK} {E : XK} (q : Q (.int (drawN i j)) H) : spNum [.int i, .int j] H Q E := ⟨i, j, rfl, q⟩
theorem g_like {i j : Int} {H : Hp} {Q : VK} {E : XK} (e : i = j) (q : ∀ H', Same H H' → Q (.bl true) H') : spLike [.int i, .int j] H Q E := ⟨i, j, rfl, fun H' s => by rw [decide_eq_true e]; exact q H' s⟩
theorem g_cho {p b : Addr} {ws S : List Int} {t n : Int} {kw : Str} {bst : Bool} {H : Hp} {Q : VK} {E : XK} (hP : SqL K H p (ws.map V.int)) (hS : SqL K H b (S.map V.int)) (pk : Picks ws S) (d : Due ws S t n bst) (e : decide (kw = ("best" : Str)) = bst)
    (q : ∀ H', Same H H' → Q (.bl true) H') : spCho K [.int t, .ref p, .ref b, .str kw, .int n] H Q E := by
  refine ⟨p, b, ws, S, t, n, kw, rfl, hP, hS, pk, d.mem, d.zero, fun h k => d.best h ?_, fun h k => d.drawn h ?_, q⟩
  · rw [← e]; exact decide_eq_true k
  · rw [← e]; exact decide_eq_false k
theorem g_choS {a b : Addr} {ws S : List Int} {knob : Str} {bst : Bool} {seed place : Int} {H : Hp} {Q : VK} {E : XK} (hS : SqL K H a (ws.map V.int) ∨ SqT K H a (ws.map V.int)) (h : 1 ≤ ws.length ∧ ws.length ≤ 1000) (hw : ∀ x ∈ ws, 0 ≤ x)
    (hA : SqL K H b (S.map V.int) ∨ SqT K H b (S.map V.int)) (hne : S ≠ []) (e : decide (knob = ("best" : Str)) = bst) (q : ∀ (t : Int) (H' : Hp), Chosen (cnt ws (some S)) (S.headD 0) bst (drawN seed place) t → Same H H' → Q (.int t) H') :
    spChoose K [.ref a, .ref b, .str knob, .int seed, .int place] H Q E :=
  ⟨a, .ref b, ws, some S, knob, seed, place, rfl, hS, h.1, h.2, hw, ⟨b, rfl, hA⟩, fun S' e => by cases e; exact hne, fun t H' c s => q t H' (by rw [← e]; exact c) s⟩
theorem g_choN {a : Addr} {ws : List Int} {knob : Str} {bst : Bool} {seed place : Int} {H : Hp} {Q : VK} {E : XK} (hS : SqL K H a (ws.map V.int) ∨ SqT K H a (ws.map V.int)) (h : 1 ≤ ws.length ∧ ws.length ≤ 1000) (hw : ∀ x ∈ ws, 0 ≤ x)
    (e : decide (knob = ("best" : Str)) = bst) (q : ∀ (t : Int) (H' : Hp), Chosen (cnt ws (some (allOf ws.length))) ((allOf ws.length).headD 0) bst (drawN seed place) t → Same H H' → Q (.int t) H') :
    spChoose K [.ref a, .non, .str knob, .int seed, .int place] H Q E :=
  ⟨a, .non, ws, none, knob, seed, place, rfl, hS, h.1, h.2, hw, rfl, (fun S' e => by cases e), fun t H' c s => q t H' (by rw [cnt_all, all_head h.1, ← e]; exact c) s⟩
theorem less_eq (ws S : List Int) : (allOf ws.length).map (fun x => V.int (if x ∈ S then wAt ws x else 0)) = (cnt ws (some S)).map V.int := by
  have e : cnt ws (some S) = (allOf ws.length).map (fun x => if x ∈ S then wAt ws x else 0) := by
    apply List.ext_getElem?
    intro i
    unfold cnt allOf wAt
    rw [List.getElem?_mapIdx, List.getElem?_map, List.getElem?_map]
    rcases Nat.lt_or_ge i ws.length with h | h
    · rw [List.getElem?_eq_getElem h, List.getElem?_range h]
      simp only [Option.map_some, Int.toNat_natCast]
      rw [List.getD_eq_getElem?_getD, List.getElem?_eq_getElem h]
      rfl
    · rw [List.getElem?_eq_none_iff.mpr h, List.getElem?_eq_none_iff.mpr (by rw [List.length_range]; exact h)]
      rfl
  rw [e, List.map_map]
  rfl
def spTrial : Sp := fun vs H Q _ => ∃ (a l L : Addr) (ws : List Int), vs = [.ref a, .ref L] ∧ Bag H a l ∧ H L = some (.lst (ws.map V.int)) ∧ L ≠ a ∧ L ≠ l ∧ 1 ≤ ws.length ∧ ws.length ≤ 400 ∧ (∀ x ∈ ws, 0 ≤ x) ∧
  ∀ H', Bag H' a l → Chg a H H' → Q (.bl true) H'
theorem ok_trial {f : Addr} {fd : FuncData} (T : Top K mg) (F : FnP K "_law_trial_so" s__law_trial_so f fd) : FnOk P w K mg base CX0 5 f fd P__law_trial_so spTrial := by
  have C__law_seed : Cal P w K mg base "_law_seed" 4 P__law_seed (spBnd 0 10003) := c_seed T
  have C__law_spot : Cal P w K mg base "_law_spot" 4 P__law_spot (spBnd 0 999999998) := c_spot T
  have C__law_number : Cal P w K mg base "_law_number" 1 P__law_number spNum := c_number T
  have C_draw_number : Cal P w K mg base "draw_number" 1 P_draw_number spNum := c_drawn T
  have C__law_like : Cal P w K mg base "_law_like" 1 P__law_like spLike := c_like T
  have C__law_some : Cal P w K mg base "_law_some" 4 P__law_some spSome := c_some T
  have C__law_choice_so : Cal P w K mg base "_law_choice_so" 2 P__law_choice_so (spCho K) := c_cho T
  have KC_draw_number_0_place_seed := kc_draw_number_0_place_seed (P := P) (w := w) (base := base) T
  have KC_choose_1_place_allowed_seed_knob := kc_choose_1_place_allowed_seed_knob (P := P) (w := w) (base := base) T
  have KC_choose_1_allowed_knob_seed_place := kc_choose_1_allowed_knob_seed_place (P := P) (w := w) (base := base) T
  have KC_choose_1_allowed_seed_place := kc_choose_1_allowed_seed_place (P := P) (w := w) (base := base) T
  have KC_choose_1_knob_allowed := kc_choose_1_knob_allowed (P := P) (w := w) (base := base) T
  have KC_choose_1_knob_place := kc_choose_1_knob_place (P := P) (w := w) (base := base) T
  have KC_choose_1_knob_seed_allowed := kc_choose_1_knob_seed_allowed (P := P) (w := w) (base := base) T
  have KC_choose_0_weights_knob_seed_allowed_place := kc_choose_0_weights_knob_seed_allowed_place (P := P) (w := w) (base := base) T
  have KC_choose_1_ := kc_choose_1_ (P := P) (w := w) (base := base) T
  have KC_choose_1_allowed := kc_choose_1_allowed (P := P) (w := w) (base := base) T
  have KC_choose_1_knob_seed_place := kc_choose_1_knob_seed_place (P := P) (w := w) (base := base) T
  refine F.ok sc__law_trial_so (fun vs H Q E h => ?_) (fun cdv A outer s H vs Q E hr h => ?_)
  · obtain ⟨a, l, L, ws, rfl, _⟩ := h
    rfl
  · obtain ⟨a, l, L, ws, rfl, hB, fL, nLa, nLl, len1, len2, hw, q⟩ := h
    refine ⟨_, PSs.nox (pss_cons (ps_par3 (i := 2) (j := 3) (l := 4) (by rfl) sc__law_trial_so.nd rfl rfl rfl (by decide) (by decide) (by decide) rfl rfl rfl (pa_cons (pe_callB (k_len (K := K) (by rfl)) (by rfl) T.z_len (by decide +kernel) (pa_cons (pv 1) pa_nil)) (pa_cons (pe_cal C__law_seed (hr.mono (by first | decide | omega)) (by rfl) (pa_cons (pv 0) pa_nil)) (pa_cons (pe_cal C__law_spot (hr.mono (by first | decide | omega)) (by rfl) (pa_cons (pv 0) pa_nil)) pa_nil))) (by rfl))
    (pss_cons (ps_set (i := 5) sc__law_trial_so.nd rfl (by first | exact Or.inl rfl | exact Or.inr rfl) (pe_cal C__law_number (hr.mono (by first | decide | omega)) (by rfl) (pa_cons (pv 3) (pa_cons (pv 4) pa_nil))))
    (pss_cons (ps_if (PW.pt (pw_or (pt_not (pt_val (pe_cal C__law_like (hr.mono (by first | decide | omega)) (by rfl) (pa_cons (pe_cal C_draw_number (hr.mono (by first | decide | omega)) (by rfl) (pa_cons (pv 3) (pa_cons (pv 4) pa_nil))) (pa_cons (pv 5) pa_nil))))) (pw_or1 (pt_not (pt_val (pe_cal C__law_like (hr.mono (by first | decide | omega)) (by rfl) (pa_cons (pe_kcal0 KC_draw_number_0_place_seed (hr.mono (by first | decide | omega)) (by rfl) (pk_cons (pv 4) (pk_cons (pv 3) pk_nil)) ) (pa_cons (pv 5) pa_nil))))))))
    (pss_one (ps_ret pe_bl))
    pss_nil)
    (pss_cons (ps_set (i := 6) sc__law_trial_so.nd rfl (by first | exact Or.inl rfl | exact Or.inr rfl) (pe_listRg (by rfl) (by rfl) T.z_list (prg_1 (by rfl) T.z_range (pv 2))))
    (pss_cons (ps_set (i := 7) sc__law_trial_so.nd rfl (by first | exact Or.inl rfl | exact Or.inr rfl) (pe_cal C__law_some (hr.mono (by first | decide | omega)) (by rfl) (pa_cons (pv 0) (pa_cons (pv 2) pa_nil))))
    (pss_cons (ps_par (i := 8) (j := 9) (by rfl) sc__law_trial_so.nd rfl rfl (by decide) rfl rfl (pa_cons (pe_callTy (k_list (K := K) (by rfl)) (by rfl) T.z_list (by decide +kernel) (pa_cons (pv 1) pa_nil)) (pa_cons (pe_callTy (k_list (K := K) (by rfl)) (by rfl) T.z_list (by decide +kernel) (pa_cons (pv 7) pa_nil)) pa_nil)) (by rfl))
    (pss_cons (ps_set (i := 10) sc__law_trial_so.nd rfl (by first | exact Or.inl rfl | exact Or.inr rfl) (pe_kcal KC_choose_1_place_allowed_seed_knob (hr.mono (by first | decide | omega)) (by rfl) (pa_cons (pv 8) pa_nil) (pk_cons (pv 4) (pk_cons (pv 9) (pk_cons (pv 3) (pk_cons pe_str pk_nil)))) ))
    (pss_cons (ps_if (PW.pt (pw_or (pt_not (pt_val (pe_cal C__law_choice_so (hr.mono (by first | decide | omega)) (by rfl) (pa_cons (pv 10) (pa_cons (pv 1) (pa_cons (pv 7) (pa_cons pe_str (pa_cons (pv 5) pa_nil)))))))) (pw_or (pt_cmpR (k_neD (K := K) (by rfl) hr.units) (pv 8) (pv 1) (nomark _)) (pw_or1 (pt_cmpR (k_neD (K := K) (by rfl) hr.units) (pv 9) (pv 7) (nomark _))))))
    (pss_one (ps_ret pe_bl))
    pss_nil)
    (pss_cons (ps_if (pt_not (pt_val (pe_cal C__law_like (hr.mono (by first | decide | omega)) (by rfl) (pa_cons (pe_kcal KC_choose_1_allowed_knob_seed_place (hr.mono (by first | decide | omega)) (by rfl) (pa_cons (pe_callTy (k_tuple (K := K) (by rfl)) (by rfl) T.z_tuple (by decide +kernel) (pa_cons (pv 1) pa_nil)) pa_nil) (pk_cons (pe_callTy (k_tuple (K := K) (by rfl)) (by rfl) T.z_tuple (by decide +kernel) (pa_cons (pv 7) pa_nil)) (pk_cons pe_str (pk_cons (pv 3) (pk_cons (pv 4) pk_nil)))) ) (pa_cons (pv 10) pa_nil)))))
    (pss_one (ps_ret pe_bl))
    pss_nil)
    (pss_cons (ps_set (i := 10) sc__law_trial_so.nd rfl (by first | exact Or.inl rfl | exact Or.inr rfl) (pe_kcal KC_choose_1_allowed_seed_place (hr.mono (by first | decide | omega)) (by rfl) (pa_cons (pv 8) pa_nil) (pk_cons (pv 9) (pk_cons (pv 3) (pk_cons (pv 4) pk_nil))) ))
    (pss_cons (ps_if (PW.pt (pw_or (pt_not (pt_val (pe_cal C__law_choice_so (hr.mono (by first | decide | omega)) (by rfl) (pa_cons (pv 10) (pa_cons (pv 1) (pa_cons (pv 7) (pa_cons pe_str (pa_cons (pv 5) pa_nil)))))))) (pw_or1 (pt_not (pt_val (pe_cal C__law_like (hr.mono (by first | decide | omega)) (by rfl) (pa_cons (pe_kcal KC_choose_1_knob_allowed (hr.mono (by first | decide | omega)) (by rfl) (pa_cons (pv 1) pa_nil) (pk_cons pe_str (pk_cons (pv 7) pk_nil)) ) (pa_cons (pv 10) pa_nil))))))))
    (pss_one (ps_ret pe_bl))
    pss_nil)
    (pss_cons (ps_set (i := 10) sc__law_trial_so.nd rfl (by first | exact Or.inl rfl | exact Or.inr rfl) (pe_kcal KC_choose_1_knob_place (hr.mono (by first | decide | omega)) (by rfl) (pa_cons (pv 8) pa_nil) (pk_cons pe_str (pk_cons (pv 4) pk_nil)) ))
    (pss_cons (ps_if (pt_not (pt_val (pe_cal C__law_choice_so (hr.mono (by first | decide | omega)) (by rfl) (pa_cons (pv 10) (pa_cons (pv 1) (pa_cons (pv 6) (pa_cons pe_str (pa_cons (pe_cal C__law_number (hr.mono (by first | decide | omega)) (by rfl) (pa_cons pe_int (pa_cons (pv 4) pa_nil))) pa_nil))))))))
    (pss_one (ps_ret pe_bl))
    pss_nil)
    (pss_cons (ps_set (i := 10) sc__law_trial_so.nd rfl (by first | exact Or.inl rfl | exact Or.inr rfl) (pe_kcal KC_choose_1_knob_seed_allowed (hr.mono (by first | decide | omega)) (by rfl) (pa_cons (pv 8) pa_nil) (pk_cons pe_str (pk_cons (pv 3) (pk_cons pe_non pk_nil))) ))
    (pss_cons (ps_if (pt_not (pt_val (pe_cal C__law_choice_so (hr.mono (by first | decide | omega)) (by rfl) (pa_cons (pv 10) (pa_cons (pv 1) (pa_cons (pv 6) (pa_cons pe_str (pa_cons (pe_cal C__law_number (hr.mono (by first | decide | omega)) (by rfl) (pa_cons (pv 3) (pa_cons pe_int pa_nil))) pa_nil))))))))
    (pss_one (ps_ret pe_bl))
    pss_nil)
    (pss_cons (ps_if (pt_not (pt_val (pe_cal C__law_like (hr.mono (by first | decide | omega)) (by rfl) (pa_cons (pe_kcal0 KC_choose_0_weights_knob_seed_allowed_place (hr.mono (by first | decide | omega)) (by rfl) (pk_cons (pv 8) (pk_cons pe_str (pk_cons (pv 3) (pk_cons (pv 6) (pk_cons pe_int pk_nil))))) ) (pa_cons (pv 10) pa_nil)))))
    (pss_one (ps_ret pe_bl))
    pss_nil)
    (pss_cons (ps_set (i := 10) sc__law_trial_so.nd rfl (by first | exact Or.inl rfl | exact Or.inr rfl) (pe_kcal KC_choose_1_ (hr.mono (by first | decide | omega)) (by rfl) (pa_cons (pv 8) pa_nil) pk_nil ))
    (pss_cons (ps_if (PW.pt (pw_or (pt_not (pt_val (pe_cal C__law_choice_so (hr.mono (by first | decide | omega)) (by rfl) (pa_cons (pv 10) (pa_cons (pv 1) (pa_cons (pv 6) (pa_cons pe_str (pa_cons pe_int pa_nil)))))))) (pw_or1 (pt_not (pt_val (pe_cal C__law_like (hr.mono (by first | decide | omega)) (by rfl) (pa_cons (pe_kcal KC_choose_1_allowed (hr.mono (by first | decide | omega)) (by rfl) (pa_cons (pe_callTy (k_list (K := K) (by rfl)) (by rfl) T.z_list (by decide +kernel) (pa_cons (pv 1) pa_nil)) pa_nil) (pk_cons (pe_callTy (k_list (K := K) (by rfl)) (by rfl) T.z_list (by decide +kernel) (pa_cons (pv 6) pa_nil)) pk_nil) ) (pa_cons (pv 10) pa_nil))))))))
    (pss_one (ps_ret pe_bl))
    pss_nil)
    (pss_cons (ps_setLc (i := 11) (own := [("a", 12)]) (g := gName 12) (by rfl) sc__law_trial_so.nd rfl rfl (sw_true rfl rfl rfl (by decide +kernel)) (k_pil (K := K) (by rfl) (pv 6)) (blkOk_by (own := [("a", 12)]) (N := N__law_trial_so) (sc := defScope s__law_trial_so) (by decide +kernel)) (fun _ _ _ _ _ => pg_name (i := 12) sc__law_trial_so.nd rfl (by first | exact Or.inl rfl | exact Or.inr rfl)) (fun _ _ _ _ _ => pts_nil) (fun _ _ _ _ _ => (pe_ifExp (pt_cmpR (k_in (K := K) (by rfl)) (pv 12) (pv 7) (by first | rfl | exact nomark _)) (pe_ix (k_ix (K := K) (by rfl)) (pv 1) (pv 12) (fun _ _ => rfl)) pe_int)))
    (pss_cons (ps_if (pt_val (pe_callB (k_any (K := K) (by rfl) (by rfl)) (by rfl) T.z_any (by decide +kernel) (pa_cons (pe_lc (own := [("a", 12)]) (g := gName 12) (by rfl) sc__law_trial_so.nd (k_pil (K := K) (by rfl) (pv 7)) (blkOk_by (own := [("a", 12)]) (N := N__law_trial_so) (sc := defScope s__law_trial_so) (by decide +kernel)) (fun _ _ _ _ _ => pg_name (i := 12) sc__law_trial_so.nd rfl (by first | exact Or.inl rfl | exact Or.inr rfl)) (fun _ _ _ _ _ => pts_nil) (fun _ _ _ _ _ => (pe_cmpR op_gt (pe_ix (k_ix (K := K) (by rfl)) (pv 1) (pv 12) (fun _ _ => rfl)) pe_int (nomark _)))) pa_nil)))
    (pss_one (ps_if (pt_not (pt_val (pe_cal C__law_like (hr.mono (by first | decide | omega)) (by rfl) (pa_cons (pe_kcal KC_choose_1_knob_seed_place (hr.mono (by first | decide | omega)) (by rfl) (pa_cons (pv 11) pa_nil) (pk_cons pe_str (pk_cons (pv 3) (pk_cons (pv 4) pk_nil))) ) (pa_cons (pe_kcal KC_choose_1_allowed_knob_seed_place (hr.mono (by first | decide | omega)) (by rfl) (pa_cons (pv 1) pa_nil) (pk_cons (pv 7) (pk_cons pe_str (pk_cons (pv 3) (pk_cons (pv 4) pk_nil)))) ) pa_nil)))))
    (pss_one (ps_ret pe_bl))
    pss_nil))
    pss_nil)
    (pss_one (ps_ret (pe_and (pe_cmpR (k_eqD (K := K) (by rfl) hr.units) (pv 8) (pv 1) (nomark _)) (pe_one (pe_cmpR (k_eqD (K := K) (by rfl) hr.units) (pv 9) (pv 7) (nomark _)))))))))))))))))))))))))), ?_⟩
    clear KC_draw_number_0_place_seed KC_choose_1_place_allowed_seed_knob KC_choose_1_allowed_knob_seed_place KC_choose_1_allowed_seed_place KC_choose_1_knob_allowed KC_choose_1_knob_place KC_choose_1_knob_seed_allowed KC_choose_0_weights_knob_seed_allowed_place KC_choose_1_ KC_choose_1_allowed KC_choose_1_knob_seed_place C__law_seed C__law_spot C__law_number C_draw_number C__law_like C__law_some C__law_choice_so
    rw [show L2.start N__law_trial_so [V.ref a, .ref L] = [some (.ref a), some (.ref L), none, none, none, none, none, none, none, none, none, none, none] from rfl]
    walk_at "go"
    refine g_bnd hB fun sd H1 sd1 sd2 B1 c1 => ?_
    walk_at "go"
    refine g_bnd B1 fun pl H2 pl1 pl2 B2 c2 => ?_
    walk_at "go"
    refine g_num ?_
    walk_at "go"
    refine g_num ?_
    walk_at "go"
    refine g_like rfl fun H3 s3 => ?_
    walk_at "go"
    refine g_num ?_
    walk_at "go"
    refine g_like rfl fun H4 s4 => ?_
    have B4 : Bag H4 a l := bag_sm (bag_sm B2 s3) s4
    have c4 : Chg a H H4 := (((c1.trans c2).trans (sm_chg s3)).trans (sm_chg s4))
    have fL4 : H4 L = some (.lst (ws.map V.int)) := by walk_at "h"
    clear c1 c2 s3 s4 B1 B2 hB fL
    have eR : rgV 0 (ws.map V.int).length = (allOf ws.length).map V.int := by
      unfold rgV allOf
      rw [List.length_map, List.map_map, Int.sub_zero, Int.toNat_natCast]
      congr 1
      funext i
      show V.int (0 + (i : Int)) = V.int (i : Int)
      rw [Int.zero_add]
    have bigL : ((ws.map V.int).length : Int) ≤ 400 := by rw [List.length_map]; omega
    walk_at "go"
    rename_i pE hpE
    rw [eR]
    obtain ⟨nEa, nEl⟩ := bag_apart B4 hpE
    refine ⟨a, l, _, rfl, bag_new B4 hpE, by rw [List.length_map]; omega, bigL, fun sp S H5 fS5 nSa nSl hne hSb hSp hSl B5 c5 => ?_⟩
    have pk : Picks ws S := ⟨fun x hx => by have z := hSb x hx; rw [List.length_map] at z; exact z, hSl⟩
    have nd := nodup_of hSp
    have pkE : Picks ws (allOf ws.length) := ⟨fun x hx => all_mem.mp hx, by rw [all_len]; omega⟩
    have ndE := nodup_of (all_pair ws.length)
    have neE : allOf ws.length ≠ [] := fun z => by
      have z2 := all_len ws.length
      rw [z] at z2
      simp at z2
      omega
    have hcS := cnt_nn hw (some S)
    have hcE := cnt_nn hw (some (allOf ws.length))
    have len3 : 1 ≤ ws.length ∧ ws.length ≤ 1000 := ⟨len1, by omega⟩
    have fL5 : H5 L = some (.lst (ws.map V.int)) := by walk_at "h"
    have fE5 : H5 pE = some (.lst ((allOf ws.length).map V.int)) := by walk_at "h"
    have c5' : Chg a H H5 := (c4.lay hpE).trans c5
    clear c4 c5 fL4 B4 hpE
    have kd : decide (("draw" : Str) = ("best" : Str)) = false := by decide
    have kb : decide (("best" : Str) = ("best" : Str)) = true := by decide
    walk_at "go"
    rename_i pP hpP pH hpH
    have fP6 : (upd (upd H5 pP (.lst (ws.map V.int))) pH (.lst (S.map V.int))) pP = some (.lst (ws.map V.int)) := by walk_at "h"
    have fH6 : (upd (upd H5 pP (.lst (ws.map V.int))) pH (.lst (S.map V.int))) pH = some (.lst (S.map V.int)) := by walk_at "h"
    have fL6 : (upd (upd H5 pP (.lst (ws.map V.int))) pH (.lst (S.map V.int))) L = some (.lst (ws.map V.int)) := by walk_at "h"
    have fE6 : (upd (upd H5 pP (.lst (ws.map V.int))) pH (.lst (S.map V.int))) pE = some (.lst ((allOf ws.length).map V.int)) := by walk_at "h"
    have fS6 : (upd (upd H5 pP (.lst (ws.map V.int))) pH (.lst (S.map V.int))) sp = some (.lst (S.map V.int)) := by walk_at "h"
    have B6 : Bag (upd (upd H5 pP (.lst (ws.map V.int))) pH (.lst (S.map V.int))) a l := bag_new (bag_new B5 hpP) hpH
    have c6 : Chg a H (upd (upd H5 pP (.lst (ws.map V.int))) pH (.lst (S.map V.int))) := (c5'.lay hpP).lay hpH
    generalize upd (upd H5 pP (.lst (ws.map V.int))) pH (.lst (S.map V.int)) = H6 at fP6 fH6 fL6 fE6 fS6 B6 c6 ⊢
    clear fL5 fE5 fS5 c5' B5 hpP hpH
    -- the first choice
    refine g_choS (bst := false) (Or.inl (by walk_at "l")) len3 hw (Or.inl (by walk_at "l")) hne kd fun t1 H7 ch1 s7 => ?_
    walk_at "go"
    refine g_cho (bst := false) (by walk_at "l") (by walk_at "l") pk (due_of hw nd hne pk ch1) kd fun H8 s8 => ?_
    walk_at "go"
    refine g_iteNX rfl ?_
    walk_at "go"
    refine g_iteNX rfl ?_
    have fL8 : H8 L = some (.lst (ws.map V.int)) := by walk_at "h"
    have fE8 : H8 pE = some (.lst ((allOf ws.length).map V.int)) := by walk_at "h"
    have fS8 : H8 sp = some (.lst (S.map V.int)) := by walk_at "h"
    have fP8 : H8 pP = some (.lst (ws.map V.int)) := by walk_at "h"
    have fH8 : H8 pH = some (.lst (S.map V.int)) := by walk_at "h"
    have B8 : Bag H8 a l := by walk_at "bag"
    have c8 : Chg a H H8 := by walk_at "chg"
    clear fL6 fE6 fS6 fP6 fH6 B6 c6 s7 s8
    walk_at "go"
    refine g_choS (bst := false) (Or.inr (by walk_at "t")) len3 hw (Or.inr (by walk_at "t")) hne kd fun t2 H9 ch2 s9 => ?_
    walk_at "go"
    refine g_like (chosen_one hcS ch2 ch1) fun H10 s10 => ?_
    have fL10 : H10 L = some (.lst (ws.map V.int)) := by walk_at "h"
    have fE10 : H10 pE = some (.lst ((allOf ws.length).map V.int)) := by walk_at "h"
    have fS10 : H10 sp = some (.lst (S.map V.int)) := by walk_at "h"
    have fP10 : H10 pP = some (.lst (ws.map V.int)) := by walk_at "h"
    have fH10 : H10 pH = some (.lst (S.map V.int)) := by walk_at "h"
    have B10 : Bag H10 a l := by walk_at "bag"
    have c10 : Chg a H H10 := by walk_at "chg"
    clear fL8 fE8 fS8 fP8 fH8 B8 c8 s9 s10 ch2
    walk_at "go"
    refine g_choS (bst := true) (Or.inl (by walk_at "l")) len3 hw (Or.inl (by walk_at "l")) hne kb fun t3 H11 ch3 s11 => ?_
    walk_at "go"
    refine g_cho (bst := true) (by walk_at "l") (by walk_at "l") pk (due_of hw nd hne pk ch3) kb fun H12 s12 => ?_
    walk_at "go"
    refine g_choS (bst := true) (Or.inl (by walk_at "l")) len3 hw (Or.inl (by walk_at "l")) hne kb fun t4 H13 ch4 s13 => ?_
    walk_at "go"
    refine g_like (chosen_one hcS (chosen_best ch4) ch3) fun H14 s14 => ?_
    have fL14 : H14 L = some (.lst (ws.map V.int)) := by walk_at "h"
    have fE14 : H14 pE = some (.lst ((allOf ws.length).map V.int)) := by walk_at "h"
    have fS14 : H14 sp = some (.lst (S.map V.int)) := by walk_at "h"
    have fP14 : H14 pP = some (.lst (ws.map V.int)) := by walk_at "h"
    have fH14 : H14 pH = some (.lst (S.map V.int)) := by walk_at "h"
    have B14 : Bag H14 a l := by walk_at "bag"
    have c14 : Chg a H H14 := by walk_at "chg"
    clear fL10 fE10 fS10 fP10 fH10 B10 c10 s11 s12 s13 s14 ch3 ch4 ch1
    walk_at "go"
    refine g_choN (bst := false) (Or.inl (by walk_at "l")) len3 hw kd fun t5 H15 ch5 s15 => ?_
    walk_at "go"
    refine g_num ?_
    walk_at "go"
    refine g_cho (bst := false) (by walk_at "l") (by walk_at "l") pkE (due_of hw ndE neE pkE ch5) kd fun H16 s16 => ?_
    walk_at "go"
    refine g_choN (bst := false) (Or.inl (by walk_at "l")) len3 hw kd fun t6 H17 ch6 s17 => ?_
    walk_at "go"
    refine g_num ?_
    walk_at "go"
    refine g_cho (bst := false) (by walk_at "l") (by walk_at "l") pkE (due_of hw ndE neE pkE ch6) kd fun H18 s18 => ?_
    have fL18 : H18 L = some (.lst (ws.map V.int)) := by walk_at "h"
    have fE18 : H18 pE = some (.lst ((allOf ws.length).map V.int)) := by walk_at "h"
    have fS18 : H18 sp = some (.lst (S.map V.int)) := by walk_at "h"
    have fP18 : H18 pP = some (.lst (ws.map V.int)) := by walk_at "h"
    have fH18 : H18 pH = some (.lst (S.map V.int)) := by walk_at "h"
    have B18 : Bag H18 a l := by walk_at "bag"
    have c18 : Chg a H H18 := by walk_at "chg"
    clear fL14 fE14 fS14 fP14 fH14 B14 c14 s15 s16 s17 s18 ch5
    walk_at "go"
    refine g_choS (bst := false) (Or.inl (by walk_at "l")) len3 hw (Or.inl (by walk_at "l")) neE kd fun t7 H19 ch7 s19 => ?_
    walk_at "go"
    refine g_like (chosen_one hcE ch7 ch6) fun H20 s20 => ?_
    walk_at "go"
    refine g_choN (bst := true) (Or.inl (by walk_at "l")) len3 hw kb fun t8 H21 ch8 s21 => ?_
    walk_at "go"
    refine g_cho (bst := true) (by walk_at "l") (by walk_at "l") pkE (due_of hw ndE neE pkE (chosen_best ch8)) kb fun H22 s22 => ?_
    have fL22 : H22 L = some (.lst (ws.map V.int)) := by walk_at "h"
    have fE22 : H22 pE = some (.lst ((allOf ws.length).map V.int)) := by walk_at "h"
    have fS22 : H22 sp = some (.lst (S.map V.int)) := by walk_at "h"
    have fP22 : H22 pP = some (.lst (ws.map V.int)) := by walk_at "h"
    have fH22 : H22 pH = some (.lst (S.map V.int)) := by walk_at "h"
    have B22 : Bag H22 a l := by walk_at "bag"
    have c22 : Chg a H H22 := by walk_at "chg"
    clear fL18 fE18 fS18 fP18 fH18 B18 c18 s19 s20 s21 s22 ch6 ch7
    walk_at "go"
    refine g_choS (bst := true) (Or.inl (by walk_at "l")) len3 hw (Or.inl (by walk_at "l")) neE kb fun t9 H23 ch9 s23 => ?_
    walk_at "go"
    refine g_like (chosen_one hcE ch9 ch8) fun H24 s24 => ?_
    have fL24 : H24 L = some (.lst (ws.map V.int)) := by walk_at "h"
    have fE24 : H24 pE = some (.lst ((allOf ws.length).map V.int)) := by walk_at "h"
    have fS24 : H24 sp = some (.lst (S.map V.int)) := by walk_at "h"
    have fP24 : H24 pP = some (.lst (ws.map V.int)) := by walk_at "h"
    have fH24 : H24 pH = some (.lst (S.map V.int)) := by walk_at "h"
    have B24 : Bag H24 a l := by walk_at "bag"
    have c24 : Chg a H H24 := by walk_at "chg"
    clear fL22 fE22 fS22 fP22 fH22 B22 c22 s23 s24 ch8 ch9
    walk_at "go"
    have lenE : (allOf ws.length).length ≤ 1000 := by rw [all_len]; omega
    refine lcP (f := fun x => .int (if x ∈ S then wAt ws x else 0)) (p := fun _ => true) (S := allOf ws.length) (σ0 := [some (V.ref a), some (V.ref L), some (V.int (ws.map V.int).length), some (V.int sd), some (V.int pl), some (V.int (drawN sd pl)), some (V.ref pE), some (V.ref sp), some (V.ref pP), some (V.ref pH), some (V.int t8), none, none]) rfl (by walk_at "l") lenE ?_ fun D hD => ?_
    · intro D acc x N hD hx k1 k2
      have e1 := at_w (pkE.inb x hx)
      walk_at "go"
      refine g_iteD (fun h3 => ?_) (fun h3 => ?_)
      · walk_at "go"
        have z := k1 rfl
        rw [if_pos h3] at z
        exact z
      · walk_at "go"
        have z := k1 rfl
        rw [if_neg h3] at z
        exact z
    rw [filter_tt, less_eq]
    have lenC := cnt_len ws (some S)
    have hcC := cnt_nn hw (some S)
    walk_at "go"
    have fL25 : (upd H24 D (.lst ((cnt ws (some S)).map V.int))) L = some (.lst (ws.map V.int)) := by walk_at "h"
    have fS25 : (upd H24 D (.lst ((cnt ws (some S)).map V.int))) sp = some (.lst (S.map V.int)) := by walk_at "h"
    have fP25 : (upd H24 D (.lst ((cnt ws (some S)).map V.int))) pP = some (.lst (ws.map V.int)) := by walk_at "h"
    have fH25 : (upd H24 D (.lst ((cnt ws (some S)).map V.int))) pH = some (.lst (S.map V.int)) := by walk_at "h"
    have fD25 : (upd H24 D (.lst ((cnt ws (some S)).map V.int))) D = some (.lst ((cnt ws (some S)).map V.int)) := upd_same
    have B25 : Bag (upd H24 D (.lst ((cnt ws (some S)).map V.int))) a l := bag_new B24 hD
    have c25 : Chg a H (upd H24 D (.lst ((cnt ws (some S)).map V.int))) := c24.lay hD
    generalize upd H24 D (.lst ((cnt ws (some S)).map V.int)) = H25 at fL25 fS25 fP25 fH25 fD25 B25 c25 ⊢
    clear fL24 fE24 fS24 fP24 fH24 B24 c24 hD
    have lenS := pk.len
    refine lcP (f := fun x => .bl (decide (0 < wAt ws x))) (p := fun _ => true) (S := S) (σ0 := [some (V.ref a), some (V.ref L), some (V.int (ws.map V.int).length), some (V.int sd), some (V.int pl), some (V.int (drawN sd pl)), some (V.ref pE), some (V.ref sp), some (V.ref pP), some (V.ref pH), some (V.int t8), some (V.ref D), none]) rfl (by walk_at "l") (by omega) ?_ fun D2 hD2 => ?_
    · intro D2 acc x N hD2 hx k1 k2
      have e1 := at_w (pk.inb x hx)
      walk_at "go"
      exact k1 rfl
    have e1 : (S.filter fun _ => true).map (fun x => V.bl (decide (0 < wAt ws x))) = (S.map fun x => decide (0 < wAt ws x)).map V.bl := by
      rw [filter_tt, List.map_map]; rfl
    rw [e1]
    have s26 := same_new (o := .lst ((S.map fun x => decide (0 < wAt ws x)).map V.bl)) hD2
    have f26 : (upd H25 D2 (.lst ((S.map fun x => decide (0 < wAt ws x)).map V.bl))) D2 = some (.lst ((S.map fun x => decide (0 < wAt ws x)).map V.bl)) := upd_same
    generalize upd H25 D2 (.lst ((S.map fun x => decide (0 < wAt ws x)).map V.bl)) = H26 at s26 f26 ⊢
    have fin : ∀ (σ : L2.St) (H' : Hp) (D1 : Ends), True := fun _ _ _ => trivial
    walk_at "go"
    refine g_iteBB (fun h3 => ?_) (fun h3 => ?_)
    · have nz : ¬ ∀ x ∈ cnt ws (some S), x = 0 := fun k => by
        have z := (cnt_zero pk).mp k
        rw [List.any_eq_true] at h3
        obtain ⟨b, hb, h4⟩ := h3
        rw [List.mem_map] at hb
        obtain ⟨x, hx, rfl⟩ := hb
        have z2 := z x hx
        have z3 : 0 < wAt ws x := of_decide_eq_true h4
        omega
      walk_at "go"
      refine g_choN (ws := cnt ws (some S)) (bst := false) (Or.inl (by walk_at "l")) ⟨by omega, by omega⟩ hcC kd fun t10 H27 ch10 s27 => ?_
      rw [cnt_all, all_head (by omega)] at ch10
      walk_at "go"
      refine g_choS (bst := false) (Or.inl (by walk_at "l")) len3 hw (Or.inl (by walk_at "l")) hne kd fun t11 H28 ch11 s28 => ?_
      walk_at "go"
      refine g_like (chosen_one hcS ch10 (chosen_z nz ch11)) fun H29 s29 => ?_
      have B29 : Bag H29 a l := by walk_at "bag"
      have c29 : Chg a H H29 := by walk_at "chg"
      walk_at "go"
      refine g_iteY rfl ?_
      walk_at "go"
      rw [decide_eq_true rfl]
      exact q _ B29 c29
    · have B29 : Bag H26 a l := by walk_at "bag"
      have c29 : Chg a H H26 := by walk_at "chg"
      walk_at "go"
      refine g_iteY rfl ?_
      walk_at "go"
      rw [decide_eq_true rfl]
      exact q _ B29 c29
theorem c_trial (T : Top K mg) : Cal P w K mg base "_law_trial_so" 5 P__law_trial_so spTrial := cal_mk T.f__law_trial_so (ok_trial T) (fun F => F.bindsN fun _ _ _ _ _ _ us hl => match us, hl with | [_, _], _ => rfl)
/-! law -/
def spLaw (K : PySem.W.Frag) : Sp := fun vs H Q _ => ∃ (a : Addr) (ns : List Int), vs = [.ref a] ∧ SqL K H a (ns.map V.int) ∧ ns.length ≤ 63 ∧ ∀ H', Q (.bl true) H'
theorem ok_law {f : Addr} {fd : FuncData} (T : Top K mg) (F : FnP K "law" s_law f fd) : FnOk P w K mg base CX0 6 f fd P_law (spLaw K) := by
  have C__law_bag : Cal P w K mg base "_law_bag" 1 P__law_bag (spBag K) := c_bag T
  have C__law_loads : Cal P w K mg base "_law_loads" 4 P__law_loads spLoads := c_loads T
  have C__law_trial_so : Cal P w K mg base "_law_trial_so" 5 P__law_trial_so spTrial := c_trial T
  refine F.ok sc_law (fun vs H Q E h => ?_) (fun cdv A outer s H vs Q E hr h => ?_)
  · obtain ⟨a, ns, rfl, _⟩ := h
    rfl
  · obtain ⟨s0, ns, rfl, hS, hlen, q⟩ := h
    refine ⟨_, PSs.nox (pss_cons (ps_set (i := 1) sc_law.nd rfl (by first | exact Or.inl rfl | exact Or.inr rfl) (pe_cal C__law_bag (hr.mono (by first | decide | omega)) (by rfl) (pa_cons (pv 0) pa_nil)))
    (pss_cons (ps_for PassesOwn.never rfl (pi_range1 (by rfl) T.z_range (pa_cons pe_int pa_nil)) (pg_name (i := 2) sc_law.nd rfl (by first | exact Or.inl rfl | exact Or.inr rfl))
    (pss_cons (ps_set (i := 3) sc_law.nd rfl (by first | exact Or.inl rfl | exact Or.inr rfl) (pe_cal C__law_loads (hr.mono (by first | decide | omega)) (by rfl) (pa_cons (pv 1) pa_nil)))
    (pss_cons (ps_if (pt_not (pt_val (pe_cal C__law_trial_so (hr.mono (by first | decide | omega)) (by rfl) (pa_cons (pv 1) (pa_cons (pv 3) pa_nil)))))
    (pss_one (ps_ret pe_bl))
    pss_nil)
    (pss_one (ps_if (PW.pt (pw_and (pt_cmpR op_lt (pe_callB (k_len (K := K) (by rfl)) (by rfl) T.z_len (by decide +kernel) (pa_cons (pv 3) pa_nil)) pe_int (nomark _)) (pw_and1 (pt_not (pt_val (pe_cal C__law_trial_so (hr.mono (by first | decide | omega)) (by rfl) (pa_cons (pv 1) (pa_cons (pe_op op_cat (pe_slice (k_sl (K := K) (by rfl)) (pv 3) (po_some pe_int) po_none) (pe_lst (pa_cons (pe_ix (k_ix (K := K) (by rfl)) (pv 3) pe_int (fun _ _ => rfl)) (pa_cons pe_int pa_nil)))) pa_nil))))))))
    (pss_one (ps_ret pe_bl))
    pss_nil)))))
    (pss_one (ps_ret pe_bl)))), ?_⟩
    rw [show L2.start N_law [V.ref s0] = [some (.ref s0), none, none, none] from rfl]
    walk_at "go"
    refine ⟨s0, ns, rfl, hS, fun a l H1 B1 hp s1 => ?_⟩
    walk_at "go"
    refine forR ⟨fun i σ' H' => ∃ x y, σ' = [some (.ref s0), some (.ref a), x, y] ∧ Bag H' a l, ⟨_, _, rfl, B1⟩, ?_, ?_⟩
    · rintro i σ' H' hi ⟨x, y, rfl, B2⟩
      walk_at "go"
      refine ⟨a, l, rfl, B2, fun L ws H3 fL nLa nLl l1 l2 hw B3 c3 => ?_⟩
      walk_at "go"
      refine ⟨a, l, L, ws, rfl, B3, fL, nLa, nLl, l1, by omega, hw, fun H4 B4 c4 => ?_⟩
      have fL4 := c4 _ _ nLa fL
      walk_at "go"
      refine g_iteD (fun h3 => ?_) (fun h3 => ?_)
      · have e0 : cutV (ws.map V.int) (some 1) none = (ws.drop 1).map V.int := by
          unfold cutV
          rw [show HT.sIx (ws.map V.int).length 0 (some 1) = min 1 (ws.map V.int).length from HT.sIx_nat _ 0 1, HT.sIx_none, List.length_map]
          rw [Nat.min_eq_left l1, ← List.map_drop, List.take_of_length_le (by rw [List.length_map, List.length_drop]; omega)]
        have e1 : atI (ws.map V.int) 0 = some (.int (wAt ws 0)) := at_w ⟨by omega, by omega⟩
        walk_at "go"
        rename_i p1 hp1 p2 hp2
        rw [e0] at *
        have e2 : (upd (upd H4 p1 (.lst ((ws.drop 1).map V.int))) p2 (.lst [V.int (wAt ws 0), V.int 0])) p1 = some (.lst ((ws.drop 1).map V.int)) := by walk_at "h"
        have B5 := bag_new (o := .lst [V.int (wAt ws 0), V.int 0]) (bag_new (o := .lst ((ws.drop 1).map V.int)) B4 hp1) hp2
        generalize hG : upd (upd H4 p1 (.lst ((ws.drop 1).map V.int))) p2 (.lst [V.int (wAt ws 0), V.int 0]) = H5 at e2 B5 ⊢
        have e3 : H5 p2 = some (.lst [V.int (wAt ws 0), V.int 0]) := by rw [← hG]; exact upd_same
        refine g_cat e2 e3 (by simp only [List.length_map, List.length_drop, List.length_cons, List.length_nil]; omega) fun p hp => ?_
        obtain ⟨na, nl⟩ := bag_apart B5 hp
        walk_at "go"
        refine ⟨a, l, p, ws.drop 1 ++ [wAt ws 0, 0], rfl, bag_new B5 hp, ?_, na, nl, by simp, by simp; omega, ?_, fun H6 B6 c6 => ?_⟩
        · rw [upd_same, List.map_append]
          rfl
        · intro x hx
          rcases List.mem_append.mp hx with h | h
          · exact hw x (List.mem_of_mem_drop h)
          · simp only [List.mem_cons, List.mem_nil_iff, or_false] at h
            rcases h with rfl | rfl
            · unfold wAt
              rw [List.getD_eq_getElem?_getD]
              cases hws : ws with
              | nil => simp
              | cons x r =>
                rw [hws] at hw
                exact hw x (List.mem_cons_self ..)
            · exact Int.le_refl 0
        · walk_at "go"
          exact ⟨_, _, rfl, B6⟩
      · walk_at "go"
        exact ⟨_, _, rfl, B4⟩
    · rintro σ' H' ⟨x, y, rfl, B2⟩
      walk_at "go"
      exact q _
end

set_option Elab.async false
set_option linter.all false
set_option maxRecDepth 100000
set_option maxHeartbeats 4000000
open PySem PySem.Spec L2

def d_draw_number : He.DefD := ⟨("draw_number", none), "draw_number", "draw_number", defArgs s_draw_number, defBody s_draw_number, defScope s_draw_number, [], []⟩
def d_choose : He.DefD := ⟨("choose", none), "choose", "choose", defArgs s_choose, defBody s_choose, defScope s_choose, [], [("allowed", .non), ("knob", .str "best"), ("seed", .int 0), ("place", .int 0)]⟩
def d__counted : He.DefD := ⟨("_counted", none), "_counted", "_counted", defArgs s__counted, defBody s__counted, defScope s__counted, [], []⟩
def d__token_above : He.DefD := ⟨("_token_above", none), "_token_above", "_token_above", defArgs s__token_above, defBody s__token_above, defScope s__token_above, [], []⟩
def d__law_bag : He.DefD := ⟨("_law_bag", none), "_law_bag", "_law_bag", defArgs s__law_bag, defBody s__law_bag, defScope s__law_bag, [], []⟩
def d__law_draw : He.DefD := ⟨("_law_draw", none), "_law_draw", "_law_draw", defArgs s__law_draw, defBody s__law_draw, defScope s__law_draw, [], []⟩
def d__law_of : He.DefD := ⟨("_law_of", none), "_law_of", "_law_of", defArgs s__law_of, defBody s__law_of, defScope s__law_of, [], []⟩
def d__law_like : He.DefD := ⟨("_law_like", none), "_law_like", "_law_like", defArgs s__law_like, defBody s__law_like, defScope s__law_like, [], []⟩
def d__law_number : He.DefD := ⟨("_law_number", none), "_law_number", "_law_number", defArgs s__law_number, defBody s__law_number, defScope s__law_number, [], []⟩
def d__law_loads : He.DefD := ⟨("_law_loads", none), "_law_loads", "_law_loads", defArgs s__law_loads, defBody s__law_loads, defScope s__law_loads, [], []⟩
def d__law_some : He.DefD := ⟨("_law_some", none), "_law_some", "_law_some", defArgs s__law_some, defBody s__law_some, defScope s__law_some, [], []⟩
def d__law_best_so : He.DefD := ⟨("_law_best_so", none), "_law_best_so", "_law_best_so", defArgs s__law_best_so, defBody s__law_best_so, defScope s__law_best_so, [], []⟩
def d__law_drawn_so : He.DefD := ⟨("_law_drawn_so", none), "_law_drawn_so", "_law_drawn_so", defArgs s__law_drawn_so, defBody s__law_drawn_so, defScope s__law_drawn_so, [], []⟩
def d__law_choice_so : He.DefD := ⟨("_law_choice_so", none), "_law_choice_so", "_law_choice_so", defArgs s__law_choice_so, defBody s__law_choice_so, defScope s__law_choice_so, [], []⟩
def d__law_seed : He.DefD := ⟨("_law_seed", none), "_law_seed", "_law_seed", defArgs s__law_seed, defBody s__law_seed, defScope s__law_seed, [], []⟩
def d__law_spot : He.DefD := ⟨("_law_spot", none), "_law_spot", "_law_spot", defArgs s__law_spot, defBody s__law_spot, defScope s__law_spot, [], []⟩
def d__law_trial_so : He.DefD := ⟨("_law_trial_so", none), "_law_trial_so", "_law_trial_so", defArgs s__law_trial_so, defBody s__law_trial_so, defScope s__law_trial_so, [], []⟩
def d_law : He.DefD := ⟨("law", none), "law", "law", defArgs s_law, defBody s_law, defScope s_law, [], []⟩
def fnL : List He.DefD := [d_draw_number, d_choose, d__counted, d__token_above, d__law_bag, d__law_draw, d__law_of, d__law_like, d__law_number, d__law_loads, d__law_some, d__law_best_so, d__law_drawn_so, d__law_choice_so, d__law_seed, d__law_spot, d__law_trial_so, d_law]
def faL : List He.Fa := [.glo "draw_number", .glo "choose", .glo "_counted", .glo "_token_above", .glo "_law_bag", .glo "_law_draw", .glo "_law_of", .glo "_law_like", .glo "_law_number", .glo "_law_loads", .glo "_law_some", .glo "_law_best_so", .glo "_law_drawn_so", .glo "_law_choice_so", .glo "_law_seed", .glo "_law_spot", .glo "_law_trial_so", .glo "law", .free "max", .free "sum", .free "list", .free "enumerate", .free "int", .free "len", .free "isinstance", .free "tuple", .free "all", .free "bool", .free "str", .free "zip", .free "range", .free "any"]
abbrev rowR : PySem.W.OpenRow := PySem.W.OpenLaw.row PySem.Challenge.rw_answersalone_k08_whole_choosing
abbrev hkR : PySem.W.Hook := He.hookD 4 faL fnL
def obR (s : PySem.W.SharedT) : He.AlD := He.obsDG 4 faL fnL (HandSHeadRun.getT s)
theorem obR_eq (s : PySem.W.SharedT) : obR s = hkR.obs s.abs := He.obsDG_eq (HandSHeadRun.getT_eq s)
abbrev looseR : List PySem.Str := ["draw_number", "choose", "_counted", "_token_above", "_law_bag", "_law_draw", "_law_of", "_law_like", "_law_number", "_law_loads", "_law_some", "_law_best_so", "_law_drawn_so", "_law_choice_so", "_law_seed", "_law_spot", "_law_trial_so"]
theorem runR (w : World) : HandSHeadRun.RunEq rowR (PySem.W.view rowR.prog [19]) hkR obR 4000 looseR w := by
  intro os
  kernel_rfl
theorem factsR {P : Program} {w : World} {K : PySem.W.Frag} {h : Heap} {mg : Str → Option Value} {f : Addr} (X : K.In h) (G : h.Ns mainGlobals mg) (hfa : mg ("law" : Str) = some (.ref f)) (c : He.SaysD faL fnL K) :
    ∃ fd : FuncData, (∀ (s : Shared) (v : Value), BindsTo s fd ⟨[v], []⟩ [("script", v)]) ∧ ∀ base : Heap, K.In base → base.Ns mainGlobals mg → FnOk P w K mg base CX0 6 f fd ["script"] (spLaw K) := by
  obtain ⟨fd_draw_number, F_draw_number⟩ := c.def_ 0 (d := d_draw_number) rfl
  obtain ⟨fd_choose, F_choose⟩ := c.def_ 1 (d := d_choose) rfl
  obtain ⟨fd__counted, F__counted⟩ := c.def_ 2 (d := d__counted) rfl
  obtain ⟨fd__token_above, F__token_above⟩ := c.def_ 3 (d := d__token_above) rfl
  obtain ⟨fd__law_bag, F__law_bag⟩ := c.def_ 4 (d := d__law_bag) rfl
  obtain ⟨fd__law_draw, F__law_draw⟩ := c.def_ 5 (d := d__law_draw) rfl
  obtain ⟨fd__law_of, F__law_of⟩ := c.def_ 6 (d := d__law_of) rfl
  obtain ⟨fd__law_like, F__law_like⟩ := c.def_ 7 (d := d__law_like) rfl
  obtain ⟨fd__law_number, F__law_number⟩ := c.def_ 8 (d := d__law_number) rfl
  obtain ⟨fd__law_loads, F__law_loads⟩ := c.def_ 9 (d := d__law_loads) rfl
  obtain ⟨fd__law_some, F__law_some⟩ := c.def_ 10 (d := d__law_some) rfl
  obtain ⟨fd__law_best_so, F__law_best_so⟩ := c.def_ 11 (d := d__law_best_so) rfl
  obtain ⟨fd__law_drawn_so, F__law_drawn_so⟩ := c.def_ 12 (d := d__law_drawn_so) rfl
  obtain ⟨fd__law_choice_so, F__law_choice_so⟩ := c.def_ 13 (d := d__law_choice_so) rfl
  obtain ⟨fd__law_seed, F__law_seed⟩ := c.def_ 14 (d := d__law_seed) rfl
  obtain ⟨fd__law_spot, F__law_spot⟩ := c.def_ 15 (d := d__law_spot) rfl
  obtain ⟨fd__law_trial_so, F__law_trial_so⟩ := c.def_ 16 (d := d__law_trial_so) rfl
  obtain ⟨fd_law, F_law⟩ := c.def_ 17 (d := d_law) rfl
  have T : Top K mg := ⟨⟨_, _, F_draw_number, He.glo_ok X G (c.fact 0 (f := .glo "draw_number") rfl)⟩,
    ⟨_, _, F_choose, He.glo_ok X G (c.fact 1 (f := .glo "choose") rfl)⟩,
    ⟨_, _, F__counted, He.glo_ok X G (c.fact 2 (f := .glo "_counted") rfl)⟩,
    ⟨_, _, F__token_above, He.glo_ok X G (c.fact 3 (f := .glo "_token_above") rfl)⟩,
    ⟨_, _, F__law_bag, He.glo_ok X G (c.fact 4 (f := .glo "_law_bag") rfl)⟩,
    ⟨_, _, F__law_draw, He.glo_ok X G (c.fact 5 (f := .glo "_law_draw") rfl)⟩,
    ⟨_, _, F__law_of, He.glo_ok X G (c.fact 6 (f := .glo "_law_of") rfl)⟩,
    ⟨_, _, F__law_like, He.glo_ok X G (c.fact 7 (f := .glo "_law_like") rfl)⟩,
    ⟨_, _, F__law_number, He.glo_ok X G (c.fact 8 (f := .glo "_law_number") rfl)⟩,
    ⟨_, _, F__law_loads, He.glo_ok X G (c.fact 9 (f := .glo "_law_loads") rfl)⟩,
    ⟨_, _, F__law_some, He.glo_ok X G (c.fact 10 (f := .glo "_law_some") rfl)⟩,
    ⟨_, _, F__law_best_so, He.glo_ok X G (c.fact 11 (f := .glo "_law_best_so") rfl)⟩,
    ⟨_, _, F__law_drawn_so, He.glo_ok X G (c.fact 12 (f := .glo "_law_drawn_so") rfl)⟩,
    ⟨_, _, F__law_choice_so, He.glo_ok X G (c.fact 13 (f := .glo "_law_choice_so") rfl)⟩,
    ⟨_, _, F__law_seed, He.glo_ok X G (c.fact 14 (f := .glo "_law_seed") rfl)⟩,
    ⟨_, _, F__law_spot, He.glo_ok X G (c.fact 15 (f := .glo "_law_spot") rfl)⟩,
    ⟨_, _, F__law_trial_so, He.glo_ok X G (c.fact 16 (f := .glo "_law_trial_so") rfl)⟩,
    ⟨_, _, F_law, He.glo_ok X G (c.fact 17 (f := .glo "law") rfl)⟩,
    He.free_ok X G (c.fact 18 (f := .free "max") rfl),
    He.free_ok X G (c.fact 19 (f := .free "sum") rfl),
    He.free_ok X G (c.fact 20 (f := .free "list") rfl),
    He.free_ok X G (c.fact 21 (f := .free "enumerate") rfl),
    He.free_ok X G (c.fact 22 (f := .free "int") rfl),
    He.free_ok X G (c.fact 23 (f := .free "len") rfl),
    He.free_ok X G (c.fact 24 (f := .free "isinstance") rfl),
    He.free_ok X G (c.fact 25 (f := .free "tuple") rfl),
    He.free_ok X G (c.fact 26 (f := .free "all") rfl),
    He.free_ok X G (c.fact 27 (f := .free "bool") rfl),
    He.free_ok X G (c.fact 28 (f := .free "str") rfl),
    He.free_ok X G (c.fact 29 (f := .free "zip") rfl),
    He.free_ok X G (c.fact 30 (f := .free "range") rfl),
    He.free_ok X G (c.fact 31 (f := .free "any") rfl)⟩
  have e := hfa.symm.trans (He.glo_ok X G (c.fact 17 (f := .glo "law") rfl))
  cases e
  have b := FunD.bindsA (ps := ["script"]) F_law fun _ _ _ _ _ _ us hl => match us, hl with | [_], _ => rfl
  exact ⟨fd_law, fun s v => b s [v] rfl, fun base _ _ => ok_law T F_law⟩
end Q
open PySem PySem.W PySem.Calls PyProof.Rows
set_option maxRecDepth 100000 in
set_option maxHeartbeats 0 in
theorem PySem.Challenge.cw_answersalone_k08_whole_choosing_holds : PySem.Challenge.rw_answersalone_k08_whole_choosing.Holds := by
  w_on; o_law
  refine HandSHeadRun.head_any (r := OpenLaw.row PySem.Challenge.rw_answersalone_k08_whole_choosing) (q := view (OpenLaw.row PySem.Challenge.rw_answersalone_k08_whole_choosing).prog [19]) (H := Q.hkR) (ob := Q.obR) (M := 4000) (loose := Q.looseR)
    (d := HandSHeadRun.topDef (OpenLaw.row PySem.Challenge.rw_answersalone_k08_whole_choosing).prog 19) (kwd := []) Q.obR_eq
    (by kernel_rfl) (fun s => by kernel_rfl) Q.runR (by kernel_rfl) (by kernel_rfl) (by kernel_rfl) (by rfl) (by first | assumption | decide +kernel) (by decide +kernel) ⟨rfl, rfl, rfl, rfl, rfl, by decide +kernel⟩ ?hw ?hc
  case hw => w_witness2
  case hc =>
    refine L2.walk_ofE (l := PySem.Challenge.rw_answersalone_k08_whole_choosing) (n := 63) (k := 6) (x := "script") (CX := L2.CX0) rfl (by decide) (by kernel_rfl) ⟨rfl, by decide, by decide⟩ ?F (fun _ _ _ _ z => z)
    intro w mg fa h Y G hmg0
    obtain ⟨K, KX, c⟩ := Y
    have hmg : mg ("law" : PySem.Str) = some (.ref fa) := by
      have e : (HandSHeadRun.topDef (OpenLaw.row PySem.Challenge.rw_answersalone_k08_whole_choosing).prog 19).name = ("law" : PySem.Str) := by kernel_rfl
      rw [← e]
      exact hmg0
    obtain ⟨fd, hb, hF⟩ := Q.factsR (P := (PySem.Challenge.rw_answersalone_k08_whole_choosing).prog) (w := w) KX G hmg c
    exact ⟨K, fd, Q.spLaw K, KX, hb, fun H a ns hl _ hS => ⟨a, ns, rfl, hS, hl, fun _ => rfl⟩, hF⟩
