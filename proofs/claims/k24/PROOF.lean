import PyProof.Rows.All
import Wide.All
import OpenK.AllK
import Wide.FinOn
import HandS.Wide
import HandS.ForMost
import HandS.Defaults
import HandS.MakeKwOnly
import HandS.IsInst
import HandS.Conv
import HandS.Style
import HandS.Flow
import HandS.Codes
import HandS.Head0
import HandS.Head1
import HandS.Head2
import HandS.HeadEnd
import HandS.HeadHook1
import HandS.HeadHook2
import KE.GoesMore
import HandS.Zip
import KE.GoesEnum
import HandS.Property
import HandS.OwnEq
import HandS.MakeKw
import HandS.FStr
import HandS.StrMore
import HandS.StrSplit
import HandS.TryOnly
import PyProof.Conv_bool
import PyProof.MeetsIn
import PyProof.StrLawsIn
import PyProof.StrBlockL
import PySem.Challenge.RW_answersalone_k24_whole_disks
set_option Elab.async false
set_option linter.all false
set_option maxRecDepth 100000
namespace Q
open PySem PySem.Spec L2

/-- what a caller needs of a def that has no defaults -/
structure Cal (P : Program) (w : World) (K : PySem.W.Frag) (mg : Str → Option Value) (base : Heap)
    (x : Str) (k : Nat) (ps : List Str) (sp : Sp) : Prop where
  ex : ∃ (f : Addr) (fd : FuncData), FnOk P w K mg base CX0 k f fd ps sp ∧
    mg x = some (.ref f) ∧ PySem.W.keepIn K (.ref f) = true ∧ Binds K fd ps []

section
variable {X : Cx} {x : Str} {k : Nat} {ps : List Str} {sp : Sp} {e : Expr} {es : List Expr} {t : TA} {p pos : Pos}
theorem pe_cal (C : Cal X.prog X.w X.K X.mg X.base x k ps sp) (hr : Room k X.A) (hg : Gl X x) (ha : PA X (e :: es) t)
    (hd : (x == ("__debug__" : Str)) = false := by decide)
    (he : starEach (e :: es) X.env = (false, eval e X.env) :: starEach es X.env := by rfl)
    (hl : (backTo pos (starEach es X.env)).any (·.1) = false := by rfl) :
    PE X (.Call (.Name x p) (e :: es) [] pos) (tCall sp [] E0 t) := by
  obtain ⟨f, fd, F, hm, hk, hb⟩ := C.ex
  exact pe_call F hr hg hm hk hb .nil pass0 ha hd he hl
end

theorem cal_mk {P : Program} {w : World} {K : PySem.W.Frag} {mg : Str → Option Value} {base : Heap} {x q : Str} {pa : Arguments} {bd : List Stmt} {sc : Scope} {dv : List V} {kw : List (Str × V)} {k : Nat} {ps : List Str} {sp : Sp}
    (h : ∃ (f : Addr) (fd : FuncData), FunD K x q pa bd sc dv kw f fd ∧ mg x = some (.ref f))
    (ok : ∀ {f : Addr} {fd : FuncData}, FunD K x q pa bd sc dv kw f fd → FnOk P w K mg base CX0 k f fd ps sp)
    (b : ∀ {f : Addr} {fd : FuncData}, FunD K x q pa bd sc dv kw f fd → Binds K fd ps []) : Cal P w K mg base x k ps sp := by
  obtain ⟨f, fd, F, m⟩ := h
  exact ⟨f, fd, ok F, m, F.kp, b F⟩
theorem cal_mono {P : Program} {w : World} {K : PySem.W.Frag} {mg : Str → Option Value} {base : Heap} {x : Str} {j k : Nat} {ps : List Str} {sp : Sp} (C : Cal P w K mg base x j ps sp) (h : j ≤ k) : Cal P w K mg base x k ps sp := by
  obtain ⟨f, fd, F, m, kp, b⟩ := C.ex
  exact ⟨f, fd, F.mono h, m, kp, b⟩
/-- what a caller with keywords needs of a def: n values by position, the keywords ks; gV puts them (and the defaults) in the parameters' order -/
structure KCal (P : Program) (w : World) (K : PySem.W.Frag) (mg : Str → Option Value) (base : Heap) (x : Str) (k n : Nat) (ks : List Str) (gV : List V → List V → List V) (sp : Sp) : Prop where
  ex : ∃ (f : Addr) (fd : FuncData) (ps : List Str) (g : List Value → List Value → List Value), FnOk P w K mg base CX0 k f fd ps sp ∧ mg x = some (.ref f) ∧ PySem.W.keepIn K (.ref f) = true ∧ KBn K fd ps n ks g gV
theorem kcal_mk {P : Program} {w : World} {K : PySem.W.Frag} {mg : Str → Option Value} {base : Heap} {x q : Str} {pa : Arguments} {bd : List Stmt} {sc : Scope} {dv : List V} {kw : List (Str × V)} {k n : Nat} {ks ps : List Str} {sp : Sp} {gV : List V → List V → List V}
    (h : ∃ (f : Addr) (fd : FuncData), FunD K x q pa bd sc dv kw f fd ∧ mg x = some (.ref f))
    (ok : ∀ {f : Addr} {fd : FuncData}, FunD K x q pa bd sc dv kw f fd → FnOk P w K mg base CX0 k f fd ps sp)
    (b : ∀ {f : Addr} {fd : FuncData}, FunD K x q pa bd sc dv kw f fd → ∃ g, KBn K fd ps n ks g gV) : KCal P w K mg base x k n ks gV sp := by
  obtain ⟨f, fd, F, m⟩ := h
  obtain ⟨g, kb⟩ := b F
  exact ⟨f, fd, ps, g, ok F, m, F.kp, kb⟩
section
variable {X : Cx} {x : Str} {k n : Nat} {ks : List Str} {gV : List V → List V → List V} {sp : Sp} {e : Expr} {es : List Expr} {kws : List Keyword} {t tk : TA} {p pos : Pos}
theorem pe_kcal (C : KCal X.prog X.w X.K X.mg X.base x k n ks gV sp) (hr : Room k X.A) (hg : Gl X x) (ha : PA X (e :: es) t) (hkw : PK X kws tk)
    (hall : (backToKw pos (keywordEach kws X.env)).all (·.1.isSome) = true := by rfl) (hks : (backToKw pos (keywordEach kws X.env)).filterMap (·.1) = ks := by rfl)
    (hd : (x == ("__debug__" : Str)) = false := by decide) (he : starEach (e :: es) X.env = (false, eval e X.env) :: starEach es X.env := by rfl)
    (hl : ((backTo pos (starEach (e :: es) X.env)).any (·.1) || (backToKw pos (keywordEach kws X.env)).any (·.1.isNone)) = false := by rfl) :
    PE X (.Call (.Name x p) (e :: es) kws pos) (tCallN n ks.length sp gV E0 t tk) := by
  obtain ⟨f, fd, ps, g, F, hm, hk, hb⟩ := C.ex
  exact pe_callN F hr hg hm hk hb pass0 ha hkw hall hks hd he hl
theorem pe_kcal0 (C : KCal X.prog X.w X.K X.mg X.base x k 0 ks gV sp) (hr : Room k X.A) (hg : Gl X x) (hkw : PK X kws tk)
    (hall : (backToKw pos (keywordEach kws X.env)).all (·.1.isSome) = true := by rfl) (hks : (backToKw pos (keywordEach kws X.env)).filterMap (·.1) = ks := by rfl)
    (hd : (x == ("__debug__" : Str)) = false := by decide)
    (hl : ((backTo pos (starEach [] X.env)).any (·.1) || (backToKw pos (keywordEach kws X.env)).any (·.1.isNone)) = false := by rfl) :
    PE X (.Call (.Name x p) [] kws pos) (tCallN 0 ks.length sp gV E0 tNil tk) := by
  obtain ⟨f, fd, ps, g, F, hm, hk, hb⟩ := C.ex
  refine ⟨fun pins s σ H Q I h => ?_⟩
  refine wpAny_Call_Name_kw (ld_glob I hg hm ?_ hd)
  refine PySem.W.callWith_KW0 (h₀ := X.base) I.ok.mod.kin hk hall ?_ hl
  refine thn (hkw.run pos pins s σ H _ I h) fun ws s2 ⟨zs, H2, I2, rz, l1, l2, q2⟩ => ⟨I2.kIn, ?_⟩
  rw [hks]
  exact run_fnN (us := []) (vs := []) F hr hb pass0 I2 .nil rz l1 l2 q2
end
/-- what a caller needs of a method of the class at C -/
structure MCal (P : Program) (w : World) (K : PySem.W.Frag) (mg : Str → Option Value) (base : Heap) (C : Addr) (m : Str) (k : Nat) (ps : List Str) (sp : Sp) : Prop where
  ex : ∃ (f : Addr) (fd : FuncData), Meth K C m f ∧ FnOk P w K mg base CX0 k f fd ps sp ∧ Binds K fd ps []
theorem mcal_mk {P : Program} {w : World} {K : PySem.W.Frag} {mg : Str → Option Value} {base : Heap} {C : Addr} {m : Str} {x q : Str} {pa : Arguments} {bd : List Stmt} {sc : Scope} {dv : List V} {kw : List (Str × V)} {k : Nat} {ps : List Str} {sp : Sp} {f : Addr}
    (me : Meth K C m f) (h : ∃ (fd : FuncData), FunD K x q pa bd sc dv kw f fd)
    (ok : ∀ {f : Addr} {fd : FuncData}, FunD K x q pa bd sc dv kw f fd → FnOk P w K mg base CX0 k f fd ps sp)
    (b : ∀ {f : Addr} {fd : FuncData}, FunD K x q pa bd sc dv kw f fd → Binds K fd ps []) : MCal P w K mg base C m k ps sp := by
  obtain ⟨fd, F⟩ := h
  exact ⟨f, fd, me, ok F, b F⟩
/-- what a caller needs of a class that is made by its __init__ -/
structure MkC (P : Program) (w : World) (K : PySem.W.Frag) (mg : Str → Option Value) (base : Heap) (C : Addr) (k : Nat) (ps : List Str) (sp : Sp) : Prop where
  ex : ∃ (f : Addr) (fd : FuncData), Mk K C f ∧ FnOk P w K mg base CX0 k f fd ps sp ∧ Binds K fd ps []
section
variable {X : Cx} {K : PySem.W.Frag} {C : Addr} {k : Nat} {ps : List Str} {sp : Sp} {e o value : Expr} {es : List Expr} {t : TA} {ta tv : TE} {x m f : Str} {p pos pos' apos : Pos}
theorem pe_mcal {pl : Sem Bool} (he : PE X o ta) (c : Cls X.K C) (M : MCal X.prog X.w X.K X.mg X.base C m k ps sp) (hr : Room k X.A) (ha : PA X (e :: es) t)
    (hst : starEach (e :: es) X.env = (false, eval e X.env) :: starEach es X.env := by rfl) (hl : (backTo pos (starEach es X.env)).any (·.1) = false := by rfl)
    (ht : eval (.Call (.Attribute o m apos) (e :: es) [] pos) X.env = (do
      let self_ ← eval o X.env
      standAt apos.atName
      let (fn, first) ← holding [self_] (getMethod self_ m pl)
      callWith pos fn first (backTo pos (starEach (e :: es) X.env)) (backToKw pos (keywordEach [] X.env))) := by rfl) :
    PE X (.Call (.Attribute o m apos) (e :: es) [] pos) (tMeth C m sp [] E0 ta t) := by
  obtain ⟨f, fd, hm, F, hb⟩ := M.ex
  exact pe_meth he c hm F hr hb .nil pass0 ha hst hl ht
theorem pe_mcal0 {pl : Sem Bool} (he : PE X o ta) (c : Cls X.K C) (M : MCal X.prog X.w X.K X.mg X.base C m k ps sp) (hr : Room k X.A)
    (ht : eval (.Call (.Attribute o m apos) [] [] pos) X.env = (do
      let self_ ← eval o X.env
      standAt apos.atName
      let (fn, first) ← holding [self_] (getMethod self_ m pl)
      callWith pos fn first (backTo pos (starEach [] X.env)) (backToKw pos (keywordEach [] X.env))) := by rfl) :
    PE X (.Call (.Attribute o m apos) [] [] pos) (tMeth C m sp [] E0 ta tNil) := by
  obtain ⟨f, fd, hm, F, hb⟩ := M.ex
  exact pe_meth0 he c hm F hr hb .nil pass0 ht
theorem pe_mk (hm : X.mg x = some (.ref C)) (M : MkC X.prog X.w X.K X.mg X.base C k ps sp) (hr : Room (k + 1) X.A) (hg : Gl X x) (ha : PA X (e :: es) t)
    (hd : (x == ("__debug__" : Str)) = false := by decide) (he : starEach (e :: es) X.env = (false, eval e X.env) :: starEach es X.env := by rfl) (hl : (backTo pos (starEach es X.env)).any (·.1) = false := by rfl) :
    PE X (.Call (.Name x p) (e :: es) [] pos) (tMake C sp [] E0 t) := by
  obtain ⟨f, fd, hmk, F, hb⟩ := M.ex
  exact pe_make hmk F hr hg hm hb .nil pass0 ha hd he hl
theorem k_fld (ek : X.K = K) (he : PE X e ta) (hb : attributeBase e f X.env (eval e X.env) = eval e X.env) : PE X (.Attribute e f pos) (tFld K ta f) := by subst ek; exact pe_fld he hb
theorem k_sfld (ek : X.K = K) (ha : PE X o ta) (hv : PE X value tv) (hs : swapsWith value (some (.Attribute o f pos')) pos.line X.env = pure false) : PS X (.Assign [.Attribute o f pos'] value pos) (sFld K ta tv f) := by subst ek; exact ps_fld ha hv hs
end
/-- the parameters' order: the i-th of the values by position (0), of the defaults that lack (1), of the keywords (2) -/
def pick {α : Type} : List (Nat × Nat) → List α → List α → List α → List α
  | [], _, _, _ => []
  | (k, i) :: r, us, mv, ws => match (match k with | 0 => us | 1 => mv | _ => ws)[i]? with
    | some x => x :: pick r us mv ws
    | none => pick r us mv ws
theorem vals_pick : ∀ (ix : List (Nat × Nat)) {vs mz zs : List V} {us mv ws : List Value}, Vals vs us → Vals mz mv → Vals zs ws → Vals (pick ix vs mz zs) (pick ix us mv ws)
  | [], _, _, _, _, _, _, _, _, _ => .nil
  | (k, i) :: r, vs, mz, zs, us, mv, ws, h1, h2, h3 => by
    have hsel : Vals (match k with | 0 => vs | 1 => mz | _ => zs) (match k with | 0 => us | 1 => mv | _ => ws) := by
      match k with
      | 0 => exact h1
      | 1 => exact h2
      | _ + 2 => exact h3
    have ih := vals_pick r h1 h2 h3
    unfold pick
    cases e : (match k with | 0 => vs | 1 => mz | _ => zs)[i]? with
    | none =>
      rw [hsel.none_of e]
      exact ih
    | some x =>
      obtain ⟨u, hu, ru⟩ := hsel.get e
      rw [hu]
      exact .cons ru ih
theorem kbindsN {K : PySem.W.Frag} {x qual : Str} {params : Arguments} {body : List Stmt} {scope : Scope} {f : Addr} {fd : FuncData} {ps : List Str} (F : FunD K x qual params body scope [] [] f fd) (n : Nat) (ks : List Str) (ix : List (Nat × Nat))
    (h : ∀ (kV doc pm : Value) (an : Option Addr) (cdv ct : Value) (us ws : List Value), us.length = n → ws.length = ks.length →
      bindArgs (PySem.W.fnOf x qual params body scope .none kV doc pm an cdv ct) ⟨us, ks.zip ws⟩ = pure (ps.zip (pick ix us [] ws))) : ∃ g, KBn K fd ps n ks g (fun vs zs => pick ix vs [] zs) := by
  obtain ⟨oc, od, dV, kV, doc, pm, an, cdv, ct, osl, rfl, lk, hcd, hD, hK⟩ := F.ex
  rcases hD with ⟨_, rfl⟩ | ⟨e, _⟩
  · exact ⟨fun us ws => pick ix us [] ws, fun s us ws X l1 l2 => .of_eq (h kV doc pm an cdv ct us ws l1 l2), fun r1 r2 => vals_pick ix r1 .nil r2⟩
  · exact absurd rfl e
theorem kbindsK {K : PySem.W.Frag} {x qual : Str} {params : Arguments} {body : List Stmt} {scope : Scope} {kws : List (Str × V)} {f : Addr} {fd : FuncData} {ps : List Str} (F : FunD K x qual params body scope [] kws f fd) (n : Nat) (ks : List Str) (ms : List (Str × V)) (ix : List (Nat × Nat)) (hk : kws ≠ []) (hms : ∀ q ∈ ms, q ∈ kws)
    (h : ∀ (D : Addr) (doc pm : Value) (an : Option Addr) (cdv ct : Value) (us mv ws : List Value), us.length = n → mv.length = ms.length → ws.length = ks.length →
      KwChain D ((ms.map (·.1)).zip mv) (bindArgs (PySem.W.fnOf x qual params body scope .none (.ref D) doc pm an cdv ct) ⟨us, ks.zip ws⟩) (ps.zip (pick ix us mv ws))) : ∃ g, KBn K fd ps n ks g (fun vs zs => pick ix vs (ms.map (·.2)) zs) := by
  obtain ⟨mv, hb⟩ := F.kbinds0 n ks ms (fun us mv ws => pick ix us mv ws) hk hms (fun h1 h2 h3 => vals_pick ix h1 h2 h3) h
  exact ⟨_, hb⟩
/-- all but a stays -/
def Chg (a : Addr) (H H' : Hp) : Prop := ∀ b o, b ≠ a → H b = some o → H' b = some o
theorem Chg.refl {a : Addr} {H : Hp} : Chg a H H := fun _ _ _ h => h
theorem Chg.trans {a : Addr} {H H1 H2 : Hp} (x : Chg a H H1) (y : Chg a H1 H2) : Chg a H H2 := fun b o n h => y b o n (x b o n h)
theorem Chg.upd {a : Addr} {H : Hp} {o : HO} : Chg a H (upd H a o) := fun b _ n h => by rw [upd_ne n]; exact h
theorem Chg.new {a p : Addr} {H : Hp} {o : HO} (hp : H p = none) : Chg a H (L2.upd H p o) := fun b u _ h => by
  rw [upd_ne (ne_of_none h hp)]; exact h
theorem Same.chg {a : Addr} {H H' : Hp} (s : Same H H') : Chg a H H' := fun b o _ h => s b o h
theorem sm_chg {a : Addr} {H H' : Hp} (s : L2.Same H H') : Chg a H H' := fun b o _ h => s b o h
theorem same_new {H : Hp} {p : Addr} {o : HO} (hp : H p = none) : Same H (L2.upd H p o) := fun b u h => by
  rw [upd_ne (ne_of_none h hp)]; exact h

/-! ### readings, step by step: each g_.. takes one head away -/
section
variable {D : Ends} {σ : L2.St} {H : Hp} {Q : VK} {QB : Bool → Hp → Prop} {QL : List V → Hp → Prop}
theorem g_seq {t u : TS} (h : t { D with nx := u D } σ H) : tSeq t u D σ H := h
theorem g_asg {te : TE} {g : TG} (h : te σ H fun x H1 => g x σ H1 D.nx) : tAsg te g D σ H := h
def ParR (i j : Nat) (D : Ends) (σ : L2.St) (vs : List V) (H1 : Hp) : Prop := ∃ v w, vs = [v, w] ∧ D.nx ((σ.set i (some v)).set j (some w)) H1
theorem g_par {i j : Nat} {ta : TA} (h : ta σ H (ParR i j D σ)) : tPar i j ta D σ H := h
theorem g_parR {i j : Nat} {v w : V} (h : gName i v σ H fun σ1 H1 => gName j w σ1 H1 D.nx) : ParR i j D σ [v, w] H := ⟨v, w, rfl, h⟩
def ParR3 (i j l : Nat) (D : Ends) (σ : L2.St) (vs : List V) (H1 : Hp) : Prop := ∃ v w u, vs = [v, w, u] ∧ D.nx (((σ.set i (some v)).set j (some w)).set l (some u)) H1
theorem g_par3 {i j l : Nat} {ta : TA} (h : ta σ H (ParR3 i j l D σ)) : tPar3 i j l ta D σ H := h
theorem g_parR3 {i j l : Nat} {v w u : V} (h : gName i v σ H fun σ1 H1 => gName j w σ1 H1 fun σ2 H2 => gName l u σ2 H2 D.nx) : ParR3 i j l D σ [v, w, u] H := ⟨v, w, u, rfl, h⟩
theorem g_aug {i : Nat} {te : TE} {ti : TIp} (h : tVar i σ H fun x _ => te σ H fun y H1 => ti x y H1 fun z H2 => gName i z σ H2 D.nx) : tAug i te ti D σ H := h
theorem g_ipI {f : Int → Int → Int} {i j : Int} (h : Q (.int (f i j)) H) : ipI f (.int i) (.int j) H Q := ⟨i, j, rfl, rfl, h⟩
theorem g_ifS {c : TT} {t u : TS} (h : c σ H fun b H1 => if b = true then t D σ H1 else u D σ H1) : tIfS c t u D σ H := h
theorem g_ret {te : TE} (h : te σ H D.rt) : tRet te D σ H := h
theorem g_retN (h : D.rt .non H) : tRetN D σ H := h
theorem g_drop {te : TE} (h : te σ H fun _ H1 => D.nx σ H1) : tDrop te D σ H := h
theorem g_next (h : D.nx σ H) : tNext D σ H := h
theorem g_brk (h : D.bk σ H) : tBreak D σ H := h
theorem g_cont (h : D.ct σ H) : tCont D σ H := h
theorem g_c {v : V} (h : Q v H) : tC v σ H Q := h
theorem g_op {r : R2} {ta tb : TE} (h : ta σ H fun x H1 => tb σ H1 fun y H2 => r x y H2 Q) : tOp r ta tb σ H Q := h
theorem g_un {r : V → Hp → VK → Prop} {ta : TE} (h : ta σ H fun x H1 => r x H1 Q) : tUn r ta σ H Q := h
theorem g_cb {r : List V → Hp → VK → Prop} {t : TA} (h : t σ H fun vs H1 => r vs H1 Q) : tCB r t σ H Q := h
theorem g_nil (h : QL [] H) : tNil σ H QL := h
theorem g_cons {ta : TE} {t : TA} (h : ta σ H fun x H1 => t σ H1 fun xs H2 => QL (x :: xs) H2) : tCons ta t σ H QL := h
def NewL (Q : VK) (xs : List V) (H1 : Hp) : Prop := xs.length ≤ sizeLine ∧ ∀ p, H1 p = none → Q (.ref p) (upd H1 p (.lst xs))
def NewT (Q : VK) (xs : List V) (H1 : Hp) : Prop := xs.length ≤ sizeLine ∧ ∀ p, H1 p = none → Q (.ref p) (upd H1 p (.tup xs))
theorem g_lst {t : TA} (h : t σ H fun xs H1 => NewL Q xs H1) : tLst t σ H Q := h
theorem g_tup {t : TA} (h : t σ H fun xs H1 => NewT Q xs H1) : tTup t σ H Q := h
theorem g_newL {xs : List V} (l : xs.length ≤ 1000) (h : ∀ p, H p = none → Q (.ref p) (upd H p (.lst xs))) : NewL Q xs H := ⟨Nat.le_of_lt (small1000 l), h⟩
theorem g_newT {xs : List V} (l : xs.length ≤ 1000) (h : ∀ p, H p = none → Q (.ref p) (upd H p (.tup xs))) : NewT Q xs H := ⟨Nat.le_of_lt (small1000 l), h⟩
theorem g_call {sp : Sp} {E : XK} {t : TA} (h : t σ H fun vs H1 => sp vs H1 Q E) : tCall sp [] E t σ H Q := by
  show t σ H fun vs H1 => sp (vs ++ []) H1 Q E
  simp only [List.append_nil]
  exact h
theorem g_if {t : TT} {ta tb : TE} (h : t σ H fun c H1 => if c = true then ta σ H1 Q else tb σ H1 Q) : tIf t ta tb σ H Q := h
theorem g_andV {ta tb : TE} (h : ta σ H fun x H1 => ∃ c, x = .bl c ∧ if c = true then tb σ H1 Q else Q (.bl false) H1) : tAndV ta tb σ H Q := h
theorem g_orV {ta tb : TE} (h : ta σ H fun x H1 => ∃ c, x = .bl c ∧ if c = true then Q (.bl true) H1 else tb σ H1 Q) : tOrV ta tb σ H Q := h
def ChR (r : R2) (tc : TE) (σ : L2.St) (Q : VK) (y z : V) (H3 : Hp) : Prop := ∃ k, z = .bl k ∧ (if k = true then tc σ H3 fun w H4 => r y w H4 Q else Q (.bl false) H3)
theorem g_chain {r r' : R2} {ta tb tc : TE} (h : ta σ H fun x H1 => tb σ H1 fun y H2 => r x y H2 (ChR r' tc σ Q y)) : tChain r r' ta tb tc σ H Q := h
theorem g_chR {r : R2} {tc : TE} {y : V} {b : Bool} (h : if b = true then tc σ H fun w H4 => r y w H4 Q else Q (.bl false) H) : ChR r tc σ Q y (.bl b) H := ⟨b, rfl, h⟩
theorem g_notV {ta : TE} (h : ta σ H fun x H1 => ∃ c, x = .bl c ∧ Q (.bl (!c)) H1) : tNotV ta σ H Q := h
theorem g_b {t : TE} (h : t σ H fun x H1 => ∃ c, x = .bl c ∧ QB c H1) : tB t σ H QB := h
theorem g_test {t : TE} (h : t σ H fun x H1 => ∃ c, x = .bl c ∧ QB c H1) : tTest t σ H QB := h
theorem g_and {t u : TT} (h : t σ H fun c H1 => if c = true then u σ H1 QB else QB false H1) : tAnd t u σ H QB := h
theorem g_or {t u : TT} (h : t σ H fun c H1 => if c = true then QB true H1 else u σ H1 QB) : tOr t u σ H QB := h
theorem g_not {t : TT} (h : t σ H fun c H1 => QB (!c) H1) : tNot t σ H QB := h
theorem g_yes (h : QB true H) : tYes σ H QB := h
theorem g_bl {b : Bool} {R : Bool → Prop} (h : R b) : ∃ c, V.bl b = V.bl c ∧ R c := ⟨b, rfl, h⟩
theorem g_sub {to ti : TE} {t : TSet} {v : V} {N : L2.St → Hp → Prop} (h : to σ H fun o H1 => ti σ H1 fun i H2 => t o i v H2 fun H3 => N σ H3) : gSub to ti t v σ H N := h
def KArg (n m : Nat) (sp : Sp) (gV : List V → List V → List V) (E : XK) (Q : VK) (vs zs : List V) (H : Hp) : Prop := vs.length = n ∧ zs.length = m ∧ sp (gV vs zs) H Q E
theorem g_callN {n m : Nat} {sp : Sp} {gV : List V → List V → List V} {E : XK} {t tk : TA} (h : t σ H fun vs H1 => tk σ H1 fun zs H2 => KArg n m sp gV E Q vs zs H2) : tCallN n m sp gV E t tk σ H Q := h
theorem g_kArg {n m : Nat} {sp : Sp} {gV : List V → List V → List V} {E : XK} {vs zs ws : List V} (h1 : vs.length = n) (h2 : zs.length = m) (e : gV vs zs = ws) (h : sp ws H Q E) : KArg n m sp gV E Q vs zs H := ⟨h1, h2, by rw [e]; exact h⟩
def BmR (K : PySem.W.Frag) (T : String) (r : V → List V → Hp → VK → Prop) (t : TA) (σ : L2.St) (Q : VK) (x : V) (H1 : Hp) : Prop := tyV K T x H1 ∧ t σ H1 fun xs H2 => r x xs H2 Q
theorem g_bm {K : PySem.W.Frag} {T : String} {r : V → List V → Hp → VK → Prop} {to : TE} {t : TA} (h : to σ H (BmR K T r t σ Q)) : tBM K T r to t σ H Q := h
theorem g_bmL {K : PySem.W.Frag} {r : V → List V → Hp → VK → Prop} {t : TA} {p : Addr} {xs : List V} (h : SqL K H p xs) (q : t σ H fun ys H2 => r (.ref p) ys H2 Q) : BmR K "list" r t σ Q (.ref p) H := ⟨.inl ⟨rfl, xs, h⟩, q⟩
def FldR (K : PySem.W.Frag) (f : Str) (Q : VK) (x : V) (H1 : Hp) : Prop := ∃ a C dx fs v, x = .ref a ∧ H1 a = some (.ins C dx fs) ∧ Cls K C ∧ NoAttr K C f ∧ fs.lookup f = some v ∧ Q v H1
theorem g_fld {K : PySem.W.Frag} {ta : TE} {f : Str} (h : ta σ H (FldR K f Q)) : tFld K ta f σ H Q := h
theorem g_fldR {K : PySem.W.Frag} {f : Str} {a C dx : Addr} {fs : List (Str × V)} {v : V} (h : H a = some (.ins C dx fs)) (c : Cls K C) (n : NoAttr K C f) (l : fs.lookup f = some v) (q : Q v H) : FldR K f Q (.ref a) H := ⟨a, C, dx, fs, v, rfl, h, c, n, l, q⟩
def MethR (C : Addr) (m : Str) (sp : Sp) (E : XK) (t : TA) (σ : L2.St) (Q : VK) (x : V) (H1 : Hp) : Prop := ∃ a dx fs, x = .ref a ∧ H1 a = some (.ins C dx fs) ∧ fs.lookup m = none ∧ t σ H1 fun vs H2 => sp (x :: vs) H2 Q E
theorem g_meth {C : Addr} {m : Str} {sp : Sp} {E : XK} {ta : TE} {t : TA} (h : ta σ H (MethR C m sp E t σ Q)) : tMeth C m sp [] E ta t σ H Q := by
  show ta σ H fun x H1 => ∃ a dx fs, x = .ref a ∧ H1 a = some (.ins C dx fs) ∧ fs.lookup m = none ∧ t σ H1 fun vs H2 => sp (x :: (vs ++ [])) H2 Q E
  simp only [List.append_nil]
  exact h
theorem g_methR {C : Addr} {m : Str} {sp : Sp} {E : XK} {t : TA} {a dx : Addr} {fs : List (Str × V)} (h : H a = some (.ins C dx fs)) (l : fs.lookup m = none) (q : t σ H fun vs H2 => sp (.ref a :: vs) H2 Q E) : MethR C m sp E t σ Q (.ref a) H := ⟨a, dx, fs, rfl, h, l, q⟩
def SFldR (K : PySem.W.Frag) (f : Str) (D : Ends) (σ : L2.St) (y x : V) (H2 : Hp) : Prop := ∃ a C dx fs, x = .ref a ∧ H2 a = some (.ins C dx fs) ∧ Cls K C ∧ NoAttr K C f ∧ fs.length < 1000 ∧ D.nx σ (upd H2 a (.ins C dx (putF f y fs)))
theorem g_sfld {K : PySem.W.Frag} {ta tv : TE} {f : Str} (h : tv σ H fun y H1 => ta σ H1 (SFldR K f D σ y)) : sFld K ta tv f D σ H := h
theorem g_sfldR {K : PySem.W.Frag} {f : Str} {a C dx : Addr} {fs : List (Str × V)} {y : V} (h : H a = some (.ins C dx fs)) (c : Cls K C) (n : NoAttr K C f) (l : fs.length < 1000) (q : D.nx σ (upd H a (.ins C dx (putF f y fs)))) : SFldR K f D σ y (.ref a) H := ⟨a, C, dx, fs, rfl, h, c, n, l, q⟩
/-! values -/
theorem g_rI0 {g : Int → Int → V} {i j : Int} (h : Q (g i j) H) : rI0 g (.int i) (.int j) H Q := ⟨i, j, rfl, rfl, h⟩
theorem g_rI {C : Int → Int → Prop} {g : Int → Int → V} {i j : Int} (c : C i j) (h : Q (g i j) H) : rI C g (.int i) (.int j) H Q := ⟨i, j, rfl, rfl, c, h⟩
theorem g_rU {g : Int → V} {i : Int} (h : Q (g i) H) : rU g (.int i) H Q := ⟨i, rfl, h⟩
theorem g_eqI {i j : Int} (h : Q (.bl (decide (i = j))) H) : rEq (.int i) (.int j) H Q :=
  ⟨rfl, by rw [show decide (V.int i = V.int j) = decide (i = j) from by simp only [V.int.injEq]]; exact h⟩
theorem g_neI {i j : Int} (h : Q (.bl (!decide (i = j))) H) : rNe (.int i) (.int j) H Q :=
  ⟨rfl, by rw [show decide (V.int i = V.int j) = decide (i = j) from by simp only [V.int.injEq]]; exact h⟩
theorem g_eqS {i j : Str} (h : Q (.bl (decide (i = j))) H) : rEq (.str i) (.str j) H Q :=
  ⟨rfl, by rw [show decide (V.str i = V.str j) = decide (i = j) from by simp only [V.str.injEq]]; exact h⟩
theorem g_eqB {i j : Bool} (h : Q (.bl (decide (i = j))) H) : rEq (.bl i) (.bl j) H Q :=
  ⟨rfl, by rw [show decide (V.bl i = V.bl j) = decide (i = j) from by simp only [V.bl.injEq]]; exact h⟩
theorem g_neB {i j : Bool} (h : Q (.bl (!decide (i = j))) H) : rNe (.bl i) (.bl j) H Q :=
  ⟨rfl, by rw [show decide (V.bl i = V.bl j) = decide (i = j) from by simp only [V.bl.injEq]]; exact h⟩
theorem g_isN {x : V} (h : Q (.bl (decide (x = .non))) H) : (∃ _ : Unit, True) ∧ Q (.bl (decide (x = .non))) H := ⟨⟨(), trivial⟩, h⟩
theorem g_ixL {K : PySem.W.Frag} {p : Addr} {xs : List V} {i : Int} {v : V} (h : SqL K H p xs) (e : atI xs i = some v) (q : Q v H) : rIxL K (.ref p) (.int i) H Q := ⟨p, xs, i, v, rfl, rfl, h, e, q⟩
theorem g_setL {p : Addr} {xs : List V} {k : Int} {j : Nat} {v : V} {N : Hp → Prop} (h : H p = some (.lst xs)) (e : ixN xs.length k = some j) (q : N (upd H p (.lst (xs.set j v)))) : rSetL (.ref p) (.int k) v H N := ⟨p, xs, k, j, rfl, rfl, h, e, q⟩
theorem g_p6 (h : Q (.int 1000000) H) : rI CPow (fun i j => V.int (i ^ j.toNat)) (.int 10) (.int 6) H Q := ⟨10, 6, rfl, rfl, ⟨by decide, by decide, by decide⟩, h⟩
theorem g_p18 (h : Q (.int 1000000000000000000) H) : rI CPow (fun i j => V.int (i ^ j.toNat)) (.int 10) (.int 18) H Q := ⟨10, 18, rfl, rfl, ⟨by decide, by decide, by decide⟩, h⟩
theorem g_sl {r : V → Option Int → Option Int → Hp → VK → Prop} {te : TE} {tl th : TO} (h : te σ H fun x H1 => tl σ H1 fun l H2 => th σ H2 fun u H3 => r x l u H3 Q) : tSl r te tl th σ H Q := h
def PartR (x : V) (R : Option Int → Hp → Prop) (H : Hp) : Prop := ∃ i, x = .int i ∧ R (some i) H
theorem g_part {te : TE} {R : Option Int → Hp → Prop} (h : te σ H fun x H1 => PartR x R H1) : tPart te σ H R := h
theorem g_partI {i : Int} {R : Option Int → Hp → Prop} (h : R (some i) H) : PartR (.int i) R H := ⟨i, rfl, h⟩
theorem g_cat {l b : Addr} {xs zs : List V} (h1 : H l = some (.lst xs)) (h2 : H b = some (.lst zs)) (hl : xs.length + zs.length ≤ 1000) (q : ∀ p, H p = none → Q (.ref p) (upd H p (.lst (xs ++ zs)))) : rCat (.ref l) (.ref b) H Q :=
  ⟨l, b, xs, zs, rfl, rfl, h1, h2, Nat.le_of_lt (small1000 hl), q⟩
theorem g_ixS {K : PySem.W.Frag} {p : Addr} {xs : List V} {i : Int} {v : V} (h : SqL K H p xs) (e : atI xs i = some v) (q : Q v H) : rIxL K (.ref p) (.int i) H Q := g_ixL h e q
theorem g_noPart {R : Option Int → Hp → Prop} (h : R none H) : tNoPart σ H R := h
theorem g_slL {K : PySem.W.Frag} {a : Addr} {xs : List V} {lo hi : Option Int} (h : SqL K H a xs) (q : ∀ p, H p = none → Q (.ref p) (upd H p (.lst (cutV xs lo hi)))) : rSlL K (.ref a) lo hi H Q := ⟨a, xs, rfl, h, q⟩
theorem g_in {K : PySem.W.Frag} {p : Addr} {x : V} {xs : List V} (h : SqL K H p xs ∨ SqT K H p xs) (fx : flatV x = true) (fs : xs.all flatV = true) (q : Q (.bl (inV x xs)) H) : rIn K false x (.ref p) H Q := ⟨p, xs, rfl, h, fx, fs, q⟩
theorem g_notin {K : PySem.W.Frag} {p : Addr} {x : V} {xs : List V} (h : SqL K H p xs ∨ SqT K H p xs) (fx : flatV x = true) (fs : xs.all flatV = true) (q : Q (.bl (!inV x xs)) H) : rIn K true x (.ref p) H Q := ⟨p, xs, rfl, h, fx, fs, q⟩
theorem flat_ints (ns : List Int) : (ns.map V.int).all flatV = true := by
  induction ns with
  | nil => rfl
  | cons n r ih => rw [List.map_cons, List.all_cons, ih]; rfl
theorem in_ints (i : Int) (ns : List Int) : inV (.int i) (ns.map V.int) = decide (i ∈ ns) := by
  unfold inV
  induction ns with
  | nil => rfl
  | cons n r ih =>
    rw [List.map_cons, List.any_cons, ih]
    show (n == i || decide (i ∈ r)) = decide (i ∈ n :: r)
    by_cases e : n = i
    · subst e; simp
    · have e2 : ¬ i = n := fun z => e z.symm
      simp [e, e2]
theorem g_inI {K : PySem.W.Frag} {p : Addr} {i : Int} {ns : List Int} (h : SqL K H p (ns.map V.int) ∨ SqT K H p (ns.map V.int)) (q : Q (.bl (decide (i ∈ ns))) H) : rIn K false (.int i) (.ref p) H Q :=
  g_in h rfl (flat_ints ns) (by rw [in_ints]; exact q)
theorem g_notinI {K : PySem.W.Frag} {p : Addr} {i : Int} {ns : List Int} (h : SqL K H p (ns.map V.int) ∨ SqT K H p (ns.map V.int)) (q : Q (.bl (!decide (i ∈ ns))) H) : rIn K true (.int i) (.ref p) H Q :=
  g_notin h rfl (flat_ints ns) (by rw [in_ints]; exact q)
/-! tests known and open -/
theorem g_iteD {p A B : Prop} [Decidable p] (h1 : p → A) (h2 : ¬ p → B) : if decide p = true then A else B := by
  by_cases h : p
  · rw [if_pos (decide_eq_true h)]; exact h1 h
  · rw [if_neg (by simp [h])]; exact h2 h
theorem g_iteN {p A B : Prop} [Decidable p] (h1 : ¬ p → A) (h2 : p → B) : if (!decide p) = true then A else B := by
  by_cases h : p
  · rw [if_neg (by simp [h])]; exact h2 h
  · rw [if_pos (by simp [h])]; exact h1 h
theorem g_iteY {p A B : Prop} [Decidable p] (h : p) (h1 : A) : if decide p = true then A else B := by
  rw [if_pos (decide_eq_true h)]; exact h1
theorem g_iteX {p A B : Prop} [Decidable p] (h : ¬ p) (h1 : B) : if decide p = true then A else B := by
  rw [if_neg (by simp [h])]; exact h1
theorem g_iteNY {p A B : Prop} [Decidable p] (h : ¬ p) (h1 : A) : if (!decide p) = true then A else B := by
  rw [if_pos (by simp [h])]; exact h1
theorem g_iteNX {p A B : Prop} [Decidable p] (h : p) (h1 : B) : if (!decide p) = true then A else B := by
  rw [if_neg (by simp [h])]; exact h1
theorem g_iteCT {b : Bool} {A B : Prop} (h : b = true) (q : A) : if b = true then A else B := by rw [if_pos h]; exact q
theorem g_iteCF {b : Bool} {A B : Prop} (h : b = false) (q : B) : if b = true then A else B := by rw [h, if_neg Bool.false_ne_true]; exact q
theorem g_iteBB {b : Bool} {A B : Prop} (h1 : b = true → A) (h2 : b = false → B) : if b = true then A else B := by
  cases b
  · rw [if_neg Bool.false_ne_true]; exact h2 rfl
  · rw [if_pos rfl]; exact h1 rfl
end
/-! ### built-ins, named -/
section
variable {X : Cx} {σ : L2.St} {H : Hp} {Q : VK}
def qInt : List V → Hp → VK → Prop := fun xs H Q => ∃ i, xs = [.int i] ∧ Q (.int i) H
theorem c_int : CallR X (.type "int") qInt := fun pins s σ H xs us Q I r h => call_int1 pins s σ H xs us Q I r (.inl h)
theorem g_int {i : Int} (h : Q (.int i) H) : qInt [.int i] H Q := ⟨i, rfl, h⟩
def qLen (K : PySem.W.Frag) : List V → Hp → VK → Prop := fun xs H Q => ∃ p ys, xs = [.ref p] ∧ (SqL K H p ys ∨ SqT K H p ys) ∧ Q (.int ys.length) H
theorem c_len : CallR X (.builtin "len") (qLen X.K) := call_len_seq
theorem g_len {K : PySem.W.Frag} {p : Addr} {ys : List V} (h : SqL K H p ys ∨ SqT K H p ys) (q : Q (.int ys.length) H) : qLen K [.ref p] H Q := ⟨p, ys, rfl, h, q⟩
def qList (K : PySem.W.Frag) : List V → Hp → VK → Prop := fun xs H Q => ∃ p ys, xs = [.ref p] ∧ (SqL K H p ys ∨ SqT K H p ys) ∧ ∀ l, H l = none → Q (.ref l) (upd H l (.lst ys))
theorem c_list : CallR X (.type "list") (qList X.K) := call_list_of
theorem g_list {K : PySem.W.Frag} {p : Addr} {ys : List V} (h : SqL K H p ys ∨ SqT K H p ys) (q : ∀ l, H l = none → Q (.ref l) (upd H l (.lst ys))) : qList K [.ref p] H Q := ⟨p, ys, rfl, h, q⟩
def qTuple (K : PySem.W.Frag) : List V → Hp → VK → Prop := fun xs H Q => ∃ p ys, xs = [.ref p] ∧ SqL K H p ys ∧ ∀ l, H l = none → Q (.ref l) (upd H l (.tup ys))
theorem c_tuple : CallR X (.type "tuple") (qTuple X.K) := fun pins s σ H xs us Q I r ⟨p, ys, e, h, q⟩ => call_tuple_of pins s σ H xs us Q I r ⟨p, ys, e, .inl ⟨h, q⟩⟩
theorem g_tuple {K : PySem.W.Frag} {p : Addr} {ys : List V} (h : SqL K H p ys) (q : ∀ l, H l = none → Q (.ref l) (upd H l (.tup ys))) : qTuple K [.ref p] H Q := ⟨p, ys, rfl, h, q⟩
theorem g_sum {K : PySem.W.Frag} {a : Addr} {ns : List Int} (h : SqL K H a (ns.map V.int)) (q : Q (.int ns.sum) H) : rSum K [.ref a] H Q := ⟨a, ns, rfl, h, q⟩
theorem g_max {K : PySem.W.Frag} {a : Addr} {ns : List Int} (h : SqL K H a (ns.map V.int)) (l : 0 < ns.length) (q : ∀ m, m ∈ ns → (∀ y, y ∈ ns → y ≤ m) → Q (.int m) H) : rMax K [.ref a] H Q := ⟨a, ns, rfl, h, l, q⟩
theorem g_any {K : PySem.W.Frag} {a : Addr} {bs : List Bool} (h : SqL K H a (bs.map V.bl)) (q : Q (.bl (bs.any id)) H) : rAny K [.ref a] H Q := ⟨a, bs, rfl, h, q⟩
theorem g_all {K : PySem.W.Frag} {a : Addr} {bs : List Bool} (h : SqL K H a (bs.map V.bl)) (q : Q (.bl (bs.all id)) H) : rAll K [.ref a] H Q := ⟨a, bs, rfl, h, q⟩
def qIsN : R2 := fun x y H Q => y = .non ∧ Q (.bl (decide (x = .non))) H
theorem o_isN : OpR X (compareOp .Is) qIsN := op_isN
theorem g_isNr {r : Addr} (h : Q (.bl false) H) : qIsN (.ref r) .non H Q := ⟨rfl, by rw [decide_eq_false (by intro e; cases e)]; exact h⟩
theorem g_isNn (h : Q (.bl true) H) : qIsN .non .non H Q := ⟨rfl, h⟩
theorem g_isNb {b : Bool} (h : Q (.bl false) H) : qIsN (.bl b) .non H Q := ⟨rfl, by rw [decide_eq_false (by intro e; cases e)]; exact h⟩
theorem g_isNs {z : Str} (h : Q (.bl false) H) : qIsN (.str z) .non H Q := ⟨rfl, by rw [decide_eq_false (by intro e; cases e)]; exact h⟩
theorem g_isNi {i : Int} (h : Q (.bl false) H) : qIsN (.int i) .non H Q := ⟨rfl, by rw [decide_eq_false (by intro e; cases e)]; exact h⟩
end

theorem g_v0 {v : V} {r : L2.St} {H : Hp} {Q : VK} (h : Q v H) : tVar 0 (some v :: r) H Q := ⟨v, rfl, h⟩
theorem g_n0 {y : Option V} {v : V} {r : L2.St} {H : Hp} {N : L2.St → Hp → Prop} (h : N (some v :: r) H) : gName 0 v (y :: r) H N := h
theorem g_v1 {x0 : Option V} {v : V} {r : L2.St} {H : Hp} {Q : VK} (h : Q v H) : tVar 1 (x0 :: some v :: r) H Q := ⟨v, rfl, h⟩
theorem g_n1 {x0 y : Option V} {v : V} {r : L2.St} {H : Hp} {N : L2.St → Hp → Prop} (h : N (x0 :: some v :: r) H) : gName 1 v (x0 :: y :: r) H N := h
theorem g_v2 {x0 x1 : Option V} {v : V} {r : L2.St} {H : Hp} {Q : VK} (h : Q v H) : tVar 2 (x0 :: x1 :: some v :: r) H Q := ⟨v, rfl, h⟩
theorem g_n2 {x0 x1 y : Option V} {v : V} {r : L2.St} {H : Hp} {N : L2.St → Hp → Prop} (h : N (x0 :: x1 :: some v :: r) H) : gName 2 v (x0 :: x1 :: y :: r) H N := h
theorem g_v3 {x0 x1 x2 : Option V} {v : V} {r : L2.St} {H : Hp} {Q : VK} (h : Q v H) : tVar 3 (x0 :: x1 :: x2 :: some v :: r) H Q := ⟨v, rfl, h⟩
theorem g_n3 {x0 x1 x2 y : Option V} {v : V} {r : L2.St} {H : Hp} {N : L2.St → Hp → Prop} (h : N (x0 :: x1 :: x2 :: some v :: r) H) : gName 3 v (x0 :: x1 :: x2 :: y :: r) H N := h
theorem g_v4 {x0 x1 x2 x3 : Option V} {v : V} {r : L2.St} {H : Hp} {Q : VK} (h : Q v H) : tVar 4 (x0 :: x1 :: x2 :: x3 :: some v :: r) H Q := ⟨v, rfl, h⟩
theorem g_n4 {x0 x1 x2 x3 y : Option V} {v : V} {r : L2.St} {H : Hp} {N : L2.St → Hp → Prop} (h : N (x0 :: x1 :: x2 :: x3 :: some v :: r) H) : gName 4 v (x0 :: x1 :: x2 :: x3 :: y :: r) H N := h
theorem g_v5 {x0 x1 x2 x3 x4 : Option V} {v : V} {r : L2.St} {H : Hp} {Q : VK} (h : Q v H) : tVar 5 (x0 :: x1 :: x2 :: x3 :: x4 :: some v :: r) H Q := ⟨v, rfl, h⟩
theorem g_n5 {x0 x1 x2 x3 x4 y : Option V} {v : V} {r : L2.St} {H : Hp} {N : L2.St → Hp → Prop} (h : N (x0 :: x1 :: x2 :: x3 :: x4 :: some v :: r) H) : gName 5 v (x0 :: x1 :: x2 :: x3 :: x4 :: y :: r) H N := h
theorem g_v6 {x0 x1 x2 x3 x4 x5 : Option V} {v : V} {r : L2.St} {H : Hp} {Q : VK} (h : Q v H) : tVar 6 (x0 :: x1 :: x2 :: x3 :: x4 :: x5 :: some v :: r) H Q := ⟨v, rfl, h⟩
theorem g_n6 {x0 x1 x2 x3 x4 x5 y : Option V} {v : V} {r : L2.St} {H : Hp} {N : L2.St → Hp → Prop} (h : N (x0 :: x1 :: x2 :: x3 :: x4 :: x5 :: some v :: r) H) : gName 6 v (x0 :: x1 :: x2 :: x3 :: x4 :: x5 :: y :: r) H N := h
theorem g_v7 {x0 x1 x2 x3 x4 x5 x6 : Option V} {v : V} {r : L2.St} {H : Hp} {Q : VK} (h : Q v H) : tVar 7 (x0 :: x1 :: x2 :: x3 :: x4 :: x5 :: x6 :: some v :: r) H Q := ⟨v, rfl, h⟩
theorem g_n7 {x0 x1 x2 x3 x4 x5 x6 y : Option V} {v : V} {r : L2.St} {H : Hp} {N : L2.St → Hp → Prop} (h : N (x0 :: x1 :: x2 :: x3 :: x4 :: x5 :: x6 :: some v :: r) H) : gName 7 v (x0 :: x1 :: x2 :: x3 :: x4 :: x5 :: x6 :: y :: r) H N := h
theorem g_v8 {x0 x1 x2 x3 x4 x5 x6 x7 : Option V} {v : V} {r : L2.St} {H : Hp} {Q : VK} (h : Q v H) : tVar 8 (x0 :: x1 :: x2 :: x3 :: x4 :: x5 :: x6 :: x7 :: some v :: r) H Q := ⟨v, rfl, h⟩
theorem g_n8 {x0 x1 x2 x3 x4 x5 x6 x7 y : Option V} {v : V} {r : L2.St} {H : Hp} {N : L2.St → Hp → Prop} (h : N (x0 :: x1 :: x2 :: x3 :: x4 :: x5 :: x6 :: x7 :: some v :: r) H) : gName 8 v (x0 :: x1 :: x2 :: x3 :: x4 :: x5 :: x6 :: x7 :: y :: r) H N := h
theorem g_v9 {x0 x1 x2 x3 x4 x5 x6 x7 x8 : Option V} {v : V} {r : L2.St} {H : Hp} {Q : VK} (h : Q v H) : tVar 9 (x0 :: x1 :: x2 :: x3 :: x4 :: x5 :: x6 :: x7 :: x8 :: some v :: r) H Q := ⟨v, rfl, h⟩
theorem g_n9 {x0 x1 x2 x3 x4 x5 x6 x7 x8 y : Option V} {v : V} {r : L2.St} {H : Hp} {N : L2.St → Hp → Prop} (h : N (x0 :: x1 :: x2 :: x3 :: x4 :: x5 :: x6 :: x7 :: x8 :: some v :: r) H) : gName 9 v (x0 :: x1 :: x2 :: x3 :: x4 :: x5 :: x6 :: x7 :: x8 :: y :: r) H N := h
theorem g_v10 {x0 x1 x2 x3 x4 x5 x6 x7 x8 x9 : Option V} {v : V} {r : L2.St} {H : Hp} {Q : VK} (h : Q v H) : tVar 10 (x0 :: x1 :: x2 :: x3 :: x4 :: x5 :: x6 :: x7 :: x8 :: x9 :: some v :: r) H Q := ⟨v, rfl, h⟩
theorem g_n10 {x0 x1 x2 x3 x4 x5 x6 x7 x8 x9 y : Option V} {v : V} {r : L2.St} {H : Hp} {N : L2.St → Hp → Prop} (h : N (x0 :: x1 :: x2 :: x3 :: x4 :: x5 :: x6 :: x7 :: x8 :: x9 :: some v :: r) H) : gName 10 v (x0 :: x1 :: x2 :: x3 :: x4 :: x5 :: x6 :: x7 :: x8 :: x9 :: y :: r) H N := h
theorem g_v11 {x0 x1 x2 x3 x4 x5 x6 x7 x8 x9 x10 : Option V} {v : V} {r : L2.St} {H : Hp} {Q : VK} (h : Q v H) : tVar 11 (x0 :: x1 :: x2 :: x3 :: x4 :: x5 :: x6 :: x7 :: x8 :: x9 :: x10 :: some v :: r) H Q := ⟨v, rfl, h⟩
theorem g_n11 {x0 x1 x2 x3 x4 x5 x6 x7 x8 x9 x10 y : Option V} {v : V} {r : L2.St} {H : Hp} {N : L2.St → Hp → Prop} (h : N (x0 :: x1 :: x2 :: x3 :: x4 :: x5 :: x6 :: x7 :: x8 :: x9 :: x10 :: some v :: r) H) : gName 11 v (x0 :: x1 :: x2 :: x3 :: x4 :: x5 :: x6 :: x7 :: x8 :: x9 :: x10 :: y :: r) H N := h
theorem g_v12 {x0 x1 x2 x3 x4 x5 x6 x7 x8 x9 x10 x11 : Option V} {v : V} {r : L2.St} {H : Hp} {Q : VK} (h : Q v H) : tVar 12 (x0 :: x1 :: x2 :: x3 :: x4 :: x5 :: x6 :: x7 :: x8 :: x9 :: x10 :: x11 :: some v :: r) H Q := ⟨v, rfl, h⟩
theorem g_n12 {x0 x1 x2 x3 x4 x5 x6 x7 x8 x9 x10 x11 y : Option V} {v : V} {r : L2.St} {H : Hp} {N : L2.St → Hp → Prop} (h : N (x0 :: x1 :: x2 :: x3 :: x4 :: x5 :: x6 :: x7 :: x8 :: x9 :: x10 :: x11 :: some v :: r) H) : gName 12 v (x0 :: x1 :: x2 :: x3 :: x4 :: x5 :: x6 :: x7 :: x8 :: x9 :: x10 :: x11 :: y :: r) H N := h
theorem g_v13 {x0 x1 x2 x3 x4 x5 x6 x7 x8 x9 x10 x11 x12 : Option V} {v : V} {r : L2.St} {H : Hp} {Q : VK} (h : Q v H) : tVar 13 (x0 :: x1 :: x2 :: x3 :: x4 :: x5 :: x6 :: x7 :: x8 :: x9 :: x10 :: x11 :: x12 :: some v :: r) H Q := ⟨v, rfl, h⟩
theorem g_n13 {x0 x1 x2 x3 x4 x5 x6 x7 x8 x9 x10 x11 x12 y : Option V} {v : V} {r : L2.St} {H : Hp} {N : L2.St → Hp → Prop} (h : N (x0 :: x1 :: x2 :: x3 :: x4 :: x5 :: x6 :: x7 :: x8 :: x9 :: x10 :: x11 :: x12 :: some v :: r) H) : gName 13 v (x0 :: x1 :: x2 :: x3 :: x4 :: x5 :: x6 :: x7 :: x8 :: x9 :: x10 :: x11 :: x12 :: y :: r) H N := h
theorem g_v14 {x0 x1 x2 x3 x4 x5 x6 x7 x8 x9 x10 x11 x12 x13 : Option V} {v : V} {r : L2.St} {H : Hp} {Q : VK} (h : Q v H) : tVar 14 (x0 :: x1 :: x2 :: x3 :: x4 :: x5 :: x6 :: x7 :: x8 :: x9 :: x10 :: x11 :: x12 :: x13 :: some v :: r) H Q := ⟨v, rfl, h⟩
theorem g_n14 {x0 x1 x2 x3 x4 x5 x6 x7 x8 x9 x10 x11 x12 x13 y : Option V} {v : V} {r : L2.St} {H : Hp} {N : L2.St → Hp → Prop} (h : N (x0 :: x1 :: x2 :: x3 :: x4 :: x5 :: x6 :: x7 :: x8 :: x9 :: x10 :: x11 :: x12 :: x13 :: some v :: r) H) : gName 14 v (x0 :: x1 :: x2 :: x3 :: x4 :: x5 :: x6 :: x7 :: x8 :: x9 :: x10 :: x11 :: x12 :: x13 :: y :: r) H N := h
theorem g_v15 {x0 x1 x2 x3 x4 x5 x6 x7 x8 x9 x10 x11 x12 x13 x14 : Option V} {v : V} {r : L2.St} {H : Hp} {Q : VK} (h : Q v H) : tVar 15 (x0 :: x1 :: x2 :: x3 :: x4 :: x5 :: x6 :: x7 :: x8 :: x9 :: x10 :: x11 :: x12 :: x13 :: x14 :: some v :: r) H Q := ⟨v, rfl, h⟩
theorem g_n15 {x0 x1 x2 x3 x4 x5 x6 x7 x8 x9 x10 x11 x12 x13 x14 y : Option V} {v : V} {r : L2.St} {H : Hp} {N : L2.St → Hp → Prop} (h : N (x0 :: x1 :: x2 :: x3 :: x4 :: x5 :: x6 :: x7 :: x8 :: x9 :: x10 :: x11 :: x12 :: x13 :: x14 :: some v :: r) H) : gName 15 v (x0 :: x1 :: x2 :: x3 :: x4 :: x5 :: x6 :: x7 :: x8 :: x9 :: x10 :: x11 :: x12 :: x13 :: x14 :: y :: r) H N := h

theorem g_ixL0 {K : PySem.W.Frag} {p : Addr} {H : Hp} {Q : VK} {v : V} {r : List V} (h : SqL K H p (v :: r)) (q : Q v H) : rIxL K (.ref p) (.int 0) H Q := g_ixL h (atI_nat (j := 0) rfl) q
theorem g_setL0 {p : Addr} {H : Hp} {N : Hp → Prop} {y : V} {v : V} {r : List V} (h : H p = some (.lst (y :: r))) (q : N (upd H p (.lst (v :: r)))) : rSetL (.ref p) (.int 0) v H N :=
  ⟨p, _, 0, 0, rfl, rfl, h, by unfold ixN; rw [if_pos (by omega), if_pos (by simp only [List.length_cons]; omega)]; rfl, q⟩
theorem g_ixL1 {K : PySem.W.Frag} {p : Addr} {H : Hp} {Q : VK} {x0 : V} {v : V} {r : List V} (h : SqL K H p (x0 :: v :: r)) (q : Q v H) : rIxL K (.ref p) (.int 1) H Q := g_ixL h (atI_nat (j := 1) rfl) q
theorem g_setL1 {p : Addr} {H : Hp} {N : Hp → Prop} {x0 y : V} {v : V} {r : List V} (h : H p = some (.lst (x0 :: y :: r))) (q : N (upd H p (.lst (x0 :: v :: r)))) : rSetL (.ref p) (.int 1) v H N :=
  ⟨p, _, 1, 1, rfl, rfl, h, by unfold ixN; rw [if_pos (by omega), if_pos (by simp only [List.length_cons]; omega)]; rfl, q⟩
theorem g_ixL2 {K : PySem.W.Frag} {p : Addr} {H : Hp} {Q : VK} {x0 x1 : V} {v : V} {r : List V} (h : SqL K H p (x0 :: x1 :: v :: r)) (q : Q v H) : rIxL K (.ref p) (.int 2) H Q := g_ixL h (atI_nat (j := 2) rfl) q
theorem g_setL2 {p : Addr} {H : Hp} {N : Hp → Prop} {x0 x1 y : V} {v : V} {r : List V} (h : H p = some (.lst (x0 :: x1 :: y :: r))) (q : N (upd H p (.lst (x0 :: x1 :: v :: r)))) : rSetL (.ref p) (.int 2) v H N :=
  ⟨p, _, 2, 2, rfl, rfl, h, by unfold ixN; rw [if_pos (by omega), if_pos (by simp only [List.length_cons]; omega)]; rfl, q⟩
theorem g_ixL3 {K : PySem.W.Frag} {p : Addr} {H : Hp} {Q : VK} {x0 x1 x2 : V} {v : V} {r : List V} (h : SqL K H p (x0 :: x1 :: x2 :: v :: r)) (q : Q v H) : rIxL K (.ref p) (.int 3) H Q := g_ixL h (atI_nat (j := 3) rfl) q
theorem g_setL3 {p : Addr} {H : Hp} {N : Hp → Prop} {x0 x1 x2 y : V} {v : V} {r : List V} (h : H p = some (.lst (x0 :: x1 :: x2 :: y :: r))) (q : N (upd H p (.lst (x0 :: x1 :: x2 :: v :: r)))) : rSetL (.ref p) (.int 3) v H N :=
  ⟨p, _, 3, 3, rfl, rfl, h, by unfold ixN; rw [if_pos (by omega), if_pos (by simp only [List.length_cons]; omega)]; rfl, q⟩
theorem g_ixL4 {K : PySem.W.Frag} {p : Addr} {H : Hp} {Q : VK} {x0 x1 x2 x3 : V} {v : V} {r : List V} (h : SqL K H p (x0 :: x1 :: x2 :: x3 :: v :: r)) (q : Q v H) : rIxL K (.ref p) (.int 4) H Q := g_ixL h (atI_nat (j := 4) rfl) q
theorem g_setL4 {p : Addr} {H : Hp} {N : Hp → Prop} {x0 x1 x2 x3 y : V} {v : V} {r : List V} (h : H p = some (.lst (x0 :: x1 :: x2 :: x3 :: y :: r))) (q : N (upd H p (.lst (x0 :: x1 :: x2 :: x3 :: v :: r)))) : rSetL (.ref p) (.int 4) v H N :=
  ⟨p, _, 4, 4, rfl, rfl, h, by unfold ixN; rw [if_pos (by omega), if_pos (by simp only [List.length_cons]; omega)]; rfl, q⟩
theorem g_ixL5 {K : PySem.W.Frag} {p : Addr} {H : Hp} {Q : VK} {x0 x1 x2 x3 x4 : V} {v : V} {r : List V} (h : SqL K H p (x0 :: x1 :: x2 :: x3 :: x4 :: v :: r)) (q : Q v H) : rIxL K (.ref p) (.int 5) H Q := g_ixL h (atI_nat (j := 5) rfl) q
theorem g_setL5 {p : Addr} {H : Hp} {N : Hp → Prop} {x0 x1 x2 x3 x4 y : V} {v : V} {r : List V} (h : H p = some (.lst (x0 :: x1 :: x2 :: x3 :: x4 :: y :: r))) (q : N (upd H p (.lst (x0 :: x1 :: x2 :: x3 :: x4 :: v :: r)))) : rSetL (.ref p) (.int 5) v H N :=
  ⟨p, _, 5, 5, rfl, rfl, h, by unfold ixN; rw [if_pos (by omega), if_pos (by simp only [List.length_cons]; omega)]; rfl, q⟩
theorem g_ixL6 {K : PySem.W.Frag} {p : Addr} {H : Hp} {Q : VK} {x0 x1 x2 x3 x4 x5 : V} {v : V} {r : List V} (h : SqL K H p (x0 :: x1 :: x2 :: x3 :: x4 :: x5 :: v :: r)) (q : Q v H) : rIxL K (.ref p) (.int 6) H Q := g_ixL h (atI_nat (j := 6) rfl) q
theorem g_setL6 {p : Addr} {H : Hp} {N : Hp → Prop} {x0 x1 x2 x3 x4 x5 y : V} {v : V} {r : List V} (h : H p = some (.lst (x0 :: x1 :: x2 :: x3 :: x4 :: x5 :: y :: r))) (q : N (upd H p (.lst (x0 :: x1 :: x2 :: x3 :: x4 :: x5 :: v :: r)))) : rSetL (.ref p) (.int 6) v H N :=
  ⟨p, _, 6, 6, rfl, rfl, h, by unfold ixN; rw [if_pos (by omega), if_pos (by simp only [List.length_cons]; omega)]; rfl, q⟩
theorem g_ixL7 {K : PySem.W.Frag} {p : Addr} {H : Hp} {Q : VK} {x0 x1 x2 x3 x4 x5 x6 : V} {v : V} {r : List V} (h : SqL K H p (x0 :: x1 :: x2 :: x3 :: x4 :: x5 :: x6 :: v :: r)) (q : Q v H) : rIxL K (.ref p) (.int 7) H Q := g_ixL h (atI_nat (j := 7) rfl) q
theorem g_setL7 {p : Addr} {H : Hp} {N : Hp → Prop} {x0 x1 x2 x3 x4 x5 x6 y : V} {v : V} {r : List V} (h : H p = some (.lst (x0 :: x1 :: x2 :: x3 :: x4 :: x5 :: x6 :: y :: r))) (q : N (upd H p (.lst (x0 :: x1 :: x2 :: x3 :: x4 :: x5 :: x6 :: v :: r)))) : rSetL (.ref p) (.int 7) v H N :=
  ⟨p, _, 7, 7, rfl, rfl, h, by unfold ixN; rw [if_pos (by omega), if_pos (by simp only [List.length_cons]; omega)]; rfl, q⟩
theorem g_ixL8 {K : PySem.W.Frag} {p : Addr} {H : Hp} {Q : VK} {x0 x1 x2 x3 x4 x5 x6 x7 : V} {v : V} {r : List V} (h : SqL K H p (x0 :: x1 :: x2 :: x3 :: x4 :: x5 :: x6 :: x7 :: v :: r)) (q : Q v H) : rIxL K (.ref p) (.int 8) H Q := g_ixL h (atI_nat (j := 8) rfl) q
theorem g_setL8 {p : Addr} {H : Hp} {N : Hp → Prop} {x0 x1 x2 x3 x4 x5 x6 x7 y : V} {v : V} {r : List V} (h : H p = some (.lst (x0 :: x1 :: x2 :: x3 :: x4 :: x5 :: x6 :: x7 :: y :: r))) (q : N (upd H p (.lst (x0 :: x1 :: x2 :: x3 :: x4 :: x5 :: x6 :: x7 :: v :: r)))) : rSetL (.ref p) (.int 8) v H N :=
  ⟨p, _, 8, 8, rfl, rfl, h, by unfold ixN; rw [if_pos (by omega), if_pos (by simp only [List.length_cons]; omega)]; rfl, q⟩
theorem g_ixL9 {K : PySem.W.Frag} {p : Addr} {H : Hp} {Q : VK} {x0 x1 x2 x3 x4 x5 x6 x7 x8 : V} {v : V} {r : List V} (h : SqL K H p (x0 :: x1 :: x2 :: x3 :: x4 :: x5 :: x6 :: x7 :: x8 :: v :: r)) (q : Q v H) : rIxL K (.ref p) (.int 9) H Q := g_ixL h (atI_nat (j := 9) rfl) q
theorem g_setL9 {p : Addr} {H : Hp} {N : Hp → Prop} {x0 x1 x2 x3 x4 x5 x6 x7 x8 y : V} {v : V} {r : List V} (h : H p = some (.lst (x0 :: x1 :: x2 :: x3 :: x4 :: x5 :: x6 :: x7 :: x8 :: y :: r))) (q : N (upd H p (.lst (x0 :: x1 :: x2 :: x3 :: x4 :: x5 :: x6 :: x7 :: x8 :: v :: r)))) : rSetL (.ref p) (.int 9) v H N :=
  ⟨p, _, 9, 9, rfl, rfl, h, by unfold ixN; rw [if_pos (by omega), if_pos (by simp only [List.length_cons]; omega)]; rfl, q⟩

theorem Chg.put {a : Addr} {H H1 : Hp} {o : HO} (h : Chg a H H1) : Chg a H (L2.upd H1 a o) := h.trans Chg.upd
theorem Chg.lay {a p : Addr} {H H1 : Hp} {o : HO} (h : Chg a H H1) (hp : H1 p = none) : Chg a H (L2.upd H1 p o) := h.trans (Chg.new hp)
theorem Chg.putn {a D : Addr} {H H1 : Hp} {o : HO} (h : Chg a H H1) (hD : H D = none) : Chg a H (L2.upd H1 D o) := fun b u n e => by
  rw [upd_ne (ne_of_none e hD)]
  exact h b u n e
theorem Same.lay {p : Addr} {H H1 : Hp} {o : HO} (h : Same H H1) (hp : H1 p = none) : Same H (L2.upd H1 p o) := h.trans (same_new hp)

theorem g_cut {t u : TS} {D : Ends} {σ : L2.St} {H : Hp} (Mid : L2.St → Hp → Prop) (h1 : t { D with nx := Mid } σ H) (h2 : ∀ σ' H', Mid σ' H' → u D σ' H') : C8.tCut t u D σ H := ⟨Mid, h1, h2⟩
/-! ### heaps -/
theorem h_same {H : Hp} {a : Addr} {o u : HO} (e : o = u) : upd H a o a = some u := by rw [upd_same, e]
theorem h_ne {H : Hp} {a b : Addr} {o u : HO} (n : b ≠ a) (h : H b = some u) : upd H a o b = some u := by rw [upd_ne n]; exact h
theorem h_chg {H H' : Hp} {a b : Addr} {u : HO} (c : Chg a H H') (n : b ≠ a) (h : H b = some u) : H' b = some u := c b u n h
theorem h_sm {H H' : Hp} {b : Addr} {u : HO} (c : Same H H') (h : H b = some u) : H' b = some u := c b u h
/-! ### the rules that speak of the written part, with that part as a letter -/
section
variable {X : Cx} {K : PySem.W.Frag}
def qIx (K : PySem.W.Frag) : R2 := fun x y H Q => ∃ p xs i v, x = .ref p ∧ y = .int i ∧ (SqL K H p xs ∨ SqT K H p xs) ∧ atI xs i = some v ∧ Q v H
theorem k_ix (e : X.K = K) : IxR X (qIx K) := by
  subst e
  intro value slice pins s σ H x y v u Q I rx ry h hs
  obtain ⟨p, xs, i, z, e1, e2, h1 | h1, h2, h3⟩ := h
  · exact ix_list value slice pins s σ H x y v u Q I rx ry ⟨p, xs, i, z, e1, e2, h1, h2, h3⟩ hs
  · exact ix_tup value slice pins s σ H x y v u Q I rx ry ⟨p, xs, i, z, e1, e2, h1, h2, h3⟩ hs
theorem g_qix {H : Hp} {Q : VK} {p : Addr} {xs : List V} {i : Int} {v : V} (h : SqL K H p xs ∨ SqT K H p xs) (e : atI xs i = some v) (q : Q v H) : qIx K (.ref p) (.int i) H Q := ⟨p, xs, i, v, rfl, rfl, h, e, q⟩
theorem k_in (e : X.K = K) : OpR X (compareOp .In) (rIn K false) := by subst e; exact op_in_seq
theorem k_notin (e : X.K = K) : OpR X (compareOp .NotIn) (rIn K true) := by subst e; exact op_notIn_seq
theorem k_isi (e : X.K = K) : CallR X (.builtin "isinstance") (rIsi K) := by subst e; exact call_isi
theorem k_isiT (e : X.K = K) : CallR X (.builtin "isinstance") (rIsiT K) := by subst e; exact call_isiT
theorem k_len (e : X.K = K) : CallR X (.builtin "len") (qLen K) := by subst e; exact c_len
theorem k_list (e : X.K = K) : CallR X (.type "list") (qList K) := by subst e; exact c_list
theorem k_tuple (e : X.K = K) : CallR X (.type "tuple") (qTuple K) := by subst e; exact c_tuple
theorem k_sum (e : X.K = K) (c : X.calm = true) : CallR X (.builtin "sum") (rSum K) := by subst e; exact cr_sum c
theorem k_any (e : X.K = K) (c : X.calm = true) : CallR X (.builtin "any") (rAny K) := by subst e; exact cr_any c
theorem k_all (e : X.K = K) (c : X.calm = true) : CallR X (.builtin "all") (rAll K) := by subst e; exact cr_all c
theorem k_max (e : X.K = K) (c : X.calm = true) : CallR X (.builtin "max") (rMax K) := by subst e; exact cr_max c
theorem k_min (e : X.K = K) (c : X.calm = true) : CallR X (.builtin "min") (rMin K) := by subst e; exact cr_min c
theorem k_sl (e : X.K = K) : SlR X (rSlL K) := by subst e; exact sl_list
theorem k_index (e : X.K = K) : MtR X "list.index" (rIndex K) := by subst e; exact mt_index
theorem k_eqD (e : X.K = K) (hu : X.A.units + 64 < cLine) : OpR X (compareOp .Eq) (rEqD K) := by subst e; exact op_eqD hu
theorem k_neD (e : X.K = K) (hu : X.A.units + 64 < cLine) : OpR X (compareOp .NotEq) (rNeD K) := by subst e; exact op_neD hu
theorem k_pil {tg l : Expr} {tl : TE} (e : X.K = K) (hl : PE X l tl) : PI X tg l (iList K tl) := by subst e; exact pi_list hl
theorem k_pit {tg l : Expr} {tl : TE} (e : X.K = K) (hl : PE X l tl) : PI X tg l (iTup K tl) := by subst e; exact pi_tup hl
theorem k_pgt {es : List Expr} {k : Nat} {t : TGs} {n : Nat} {pos : Pos} (e : X.K = K) (hc : X.calm = true) (h : PGs X es t)
    (hn : (assignEach es X.env).length = n) (hst : (assignEach es X.env).findIdx? (·.1) = none) : PG X (.Tuple es k pos) (gTup K n t) := by subst e; exact pg_tup hc h hn hst
end
theorem g_qix0 {K : PySem.W.Frag} {p : Addr} {H : Hp} {Q : VK} {v : V} {r : List V} (h : SqL K H p (v :: r) ∨ SqT K H p (v :: r)) (q : Q v H) : qIx K (.ref p) (.int 0) H Q := g_qix h (atI_nat (j := 0) rfl) q
theorem g_qix1 {K : PySem.W.Frag} {p : Addr} {H : Hp} {Q : VK} {x0 : V} {v : V} {r : List V} (h : SqL K H p (x0 :: v :: r) ∨ SqT K H p (x0 :: v :: r)) (q : Q v H) : qIx K (.ref p) (.int 1) H Q := g_qix h (atI_nat (j := 1) rfl) q
theorem g_qix2 {K : PySem.W.Frag} {p : Addr} {H : Hp} {Q : VK} {x0 x1 : V} {v : V} {r : List V} (h : SqL K H p (x0 :: x1 :: v :: r) ∨ SqT K H p (x0 :: x1 :: v :: r)) (q : Q v H) : qIx K (.ref p) (.int 2) H Q := g_qix h (atI_nat (j := 2) rfl) q
theorem g_qix3 {K : PySem.W.Frag} {p : Addr} {H : Hp} {Q : VK} {x0 x1 x2 : V} {v : V} {r : List V} (h : SqL K H p (x0 :: x1 :: x2 :: v :: r) ∨ SqT K H p (x0 :: x1 :: x2 :: v :: r)) (q : Q v H) : qIx K (.ref p) (.int 3) H Q := g_qix h (atI_nat (j := 3) rfl) q
theorem g_qix4 {K : PySem.W.Frag} {p : Addr} {H : Hp} {Q : VK} {x0 x1 x2 x3 : V} {v : V} {r : List V} (h : SqL K H p (x0 :: x1 :: x2 :: x3 :: v :: r) ∨ SqT K H p (x0 :: x1 :: x2 :: x3 :: v :: r)) (q : Q v H) : qIx K (.ref p) (.int 4) H Q := g_qix h (atI_nat (j := 4) rfl) q
theorem g_qix5 {K : PySem.W.Frag} {p : Addr} {H : Hp} {Q : VK} {x0 x1 x2 x3 x4 : V} {v : V} {r : List V} (h : SqL K H p (x0 :: x1 :: x2 :: x3 :: x4 :: v :: r) ∨ SqT K H p (x0 :: x1 :: x2 :: x3 :: x4 :: v :: r)) (q : Q v H) : qIx K (.ref p) (.int 5) H Q := g_qix h (atI_nat (j := 5) rfl) q
theorem g_qix6 {K : PySem.W.Frag} {p : Addr} {H : Hp} {Q : VK} {x0 x1 x2 x3 x4 x5 : V} {v : V} {r : List V} (h : SqL K H p (x0 :: x1 :: x2 :: x3 :: x4 :: x5 :: v :: r) ∨ SqT K H p (x0 :: x1 :: x2 :: x3 :: x4 :: x5 :: v :: r)) (q : Q v H) : qIx K (.ref p) (.int 6) H Q := g_qix h (atI_nat (j := 6) rfl) q
theorem g_qix7 {K : PySem.W.Frag} {p : Addr} {H : Hp} {Q : VK} {x0 x1 x2 x3 x4 x5 x6 : V} {v : V} {r : List V} (h : SqL K H p (x0 :: x1 :: x2 :: x3 :: x4 :: x5 :: x6 :: v :: r) ∨ SqT K H p (x0 :: x1 :: x2 :: x3 :: x4 :: x5 :: x6 :: v :: r)) (q : Q v H) : qIx K (.ref p) (.int 7) H Q := g_qix h (atI_nat (j := 7) rfl) q
theorem g_qix8 {K : PySem.W.Frag} {p : Addr} {H : Hp} {Q : VK} {x0 x1 x2 x3 x4 x5 x6 x7 : V} {v : V} {r : List V} (h : SqL K H p (x0 :: x1 :: x2 :: x3 :: x4 :: x5 :: x6 :: x7 :: v :: r) ∨ SqT K H p (x0 :: x1 :: x2 :: x3 :: x4 :: x5 :: x6 :: x7 :: v :: r)) (q : Q v H) : qIx K (.ref p) (.int 8) H Q := g_qix h (atI_nat (j := 8) rfl) q
theorem g_qix9 {K : PySem.W.Frag} {p : Addr} {H : Hp} {Q : VK} {x0 x1 x2 x3 x4 x5 x6 x7 x8 : V} {v : V} {r : List V} (h : SqL K H p (x0 :: x1 :: x2 :: x3 :: x4 :: x5 :: x6 :: x7 :: x8 :: v :: r) ∨ SqT K H p (x0 :: x1 :: x2 :: x3 :: x4 :: x5 :: x6 :: x7 :: x8 :: v :: r)) (q : Q v H) : qIx K (.ref p) (.int 9) H Q := g_qix h (atI_nat (j := 9) rfl) q
theorem chg_same {H H' : Hp} {D : Addr} (c : Chg D H H') (hD : H D = none) : Same H H' := fun b o e => c b o (ne_of_none e hD) e
theorem seqT_same {K : PySem.W.Frag} {H H' : Hp} {a : Addr} {xs : List V} (s : Same H H') (h : SqT K H a xs) : SqT K H' a xs := by
  rcases h with (h | ⟨o, h⟩) | h
  · exact .inl (.inl (s _ _ h))
  · exact .inl (.inr ⟨o, s _ _ h⟩)
  · exact .inr h
theorem lt_same {K : PySem.W.Frag} {H H' : Hp} {a : Addr} {xs : List V} (s : Same H H') (h : SqL K H a xs ∨ SqT K H a xs) : SqL K H' a xs ∨ SqT K H' a xs := by
  rcases h with h | h
  · exact .inl (s.seq h)
  · exact .inr (seqT_same s h)
/-! ### a conditional expression as a test -/
def tIfT (t ta tb : TT) : TT := fun σ H Q => t σ H fun k H1 => if k = true then ta σ H1 Q else tb σ H1 Q
theorem pt_ifE {X : Cx} {c a b : Expr} {pos : Pos} {t ta tb : TT} (hc : PT X c t) (ha : PT X a ta) (hb : PT X b tb) : PT X (.IfExp c a b pos) (tIfT t ta tb) := by
  refine ⟨fun pins s σ H Q I hw => PyProof.Rows.isTrue_IfExp (thn (hc.run pins s σ H _ I hw) fun k s1 ⟨H1, I1, q1⟩ => ?_)⟩
  cases k with
  | true => exact ha.run pins s1 σ H1 Q I1 (by simpa using q1)
  | false => exact hb.run pins s1 σ H1 Q I1 (by simpa using q1)
theorem g_ifT {t ta tb : TT} {σ : L2.St} {H : Hp} {Q : Bool → Hp → Prop} (h : t σ H fun k H1 => if k = true then ta σ H1 Q else tb σ H1 Q) : tIfT t ta tb σ H Q := h
/-! ### list(range(..)) -/
section
variable {σ : L2.St} {H : Hp} {Q : VK}
def RgNew (Q : VK) (a b : Int) (H1 : Hp) : Prop := RgOk a b ∧ ∀ q, H1 q = none → Q (.ref q) (upd H1 q (.lst (rgV a b)))
theorem g_lstRg {te : L2.St → Hp → (Int → Int → Hp → Prop) → Prop} (h : te σ H (RgNew Q)) : tLstRg te σ H Q := h
def Rg1R (R : Int → Int → Hp → Prop) (x : V) (H : Hp) : Prop := ∃ n, x = .int n ∧ R 0 n H
theorem g_tRg1 {ta : TE} {R : Int → Int → Hp → Prop} (h : ta σ H (Rg1R R)) : tRg1 ta σ H R := h
theorem g_rg1R {R : Int → Int → Hp → Prop} {n : Int} (h : R 0 n H) : Rg1R R (.int n) H := ⟨n, rfl, h⟩
theorem g_rgNew {a b : Int} (c : 0 ≤ a ∧ b ≤ 16777216 ∧ a ≤ 16777216 ∧ 0 ≤ b) (h : ∀ q, H q = none → Q (.ref q) (upd H q (.lst (rgV a b)))) : RgNew Q a b H := ⟨.of_le c.1 c.2.1 c.2.2.1 c.2.2.2, h⟩
end
/-! ### lists of ints compared -/
def dInts (ns : List Int) : List PyData := ns.map PyData.int
theorem dp_ints {K : PySem.W.Frag} {H : Hp} : ∀ ns : List Int, DpAll K H (ns.map V.int) (dInts ns)
  | [] => .nil
  | n :: r => .cons (.int n) (dp_ints r)
theorem can_ints : ∀ ns : List Int, (PyData.list (dInts ns)).canLay0 = true ∧ PyData.depthAll (dInts ns) = 0
  | [] => ⟨rfl, rfl⟩
  | n :: r => by
    obtain ⟨h1, h2⟩ := can_ints r
    refine ⟨?_, ?_⟩
    · show (PyData.canLay0 (.int n) && PyData.canLayAll0 (dInts r)) = true
      rw [show PyData.canLayAll0 (dInts r) = true from h1]
      rfl
    · show max (PyData.depth (.int n)) (PyData.depthAll (dInts r)) = 0
      rw [h2]
      rfl
theorem shaped_ints (ns : List Int) : SeqAt.shaped (.list (dInts ns)) = true := by
  obtain ⟨h1, h2⟩ := can_ints ns
  unfold SeqAt.shaped
  rw [h1, Bool.true_and]
  exact decide_eq_true (by show PyData.depthAll (dInts ns) + 1 ≤ 64; rw [h2]; decide)
theorem eqv_ints : ∀ a b : List Int, PyData.eqvAll (dInts a) (dInts b) = decide (a = b)
  | [], [] => rfl
  | [], _ :: _ => rfl
  | _ :: _, [] => rfl
  | x :: a, y :: b => by
    show (x == y && PyData.eqvAll (dInts a) (dInts b)) = decide (x :: a = y :: b)
    rw [eqv_ints a b]
    by_cases e : x = y
    · subst e; simp
    · simp [e]
theorem g_eqDI {K : PySem.W.Frag} {H : Hp} {Q : VK} {p q : Addr} {a b : List Int} (h1 : SqL K H p (a.map V.int)) (h2 : SqL K H q (b.map V.int)) (h : Q (.bl (decide (a = b))) H) : rEqD K (.ref p) (.ref q) H Q :=
  ⟨.list (dInts a), .list (dInts b), .lst h1 (dp_ints a), .lst h2 (dp_ints b), shaped_ints a, shaped_ints b, by
    have e : PyData.eqv (.list (dInts a)) (.list (dInts b)) = decide (a = b) := eqv_ints a b
    rw [e]; exact h⟩
theorem g_neDI {K : PySem.W.Frag} {H : Hp} {Q : VK} {p q : Addr} {a b : List Int} (h1 : SqL K H p (a.map V.int)) (h2 : SqL K H q (b.map V.int)) (h : Q (.bl (!decide (a = b))) H) : rNeD K (.ref p) (.ref q) H Q :=
  ⟨.list (dInts a), .list (dInts b), .lst h1 (dp_ints a), .lst h2 (dp_ints b), shaped_ints a, shaped_ints b, by
    have e : PyData.eqv (.list (dInts a)) (.list (dInts b)) = decide (a = b) := eqv_ints a b
    rw [e]; exact h⟩
theorem sqL_new {K : PySem.W.Frag} {H : Hp} {p a : Addr} {o : HO} {xs : List V} (hp : H p = none) (h : SqL K H a xs) : SqL K (upd H p o) a xs := (same_new hp).seq h
theorem sqT_new {K : PySem.W.Frag} {H : Hp} {p a : Addr} {o : HO} {xs : List V} (hp : H p = none) (h : SqT K H a xs) : SqT K (upd H p o) a xs := seqT_same (same_new hp) h
theorem sqL_sm {K : PySem.W.Frag} {H H' : Hp} {a : Addr} {xs : List V} (s : L2.Same H H') (h : SqL K H a xs) : SqL K H' a xs := s.seq h
theorem tyL {K : PySem.W.Frag} {H : Hp} {a : Addr} {xs : List V} (h : SqL K H a xs) : TyX K H (.ref a) (.type "list") := by
  rcases h with (h | ⟨o, h⟩) | ⟨o, its, n, h, c, _⟩
  · exact .base (.lst h)
  · exact .base (.frz h)
  · exact .kList h c
theorem tyT {K : PySem.W.Frag} {H : Hp} {a : Addr} {xs : List V} (h : SqT K H a xs) : TyX K H (.ref a) (.type "tuple") := by
  rcases h with (h | ⟨o, h⟩) | ⟨o, its, n, h, c, _⟩
  · exact .base (.tup h)
  · exact .fTuple h
  · exact .kTuple h c
/-! ### isinstance -/
theorem kb_int_int : kitB "int" "int" = some true := by decide +kernel
theorem kb_int_str : kitB "int" "str" = some false := by decide +kernel
theorem kb_int_bool : kitB "int" "bool" = some false := by decide +kernel
theorem kb_int_list : kitB "int" "list" = some false := by decide +kernel
theorem kb_int_tuple : kitB "int" "tuple" = some false := by decide +kernel
theorem kb_str_int : kitB "str" "int" = some false := by decide +kernel
theorem kb_str_str : kitB "str" "str" = some true := by decide +kernel
theorem kb_str_bool : kitB "str" "bool" = some false := by decide +kernel
theorem kb_str_list : kitB "str" "list" = some false := by decide +kernel
theorem kb_str_tuple : kitB "str" "tuple" = some false := by decide +kernel
theorem kb_bool_int : kitB "bool" "int" = some true := by decide +kernel
theorem kb_bool_str : kitB "bool" "str" = some false := by decide +kernel
theorem kb_bool_bool : kitB "bool" "bool" = some true := by decide +kernel
theorem kb_bool_list : kitB "bool" "list" = some false := by decide +kernel
theorem kb_bool_tuple : kitB "bool" "tuple" = some false := by decide +kernel
theorem kb_NoneType_int : kitB "NoneType" "int" = some false := by decide +kernel
theorem kb_NoneType_str : kitB "NoneType" "str" = some false := by decide +kernel
theorem kb_NoneType_bool : kitB "NoneType" "bool" = some false := by decide +kernel
theorem kb_NoneType_list : kitB "NoneType" "list" = some false := by decide +kernel
theorem kb_NoneType_tuple : kitB "NoneType" "tuple" = some false := by decide +kernel
theorem kb_list_int : kitB "list" "int" = some false := by decide +kernel
theorem kb_list_str : kitB "list" "str" = some false := by decide +kernel
theorem kb_list_bool : kitB "list" "bool" = some false := by decide +kernel
theorem kb_list_list : kitB "list" "list" = some true := by decide +kernel
theorem kb_list_tuple : kitB "list" "tuple" = some false := by decide +kernel
theorem kb_tuple_int : kitB "tuple" "int" = some false := by decide +kernel
theorem kb_tuple_str : kitB "tuple" "str" = some false := by decide +kernel
theorem kb_tuple_bool : kitB "tuple" "bool" = some false := by decide +kernel
theorem kb_tuple_list : kitB "tuple" "list" = some false := by decide +kernel
theorem kb_tuple_tuple : kitB "tuple" "tuple" = some true := by decide +kernel
theorem g_isi {K : PySem.W.Frag} {H : Hp} {Q : VK} {x : V} {t T : String} {b : Bool} (ty : TyX K H x (.type t)) (hb : kitB t T = some b) (h : Q (.bl b) H) : rIsi K [x, .ty T] H Q :=
  ⟨x, .ty T, .type t, .type T, b, rfl, .ty T, ty, kit_ty hb, h⟩
theorem g_isiT2 {K : PySem.W.Frag} {H : Hp} {Q : VK} {x : V} {tp : Addr} {t T1 T2 : String} {b1 b2 : Bool} (e : H tp = some (.tup [.ty T1, .ty T2])) (ty : TyX K H x (.type t)) (h1 : kitB t T1 = some b1) (h2 : kitB t T2 = some b2)
    (h : Q (.bl (b1 || b2)) H) : rIsiT K [x, .ref tp] H Q := by
  refine ⟨x, tp, [.ty T1, .ty T2], .type t, [.type T1, .type T2], b1 || b2, rfl, e, .cons (.ty _) (.cons (.ty _) .nil), ty, ?_, h⟩
  refine kitAny_cons (kit_ty h1) (fun z => ?_) (fun z => by rw [z]; rfl)
  rw [z, Bool.false_or]
  exact kitAny_cons (kit_ty h2) (fun z => by rw [z]; exact kitAny_nil) (fun z => z)
/-! ### comprehensions and loops -/
section
variable {K : PySem.W.Frag} {g : TG} {tt : TT} {te : TE} {tb : TS} {vs : List Nat} {D0 : Ends} {σ σ0 : L2.St} {H : Hp} {Q : VK} {J : It} {a : Addr}
/-- one turn of a comprehension: the item x, the block's slots σ0, the list at D so far -/
def TurnD (D : Addr) (N : Hp → Prop) (y : V) (H4 : Hp) : Prop := ∃ acc, H4 D = some (.lst acc) ∧ acc.length < sizeLine ∧ N (upd H4 D (.lst (acc ++ [y])))
def TurnC (te : TE) (σ2 : L2.St) (D : Addr) (N : Hp → Prop) (b : Bool) (H3 : Hp) : Prop := if b = true then te σ2 H3 (TurnD D N) else N H3
def TurnB (tt : TT) (te : TE) (vs : List Nat) (σ0 : L2.St) (D : Addr) (N : Hp → Prop) (σ2 : L2.St) (H2 : Hp) : Prop := wipe σ2 vs = σ0 ∧ tt σ2 H2 (TurnC te σ2 D N)
def Turn1 (g : TG) (tt : TT) (te : TE) (vs : List Nat) (σ0 : L2.St) (D : Addr) (x : V) (H : Hp) (N : Hp → Prop) : Prop := g x σ0 H (TurnB tt te vs σ0 D N)
theorem g_turn1 {D : Addr} {x : V} {N : Hp → Prop} (h : g x σ0 H (TurnB tt te vs σ0 D N)) : Turn1 g tt te vs σ0 D x H N := h
theorem g_turnB {D : Addr} {N : Hp → Prop} (e : wipe σ vs = σ0) (h : tt σ H (TurnC te σ D N)) : TurnB tt te vs σ0 D N σ H := ⟨e, h⟩
theorem g_turnCt {D : Addr} {N : Hp → Prop} (h : te σ H (TurnD D N)) : TurnC te σ D N true H := by unfold TurnC; rw [if_pos rfl]; exact h
theorem g_turnC {D : Addr} {N : Hp → Prop} {p : Prop} [Decidable p] (h1 : p → te σ H (TurnD D N)) (h2 : ¬ p → N H) : TurnC te σ D N (decide p) H := by
  unfold TurnC
  exact g_iteD h1 h2
theorem g_turnCb {D : Addr} {N : Hp → Prop} {b : Bool} (h1 : b = true → te σ H (TurnD D N)) (h2 : b = false → N H) : TurnC te σ D N b H := by
  unfold TurnC
  exact g_iteBB h1 h2
theorem g_turnD {D : Addr} {N : Hp → Prop} {y : V} {acc : List V} (h : H D = some (.lst acc)) (l : acc.length ≤ 1000) (q : N (upd H D (.lst (acc ++ [y])))) : TurnD D N y H := ⟨acc, h, small1000 l, q⟩
def LcG (J : It) (g : TG) (tt : TT) (te : TE) (vs : List Nat) (σ : L2.St) (Q : VK) (H1 : Hp) : Prop := ∀ D, H1 D = none → ∃ W : Nat → Nat → Hp → Prop,
  (∃ m, W 0 m (upd H1 D (.lst []))) ∧ ∀ i m H, W i m H → (J.stop i H ∧ Q (.ref D) H) ∨ (J.go i H ∧ ∃ Nx : Hp → Prop,
    (∀ H', Nx H' → ∃ m', m' < m ∧ W (i + 1) m' H') ∧ ∀ x H', J.yld i H x H' → Turn1 g tt te vs (wipe σ vs) D x H' Nx)
theorem g_lc {wi : TI} (h : wi σ H fun J H1 => LcG J g tt te vs σ Q H1) : tLc wi g tt te vs σ H Q := h
def ForG (J : It) (g : TG) (tb : TS) (D : Ends) (σ : L2.St) (H1 : Hp) : Prop := ∃ W : Nat → Nat → L2.St → Hp → Prop, (∃ m, W 0 m σ H1) ∧ ∀ i m σ H, W i m σ H →
  (J.stop i H ∧ D.nx σ H) ∨ (J.go i H ∧ ∃ N : L2.St → Hp → Prop, (∀ σ' H', N σ' H' → ∃ m', m' < m ∧ W (i + 1) m' σ' H') ∧
    ∀ x H', J.yld i H x H' → g x σ H' fun σ2 H2 => tb { D with nx := N, ct := N, bk := D.nx } σ2 H2)
theorem g_for {wi : TI} (h : wi σ H fun J H1 => ForG J g tb D0 σ H1) : tFor wi g tb D0 σ H := h
variable {R : It → Hp → Prop}
def Rng1R (ws : List V) (R : It → Hp → Prop) (H : Hp) : Prop := ∃ j : Int, ws = [.int j] ∧ -(2 ^ 62) ≤ j ∧ j < 2 ^ 62 ∧ R (Itr 0 j.toNat) H
theorem g_iRng1 {ta : TA} (h : ta σ H fun ws H1 => Rng1R ws R H1) : iRng1 ta σ H R := h
theorem g_rng1 {v : Int} (c : -(2 ^ 62) ≤ v ∧ v < 2 ^ 62) (h : R (Itr 0 v.toNat) H) : Rng1R [.int v] R H := ⟨v, rfl, c.1, c.2, h⟩
def Rng2R (ws : List V) (R : It → Hp → Prop) (H : Hp) : Prop := ∃ i j : Int, ws = [.int i, .int j] ∧ (-(2 ^ 62) ≤ i ∧ i < 2 ^ 62 ∧ -(2 ^ 62) ≤ j ∧ j < 2 ^ 62) ∧ R (Itr i (j - i).toNat) H
theorem g_iRng2 {ta : TA} (h : ta σ H fun ws H1 => Rng2R ws R H1) : iRng2 ta σ H R := h
theorem g_rng2 {i j : Int} (c : -(2 ^ 62) ≤ i ∧ i < 2 ^ 62 ∧ -(2 ^ 62) ≤ j ∧ j < 2 ^ 62) (h : R (Itr i (j - i).toNat) H) : Rng2R [.int i, .int j] R H := ⟨i, j, rfl, c, h⟩
def LstR (K : PySem.W.Frag) (x : V) (R : It → Hp → Prop) (H : Hp) : Prop := ∃ a, x = .ref a ∧ (∃ xs, SqL K H a xs) ∧ R (Itl K a) H
theorem g_iList {tl : TE} (h : tl σ H fun x H1 => LstR K x R H1) : iList K tl σ H R := h
theorem g_lstR {xs : List V} (c : SqL K H a xs) (h : R (Itl K a) H) : LstR K (.ref a) R H := ⟨a, rfl, ⟨xs, c⟩, h⟩
def TupR (K : PySem.W.Frag) (x : V) (R : It → Hp → Prop) (H : Hp) : Prop := ∃ a, x = .ref a ∧ (∃ xs, SqT K H a xs) ∧ R (Itt K a) H
theorem g_iTup {tl : TE} (h : tl σ H fun x H1 => TupR K x R H1) : iTup K tl σ H R := h
theorem g_tupR {xs : List V} (c : SqT K H a xs) (h : R (Itt K a) H) : TupR K (.ref a) R H := ⟨a, rfl, ⟨xs, c⟩, h⟩
def WhB (tb : TS) (D : Ends) (W : Nat → L2.St → Hp → Prop) (m : Nat) (σ : L2.St) (b : Bool) (H1 : Hp) : Prop :=
  if b = true then ∃ N : L2.St → Hp → Prop, (∀ σ' H', N σ' H' → ∃ m', m' < m ∧ W m' σ' H') ∧ tb { D with nx := N, ct := N, bk := D.nx } σ H1 else D.nx σ H1
theorem g_while {c : TT} (W : Nat → L2.St → Hp → Prop) (h0 : ∃ m, W m σ H) (hs : ∀ m σ H, W m σ H → c σ H (WhB tb D0 W m σ)) : tWhile c tb D0 σ H := ⟨W, h0, hs⟩
theorem g_whB {W : Nat → L2.St → Hp → Prop} {m : Nat} {p : Prop} [Decidable p] (h1 : p → tb { D0 with nx := fun σ' H' => ∃ m', m' < m ∧ W m' σ' H', ct := fun σ' H' => ∃ m', m' < m ∧ W m' σ' H', bk := D0.nx } σ H)
    (h2 : ¬ p → D0.nx σ H) : WhB tb D0 W m σ (decide p) H := by
  unfold WhB
  exact g_iteD (fun h => ⟨_, fun _ _ z => z, h1 h⟩) h2
/-- a comprehension over a range: Pv by the turns done and the heap, the new list at D -/
theorem lcR {lo : Int} {n : Nat} (hw : wipe σ vs = σ0) (h : ∀ D, H D = none → ∃ Pv : Nat → Hp → Prop, Pv 0 (upd H D (.lst [])) ∧
    (∀ (i : Nat) (H' : Hp), i < n → Pv i H' → Turn1 g tt te vs σ0 D (.int (lo + i)) H' (Pv (i + 1))) ∧ ∀ H', Pv n H' → Q (.ref D) H') : LcG (Itr lo n) g tt te vs σ Q H := by
  subst hw
  intro D hD
  obtain ⟨Pv, h0, hs, hd⟩ := h D hD
  refine ⟨fun i m H => m = n - i ∧ i ≤ n ∧ Pv i H, ⟨n, by simp, Nat.zero_le _, h0⟩, ?_⟩
  rintro i m H ⟨rfl, hi, p⟩
  rcases Nat.lt_or_ge i n with hlt | hge
  · exact .inr ⟨hlt, Pv (i + 1), fun H' p' => ⟨n - (i + 1), by omega, rfl, hlt, p'⟩, fun x H' ⟨e1, e2⟩ => by subst e1 e2; exact hs i _ hlt p⟩
  · have e : i = n := by omega
    subst e
    exact .inl ⟨Nat.le_refl _, hd H p⟩
theorem lcL {xs : List V} (hw : wipe σ vs = σ0) (h : ∀ D, H D = none → ∃ Pv : Nat → Hp → Prop, Pv 0 (upd H D (.lst [])) ∧ (∀ i H', i ≤ xs.length → Pv i H' → SqL K H' a xs) ∧
    (∀ (i : Nat) (x : V) (H' : Hp), xs[i]? = some x → Pv i H' → Turn1 g tt te vs σ0 D x H' (Pv (i + 1))) ∧ ∀ H', Pv xs.length H' → Q (.ref D) H') : LcG (Itl K a) g tt te vs σ Q H := by
  subst hw
  intro D hD
  obtain ⟨Pv, h0, hl, hs, hd⟩ := h D hD
  refine ⟨fun i m H => m = xs.length - i ∧ i ≤ xs.length ∧ Pv i H, ⟨xs.length, by simp, Nat.zero_le _, h0⟩, ?_⟩
  rintro i m H ⟨rfl, hi, p⟩
  have q := hl i H hi p
  rcases Nat.lt_or_ge i xs.length with hlt | hge
  · exact .inr ⟨⟨xs, xs[i], q, by simp [hlt]⟩, Pv (i + 1), fun H' p' => ⟨xs.length - (i + 1), by omega, rfl, hlt, p'⟩, fun x H' ⟨e1, e2⟩ => by subst e1; exact hs i x _ (e2 xs q) p⟩
  · have e : i = xs.length := by omega
    subst e
    exact .inl ⟨⟨xs, q, Nat.le_refl _⟩, hd H p⟩
/-- over a list of ints, nothing changed within a turn: p tells which items are kept, f what stands for them -/
theorem lcP {S : List Int} {f : Int → V} {p : Int → Bool} (hw : wipe σ vs = σ0) (hS : SqL K H a (S.map V.int)) (hl : S.length ≤ 1000)
    (turn : ∀ (D : Addr) (acc : List V) (x : Int) (N : Hp → Prop), H D = none → x ∈ S → (p x = true → TurnD D N (f x) (upd H D (.lst acc))) → (p x = false → N (upd H D (.lst acc))) →
      Turn1 g tt te vs σ0 D (.int x) (upd H D (.lst acc)) N)
    (q : ∀ D, H D = none → Q (.ref D) (upd H D (.lst ((S.filter p).map f)))) : LcG (Itl K a) g tt te vs σ Q H := by
  refine lcL (xs := S.map V.int) hw fun D hD => ⟨fun i H' => H' = upd H D (.lst (((S.take i).filter p).map f)), rfl, ?_, ?_, ?_⟩
  · rintro i H' _ rfl
    exact (same_new hD).seq hS
  · rintro i x H' hx rfl
    rw [List.getElem?_map, Option.map_eq_some_iff] at hx
    obtain ⟨n, hn, rfl⟩ := hx
    have hlt : i < S.length := (List.getElem?_eq_some_iff.mp hn).1
    refine turn D _ n _ hD (List.mem_of_getElem? hn) (fun hp => g_turnD upd_same ?_ ?_) (fun hp => ?_)
    · rw [List.length_map]
      have h1 := List.length_filter_le p (S.take i)
      rw [List.length_take] at h1
      omega
    · dsimp only
      rw [upd_upd, List.take_add_one, hn, List.filter_append, List.map_append]
      simp [hp]
    · dsimp only
      rw [List.take_add_one, hn, List.filter_append]
      simp [hp]
  · rintro H' rfl
    rw [List.length_map, List.take_length]
    exact q D hD
/-- the same over range(n) -/
theorem lcPR {n : Nat} {f : Nat → V} {p : Nat → Bool} (hw : wipe σ vs = σ0) (hl : n ≤ 1000)
    (turn : ∀ (D : Addr) (acc : List V) (x : Nat) (N : Hp → Prop), H D = none → x < n → (p x = true → TurnD D N (f x) (upd H D (.lst acc))) → (p x = false → N (upd H D (.lst acc))) →
      Turn1 g tt te vs σ0 D (.int (0 + (x : Int))) (upd H D (.lst acc)) N)
    (q : ∀ D, H D = none → Q (.ref D) (upd H D (.lst (((List.range n).filter p).map f)))) : LcG (Itr 0 n) g tt te vs σ Q H := by
  refine lcR hw fun D hD => ⟨fun i H' => H' = upd H D (.lst (((List.range i).filter p).map f)), rfl, ?_, ?_⟩
  · rintro i H' hi rfl
    refine turn D _ i _ hD hi (fun hp => g_turnD upd_same ?_ ?_) (fun hp => ?_)
    · rw [List.length_map]
      have h1 := List.length_filter_le p (List.range i)
      rw [List.length_range] at h1
      omega
    · dsimp only
      rw [upd_upd, List.range_succ, List.filter_append, List.map_append]
      simp [hp]
    · dsimp only
      rw [List.range_succ, List.filter_append]
      simp [hp]
  · rintro H' rfl
    exact q D hD
theorem forL {xs : List V} (h : ∃ Pv : Nat → L2.St → Hp → Prop, Pv 0 σ H ∧ (∀ i σ' H', i ≤ xs.length → Pv i σ' H' → SqL K H' a xs) ∧
    (∀ i x σ' H', xs[i]? = some x → Pv i σ' H' → g x σ' H' fun σ2 H2 => tb { D0 with nx := Pv (i + 1), ct := Pv (i + 1), bk := D0.nx } σ2 H2) ∧ ∀ σ' H', Pv xs.length σ' H' → D0.nx σ' H') : ForG (Itl K a) g tb D0 σ H := by
  obtain ⟨Pv, h0, hl, hs, hd⟩ := h
  exact for_list Pv h0 hl hs hd
theorem forR {lo : Int} {n : Nat} (h : ∃ Pv : Nat → L2.St → Hp → Prop, Pv 0 σ H ∧
    (∀ i σ' H', i < n → Pv i σ' H' → g (.int (lo + i)) σ' H' fun σ2 H2 => tb { D0 with nx := Pv (i + 1), ct := Pv (i + 1), bk := D0.nx } σ2 H2) ∧ ∀ σ' H', Pv n σ' H' → D0.nx σ' H') : ForG (Itr lo n) g tb D0 σ H := by
  obtain ⟨Pv, h0, hs, hd⟩ := h
  exact for_range Pv h0 hs hd
theorem forT {xs : List V} (h : ∃ Pv : Nat → L2.St → Hp → Prop, Pv 0 σ H ∧ (∀ i σ' H', i ≤ xs.length → Pv i σ' H' → SqT K H' a xs) ∧
    (∀ i x σ' H', xs[i]? = some x → Pv i σ' H' → g x σ' H' fun σ2 H2 => tb { D0 with nx := Pv (i + 1), ct := Pv (i + 1), bk := D0.nx } σ2 H2) ∧ ∀ σ' H', Pv xs.length σ' H' → D0.nx σ' H') : ForG (Itt K a) g tb D0 σ H := by
  obtain ⟨Pv, h0, hl, hs, hd⟩ := h
  exact for_tup Pv h0 hl hs hd
theorem g_app {p : Addr} {xs : List V} {y : V} {H : Hp} {Q : VK} (h : H p = some (.lst xs)) (hl : xs.length < 1000) (q : Q .non (upd H p (.lst (xs ++ [y])))) : rAppend (.ref p) [y] H Q :=
  ⟨p, xs, y, rfl, rfl, h, small1000 (Nat.le_of_lt hl), q⟩
/-- a turn that changes nothing: the item is kept if p says so, and f of it stands in the new list -/
def Pure1 (g : TG) (tt : TT) (te : TE) (vs : List Nat) (σ0 : L2.St) (p : V → Bool) (f : V → V) (x : V) (H : Hp) : Prop :=
  g x σ0 H fun σ2 H2 => wipe σ2 vs = σ0 ∧ tt σ2 H2 fun b H3 => if b = true then te σ2 H3 fun y H4 => p x = true ∧ y = f x ∧ H4 = H else p x = false ∧ H3 = H
end
theorem pure_step {H : Hp} {D : Addr} {xs : List V} {i : Nat} {x y : V} {p : V → Bool} {f : V → V} (hx : xs[i]? = some x) (hp : p x = true) (hy : y = f x) (hl : xs.length ≤ 1000) :
    ∃ acc, (upd H D (.lst (((xs.take i).filter p).map f))) D = some (.lst acc) ∧ acc.length < sizeLine ∧
      upd (upd H D (.lst (((xs.take i).filter p).map f))) D (.lst (acc ++ [y])) = upd H D (.lst (((xs.take (i + 1)).filter p).map f)) := by
  refine ⟨_, upd_same, small1000 ?_, ?_⟩
  · rw [List.length_map]
    have h1 := List.length_filter_le p (xs.take i)
    have h2 : (xs.take i).length ≤ xs.length := by rw [List.length_take]; exact Nat.min_le_right _ _
    omega
  · rw [upd_upd, List.take_add_one, hx, List.filter_append, List.map_append, hy]
    simp [hp]
theorem pure_skip {H : Hp} {D : Addr} {xs : List V} {i : Nat} {x : V} {p : V → Bool} {f : V → V} (hx : xs[i]? = some x) (hp : p x = false) :
    upd H D (.lst (((xs.take i).filter p).map f)) = upd H D (.lst (((xs.take (i + 1)).filter p).map f)) := by
  rw [List.take_add_one, hx, List.filter_append]
  simp [hp]
theorem cxK {CX : CXT} {P : Program} {w : World} {K : PySem.W.Frag} {mg : Str → Option Value} {base : Heap} {N : List Str} {q : Str} {sc : Scope} {f : Addr} {cdv : Value}
    {A : PySem.Around} {outer : List PySem.Env} {s : Shared} {H : Hp} {E : XK} : (cxOf CX P w K mg base N q sc f cdv A outer s H E).K = K := rfl
end Q

set_option Elab.async false
set_option linter.all false
set_option maxRecDepth 100000
namespace PySem
/-! enumerate(t) over a tuple -/
set_option maxHeartbeats 1000000 in
theorem qMeetsEnum {v : Value} {o : Obj} {HH : Heap → Prop} (B : Begins v o HH) :
    Meets (Builtin.«enumerate.__new__» ⟨[.type "enumerate", v], []⟩) (fun _ R s => HH s.heap ∧ R (.ok (.ret (.ref (s.heap.push o).objs.size)))
      { s with heap := (s.heap.push o).push { cls := .type "enumerate", data := .fields #[.none, .bool false, .ref s.heap.objs.size, rawInt 0, .none, .none] } }) :=
  .of_wp fun prog w A R s hyp => by
    obtain ⟨hp, gg, dd, tk, os⟩ := s
    obtain ⟨hstart, hyp⟩ := hyp
    have hsub := sub_enumerate
    have goIter : ∀ {A' : Around} {E : Value → Shared → Prop} {Q : Value → Shared → Prop}, Q (.ref hp.objs.size) ⟨hp.push o, gg, dd, tk, os⟩ → wpAny (model prog w) A' (pyIter v) Q E ⟨hp, gg, dd, tk, os⟩ :=
      fun z => B.iter prog w _ _ ⟨hp, gg, dd, tk, os⟩ _ hstart z
    wp_walk using goIter
    refine wpAny_stack_any fun st => wpAny_pure ?_
    split
    · rename_i c _ _ _ _ _
      cases (c == Value.type "enumerate") <;> (wp_walk using goIter; exact ⟨_, rfl, hyp⟩)
    · wp_walk using goIter
      exact ⟨_, rfl, hyp⟩
theorem qEnumBegin {prog : Program} {w : World} {A : Around} {E : Value → Shared → Prop} {s : Shared} {v : Value} {o : Obj} {HH : Heap → Prop} {Q : Value → Shared → Prop} (B : Begins v o HH) (hb : HH s.heap)
    (done : ∀ h', IsEnum h' (s.heap.objs.size + 1) s.heap.objs.size 0 .none → h'.get? s.heap.objs.size = some o →
      (∀ b o, s.heap.get? b = some o → h'.get? b = some o) → Q (.ref (s.heap.objs.size + 1)) { s with heap := h' }) :
    wpAny (model prog w) A (call (.type "enumerate") [v]) Q E s := by
  refine callType_new F.called_enumerate (by decide) (F.typeCall_enumerate_1 _) (F.newCall_enumerate_1 _) (fun obj => F.args_object_init_2 obj _) F.entry_enumerate_new (qMeetsEnum B) ⟨hb, ?_⟩
  have size1 : (s.heap.push o).objs.size = s.heap.objs.size + 1 := Heap.size_push ..
  show _ ∧ _
  rw [size1]
  have isE : IsEnum ((s.heap.push o).push { cls := .type "enumerate", data := .fields #[.none, .bool false, .ref s.heap.objs.size, rawInt 0, .none, .none] }) (s.heap.objs.size + 1) s.heap.objs.size 0 .none := by
    have z := Heap.get?_push_size (s.heap.push o) (o := { cls := .type "enumerate", data := .fields #[.none, .bool false, .ref s.heap.objs.size, rawInt 0, .none, .none] }) rfl
    rw [size1] at z
    exact z
  exact ⟨⟨_, isE, rfl⟩, done _ isE (Heap.get?_push_of_some _ (Heap.get?_push_size _ B.free)) fun b o x => Heap.get?_push_of_some _ (Heap.get?_push_of_some _ x)⟩
theorem qEnumEnd {prog : Program} {w : World} {A : Around} {E : Value → Shared → Prop} {s : Shared} {e it t : Addr} {i : Nat} {k : Int} {items : Array Value} {old : Value} {Q : Option Value → Shared → Prop} (hh : A.handled = none)
    (isE : IsEnum s.heap e it k old) (iti : s.heap.IsTupleIter it t i) (ht : s.heap.IsTuple t items) (no : items[i]? = none)
    (done : ∀ h', Heap.ExtBut it s.heap h' → Q none { s with heap := h' }) : wpAny (model prog w) A (pyNext (.ref e)) Q E s := by
  have tyE : s.TypeIs (.ref e) "enumerate" := ⟨_, isE, rfl⟩
  unfold pyNext
  refine wpAny_bind (wpAny_attempt (wpAny_callSpecial?_slot (name := Str.ofString "__next__") tyE F.slot_enumerate_next ?_))
  refine wpAny_call_entry F.slot_enumerate_next tyE F.entry_enumerate_next ?_ (F.args_enumerate_next_1 _)
  show wpAny _ _ (field (.ref e) 2 >>= _) _ _ s
  refine wpAny_bind (wpAny_field isE rfl (x := .ref it) rfl (wpAny_bind ?_))
  refine wpAny_nextOf_tuple_end (show A.in1.handled = none from hh) iti ht no fun h' x eb ⟨ox, hox, cx⟩ => ?_
  refine wpAny_bind (wpAny_isInstance (T := "StopIteration") (b := true) ⟨ox, hox, cx⟩ isSubtype_stop ?_)
  exact wpAny_pure (done _ eb)
end PySem
namespace Q
open PySem PySem.Spec L2 RZ
/-- the turns of enumerate over a tuple: a new pair each -/
def Iet (K : PySem.W.Frag) (a : Addr) : It :=
  ⟨fun i H => ∃ (xs : List V) (x : V), SqT K H a xs ∧ xs[i]? = some x,
    fun i H v H' => ∃ T x, v = .ref T ∧ H T = none ∧ H' = upd H T (.tup [.int (i : Nat), x]) ∧ ∀ xs, SqT K H a xs → xs[i]? = some x,
    fun i H => ∃ xs : List V, SqT K H a xs ∧ xs.length ≤ i⟩
theorem turnT {P : Program} {w : World} {K : PySem.W.Frag} {elts : List Expr} {kk : Nat} {tpos : Pos} (a e it : Addr) :
    L2.Turn P w K (.Tuple elts kk tpos) (Iet K a) [e, it] e (fun i h => (∃ old, IsEnum h e it ((i : Nat) : Int) old) ∧ h.IsTupleIter it a i ∧ e ≠ it) where
  mem := List.mem_cons_self ..
  obj := fun i h st b hb => by
    obtain ⟨⟨old, isE⟩, ⟨oi, hoi, _, hdi⟩, _⟩ := st
    rcases List.mem_cons.mp hb with z | z
    · exact ⟨_, by rw [z]; exact isE, fun v q => by cases q⟩
    · have z2 : b = it := by simpa using z
      exact ⟨oi, by rw [z2]; exact hoi, fun v q => by rw [hdi] at q; cases q⟩
  keep := fun i h h' ⟨⟨old, isE⟩, iti, ne⟩ k => ⟨⟨old, k e (by simp) _ isE⟩, iti.at fun o q => k it (by simp) o q, ne⟩
  item := by
    intro X hP hw hK hc i pins s σ H E I hf st hg
    subst hP hw hK
    obtain ⟨⟨old, isE⟩, iti, ne⟩ := st
    obtain ⟨xs, x, hq, hx⟩ := hg
    obtain ⟨its, rv, p, hz⟩ := I.tuple hq
    obtain ⟨u, hu, ru⟩ := rv.get hx
    have hT : s.heap.IsTuple a its.toArray := p
    have sz_e : e < s.heap.objs.size := Heap.lt_size isE
    have sz_i : it < s.heap.objs.size := by obtain ⟨_, q, _⟩ := iti; exact Heap.lt_size q
    have a_it : a ≠ it := fun z => by
      obtain ⟨o1, e1, c1, _⟩ := iti
      obtain ⟨o2, e2, c2, _⟩ := hT
      rw [z, e1] at e2
      cases e2
      rw [c1] at c2
      injection c2 with c3
      exact absurd c3 (by decide)
    have a_e : e ≠ a := fun z => by
      obtain ⟨o2, e2, c2, _⟩ := hT
      rw [← z, isE] at e2
      cases e2
      injection c2 with c3
      exact absurd c3 (by decide)
    have D := Draws.tuple (prog := X.prog) (w := X.w) (A := X.A.in1) (show X.A.in1.handled = none from I.ok.hd hc) it a a_it its.toArray
    have ilt : i < its.toArray.size := by
      have z := List.getElem?_eq_some_iff.mp hu
      rw [List.size_toArray]
      exact z.1
    refine wpAny_pyNext_enum_itemD D isE ⟨iti, hT⟩ ilt ne (by simp [a_e, ne]) fun y h' tk hy ho st' hTup hsz hk => ?_
    have ey : y = u := by
      have z : its.toArray[i]? = some u := by simpa using hu
      rw [z] at hy
      exact (Option.some.inj hy).symm
    subst ey
    refine ⟨_, rfl, wpAny_letOwnedTupleGo_enum (s := { s with heap := h', toks := tk + 1 }) ho fun h'' he' sb => ?_⟩
    have hT2 : h''.get? s.heap.objs.size = some { cls := .type "tuple", data := .seq #[.int i tk, y] } := (sb.2 _ (Nat.ne_of_gt sz_e)).trans hTup
    have new : ObjOk X.prog X.w (upd H s.heap.objs.size (.tup [.int (i : Nat), x])) h'' s.heap.objs.size (.tup [.int (i : Nat), x]) :=
      ⟨by show 2 ≤ sizeLine; decide, [.int i tk, y], .cons ⟨_, rfl⟩ (.cons ru .nil), ⟨_, hT2, rfl, _, rfl⟩⟩
    have I1 : Inv X pins σ (upd H s.heap.objs.size (.tup [.int (i : Nat), x])) { s with heap := h'', toks := tk + 1 } :=
      I.turnedNew (ch := [e, it]) (fun b ob hb q => (sb.2 b (fun z => hb (by simp [z]))).trans (hk b ob (fun z => hb (by simp [z])) (fun z => hb (by simp [z])) q)) hf (Nat.le_refl _) new
    refine ⟨.ref s.heap.objs.size, _, I1, rfl, ⟨_, x, rfl, I.hok.fresh (Nat.le_refl _), rfl, fun ys hy => by rw [I.tuple_inj hy hq]; exact hx⟩,
      ⟨⟨y, ?_⟩, st'.1.at fun o q => (sb.2 it (Ne.symm ne)).trans q, ne⟩, fun b hb => ?_⟩
    · rw [show ((i + 1 : Nat) : Int) = (i : Int) + 1 from by omega]
      exact he'
    · have lt : b < s.heap.objs.size := by
        rcases List.mem_cons.mp hb with z | z
        · rw [z]; exact sz_e
        · rw [show b = it from by simpa using z]; exact sz_i
      rw [upd_ne (Nat.ne_of_lt lt)]
      exact (hf b hb).1
  done := by
    intro X hP hw hK hc i pins s σ H E I hf st hg
    subst hP hw hK
    obtain ⟨⟨old, isE⟩, iti, ne⟩ := st
    obtain ⟨xs, hq, hx⟩ := hg
    obtain ⟨its, rv, p, hz⟩ := I.tuple hq
    obtain ⟨f0, f1, f2, f3, f4, f5⟩ := hf it (by simp)
    have hT : s.heap.IsTuple a its.toArray := p
    have none_i : its.toArray[i]? = none := by
      have z := rv.length
      rw [List.getElem?_toArray]
      exact List.getElem?_eq_none_iff.mpr (by omega)
    exact qEnumEnd (I.ok.hd hc) isE iti hT none_i fun h' eb => ⟨rfl, I.turned (t' := s.toks) (fun b o hb q => eb b o hb q) f0 f1 f3 f4 f5⟩
  self := fun A i s Q E ⟨⟨_, isE⟩, _⟩ hQ => wpAny_pyIter_enum isE hQ
/-- enumerate over a list or a tuple -/
def iEn2 (K : PySem.W.Frag) (ta : TA) : TI := fun σ H R => ta σ H fun vs H1 => ∃ a xs, vs = [.ref a] ∧ ((SqL K H1 a xs ∧ R (Ite K a) H1) ∨ (SqT K H1 a xs ∧ R (Iet K a) H1))
theorem pi_en2 {X : Cx} {e : Expr} {ta : TA} {p pos tpos : Pos} {elts : List Expr} {kk : Nat} (hg : Gl X "enumerate") (hm : X.mg "enumerate" = none) (ha : PA X [e] ta) (hs : starEach [e] X.env = [(false, eval e X.env)] := by rfl) :
    PI X (.Tuple elts kk tpos) (.Call (.Name "enumerate" p) [e] [] pos) (iEn2 X.K ta) := by
  refine ⟨fun pins s σ H R I h => ?_⟩
  refine PyProof.Rows.Call_ (ld_blt I hg hm PyProof.Rows.boot_enumerate (PyProof.Rows.callWith_type1 (thn (ha.run pos pins s σ H _ I h) fun us s1 ⟨vs, H1, I1, r1, q1⟩ => ?_) hs rfl))
  obtain ⟨a, xs, ex, hq⟩ := q1
  subst ex
  cases r1 with
  | cons r rr =>
    cases rr
    cases r
    have places : ∀ b ∈ [s1.heap.objs.size + 1, s1.heap.objs.size], s1.heap.objs.size ≤ b := fun b hb => by
      rcases List.mem_cons.mp hb with z | z
      · omega
      · have z2 : b = s1.heap.objs.size := by simpa using z
        omega
    rcases hq with ⟨hq, q⟩ | ⟨hq, q⟩
    · obtain ⟨its, rv, p', hz⟩ := I1.list hq
      refine call_enumerate_list p'.isList fun h' he hit hsz hk => wpAny_pyIter_enum he ?_
      exact ⟨s1.heap.objs.size + 1, [s1.heap.objs.size + 1, s1.heap.objs.size], _, _, H1, rfl, I1.kept (t' := s1.toks) hk, turn_enum a (s1.heap.objs.size + 1) s1.heap.objs.size,
        ⟨⟨.none, he⟩, hit, Nat.succ_ne_self _⟩, fun b hb => I1.fpOk (places b hb) (I1.hok.fresh (places b hb)), q⟩
    · obtain ⟨its, rv, p', hz⟩ := I1.tuple hq
      have hT : s1.heap.IsTuple a its.toArray := p'
      refine qEnumBegin (begins_tuple a its.toArray) hT fun h' he hit hk => wpAny_pyIter_enum he ?_
      exact ⟨s1.heap.objs.size + 1, [s1.heap.objs.size + 1, s1.heap.objs.size], _, _, H1, rfl, I1.kept (t' := s1.toks) hk, turnT a (s1.heap.objs.size + 1) s1.heap.objs.size,
        ⟨⟨.none, he⟩, ⟨_, hit, rfl, rfl⟩, Nat.succ_ne_self _⟩, fun b hb => I1.fpOk (places b hb) (I1.hok.fresh (places b hb)), q⟩
theorem k_en2 {X : Cx} {K : PySem.W.Frag} {e : Expr} {ta : TA} {p pos tpos : Pos} {elts : List Expr} {kk : Nat} (ek : X.K = K) (hg : Gl X "enumerate") (hm : X.mg "enumerate" = none) (ha : PA X [e] ta) (hs : starEach [e] X.env = [(false, eval e X.env)] := by rfl) :
    PI X (.Tuple elts kk tpos) (.Call (.Name "enumerate" p) [e] [] pos) (iEn2 K ta) := by subst ek; exact pi_en2 hg hm ha hs
section
variable {K : PySem.W.Frag} {g : TG} {tt : TT} {te : TE} {vs : List Nat} {σ σ0 : L2.St} {H : Hp} {Q : VK} {a : Addr} {R : It → Hp → Prop} {N : L2.St → Hp → Prop}
def En2R (K : PySem.W.Frag) (vs : List V) (R : It → Hp → Prop) (H : Hp) : Prop := ∃ a xs, vs = [.ref a] ∧ ((SqL K H a xs ∧ R (Ite K a) H) ∨ (SqT K H a xs ∧ R (Iet K a) H))
theorem g_iEn2 {ta : TA} (h : ta σ H fun ws H1 => En2R K ws R H1) : iEn2 K ta σ H R := h
theorem g_en2L {xs : List V} (c : SqL K H a xs) (h : R (Ite K a) H) : En2R K [.ref a] R H := ⟨a, xs, rfl, .inl ⟨c, h⟩⟩
theorem g_en2T {xs : List V} (c : SqT K H a xs) (h : R (Iet K a) H) : En2R K [.ref a] R H := ⟨a, xs, rfl, .inr ⟨c, h⟩⟩
def En1R (K : PySem.W.Frag) (vs : List V) (R : It → Hp → Prop) (H : Hp) : Prop := ∃ a xs, vs = [.ref a] ∧ SqL K H a xs ∧ R (Ite K a) H
theorem g_iEnum {ta : TA} (h : ta σ H fun ws H1 => En1R K ws R H1) : iEnum K ta σ H R := h
theorem g_en1 {xs : List V} (c : SqL K H a xs) (h : R (Ite K a) H) : En1R K [.ref a] R H := ⟨a, xs, rfl, c, h⟩
theorem g_gTup {n : Nat} {t : TGs} {p : Addr} {xs : List V} (c : SqT K H p xs) (e : xs.length = n) (h : t xs σ H N) : gTup K n t (.ref p) σ H N := ⟨p, xs, rfl, c, e, h⟩
theorem g_gCons {t : TG} {u : TGs} {v : V} {r : List V} (h : t v σ H fun σ' H' => u r σ' H' N) : gCons t u (v :: r) σ H N := ⟨v, r, rfl, h⟩
theorem g_gNil (h : N σ H) : gNil [] σ H N := ⟨rfl, h⟩
theorem lcE {xs : List V} (hw : wipe σ vs = σ0) (h : ∀ D, H D = none → ∃ Pv : Nat → Hp → Prop, Pv 0 (upd H D (.lst [])) ∧ (∀ i H', i ≤ xs.length → Pv i H' → SqL K H' a xs) ∧
    (∀ (i : Nat) (x : V) (T : Addr) (H' : Hp), xs[i]? = some x → Pv i H' → H' T = none → Turn1 g tt te vs σ0 D (.ref T) (upd H' T (.tup [.int (i : Nat), x])) (Pv (i + 1))) ∧
    ∀ H', Pv xs.length H' → Q (.ref D) H') : LcG (Ite K a) g tt te vs σ Q H := by
  subst hw
  intro D hD
  obtain ⟨Pv, h0, hl, hs, hd⟩ := h D hD
  refine ⟨fun i m H => m = xs.length - i ∧ i ≤ xs.length ∧ Pv i H, ⟨xs.length, by simp, Nat.zero_le _, h0⟩, ?_⟩
  rintro i m H ⟨rfl, hi, p⟩
  have q := hl i H hi p
  rcases Nat.lt_or_ge i xs.length with hlt | hge
  · exact .inr ⟨⟨xs, xs[i], q, by simp [hlt]⟩, Pv (i + 1), fun H' p' => ⟨xs.length - (i + 1), by omega, rfl, hlt, p'⟩, fun v H' ⟨T, x, e1, e2, e3, e4⟩ => by subst e1 e3; exact hs i x T _ (e4 xs q) p e2⟩
  · have e : i = xs.length := by omega
    subst e
    exact .inl ⟨⟨xs, q, Nat.le_refl _⟩, hd H p⟩
theorem lcET {xs : List V} (hw : wipe σ vs = σ0) (h : ∀ D, H D = none → ∃ Pv : Nat → Hp → Prop, Pv 0 (upd H D (.lst [])) ∧ (∀ i H', i ≤ xs.length → Pv i H' → SqT K H' a xs) ∧
    (∀ (i : Nat) (x : V) (T : Addr) (H' : Hp), xs[i]? = some x → Pv i H' → H' T = none → Turn1 g tt te vs σ0 D (.ref T) (upd H' T (.tup [.int (i : Nat), x])) (Pv (i + 1))) ∧
    ∀ H', Pv xs.length H' → Q (.ref D) H') : LcG (Iet K a) g tt te vs σ Q H := by
  subst hw
  intro D hD
  obtain ⟨Pv, h0, hl, hs, hd⟩ := h D hD
  refine ⟨fun i m H => m = xs.length - i ∧ i ≤ xs.length ∧ Pv i H, ⟨xs.length, by simp, Nat.zero_le _, h0⟩, ?_⟩
  rintro i m H ⟨rfl, hi, p⟩
  have q := hl i H hi p
  rcases Nat.lt_or_ge i xs.length with hlt | hge
  · exact .inr ⟨⟨xs, xs[i], q, by simp [hlt]⟩, Pv (i + 1), fun H' p' => ⟨xs.length - (i + 1), by omega, rfl, hlt, p'⟩, fun v H' ⟨T, x, e1, e2, e3, e4⟩ => by subst e1 e3; exact hs i x T _ (e4 xs q) p e2⟩
  · have e : i = xs.length := by omega
    subst e
    exact .inl ⟨⟨xs, q, Nat.le_refl _⟩, hd H p⟩
def ZipR (K : PySem.W.Frag) (vs : List V) (R : It → Hp → Prop) (H : Hp) : Prop := ∃ a b xs ys, vs = [.ref a, .ref b] ∧ ((SqL K H a xs ∧ SqL K H b ys ∧ R (Itz K a b) H) ∨ (SqT K H a xs ∧ SqT K H b ys ∧ R (ItzT K a b) H))
theorem g_iZipA {ta : TA} (h : ta σ H fun ws H1 => ZipR K ws R H1) : iZipA K ta σ H R := h
theorem g_zipL {b : Addr} {xs ys : List V} (c : SqL K H a xs) (d : SqL K H b ys) (h : R (Itz K a b) H) : ZipR K [.ref a, .ref b] R H := ⟨a, b, xs, ys, rfl, .inl ⟨c, d, h⟩⟩
theorem g_zipT {b : Addr} {xs ys : List V} (c : SqT K H a xs) (d : SqT K H b ys) (h : R (ItzT K a b) H) : ZipR K [.ref a, .ref b] R H := ⟨a, b, xs, ys, rfl, .inr ⟨c, d, h⟩⟩
theorem lcZ {b : Addr} {xs ys : List V} (hl : xs.length = ys.length) (hw : wipe σ vs = σ0) (h : ∀ D, H D = none → ∃ Pv : Nat → Hp → Prop, Pv 0 (upd H D (.lst [])) ∧ (∀ i H', Pv i H' → SqL K H' a xs ∧ SqL K H' b ys) ∧
    (∀ (i : Nat) (x y : V) (T : Addr) (H' : Hp), xs[i]? = some x → ys[i]? = some y → Pv i H' → H' T = none → Turn1 g tt te vs σ0 D (.ref T) (upd H' T (.tup [x, y])) (Pv (i + 1))) ∧
    ∀ H', Pv xs.length H' → Q (.ref D) H') : LcG (Itz K a b) g tt te vs σ Q H := by
  subst hw
  intro D hD
  obtain ⟨Pv, h0, hq, hs, hd⟩ := h D hD
  refine ⟨fun i m H => m = xs.length - i ∧ i ≤ xs.length ∧ Pv i H, ⟨xs.length, by simp, Nat.zero_le _, h0⟩, ?_⟩
  rintro i m H ⟨rfl, hi, p⟩
  obtain ⟨q1, q2⟩ := hq i H p
  rcases Nat.lt_or_ge i xs.length with hlt | hge
  · exact .inr ⟨⟨xs, ys, xs[i], ys[i]'(by omega), q1, q2, by simp [hlt], by simp⟩, Pv (i + 1), fun H' p' => ⟨xs.length - (i + 1), by omega, rfl, hlt, p'⟩,
      fun v H' ⟨T, x, y, e1, e2, e3, e4, e5⟩ => by subst e1 e3; exact hs i x y T _ (e4 xs q1) (e5 ys q2) p e2⟩
  · have e : i = xs.length := by omega
    subst e
    exact .inl ⟨⟨xs, ys, q1, q2, .inl (Nat.le_refl _)⟩, hd H p⟩
theorem lcZT {b : Addr} {xs ys : List V} (hl : xs.length = ys.length) (hw : wipe σ vs = σ0) (h : ∀ D, H D = none → ∃ Pv : Nat → Hp → Prop, Pv 0 (upd H D (.lst [])) ∧ (∀ i H', Pv i H' → SqT K H' a xs ∧ SqT K H' b ys) ∧
    (∀ (i : Nat) (x y : V) (T : Addr) (H' : Hp), xs[i]? = some x → ys[i]? = some y → Pv i H' → H' T = none → Turn1 g tt te vs σ0 D (.ref T) (upd H' T (.tup [x, y])) (Pv (i + 1))) ∧
    ∀ H', Pv xs.length H' → Q (.ref D) H') : LcG (ItzT K a b) g tt te vs σ Q H := by
  subst hw
  intro D hD
  obtain ⟨Pv, h0, hq, hs, hd⟩ := h D hD
  refine ⟨fun i m H => m = xs.length - i ∧ i ≤ xs.length ∧ Pv i H, ⟨xs.length, by simp, Nat.zero_le _, h0⟩, ?_⟩
  rintro i m H ⟨rfl, hi, p⟩
  obtain ⟨q1, q2⟩ := hq i H p
  rcases Nat.lt_or_ge i xs.length with hlt | hge
  · exact .inr ⟨⟨xs, ys, xs[i], ys[i]'(by omega), q1, q2, by simp [hlt], by simp⟩, Pv (i + 1), fun H' p' => ⟨xs.length - (i + 1), by omega, rfl, hlt, p'⟩,
      fun v H' ⟨T, x, y, e1, e2, e3, e4, e5⟩ => by subst e1 e3; exact hs i x y T _ (e4 xs q1) (e5 ys q2) p e2⟩
  · have e : i = xs.length := by omega
    subst e
    exact .inl ⟨⟨xs, ys, q1, q2, .inl (Nat.le_refl _)⟩, hd H p⟩
end
theorem k_zip {X : Cx} {K : PySem.W.Frag} {e e2 : Expr} {ta : TA} {p pos tpos : Pos} {elts : List Expr} {kk : Nat} (ek : X.K = K) (hg : Gl X "zip") (hm : X.mg "zip" = none) (ha : PA X [e, e2] ta)
    (hs : starEach [e, e2] X.env = (false, eval e X.env) :: starEach [e2] X.env := by rfl) (hl : (backTo pos (starEach [e2] X.env)).any (·.1) = false := by rfl) :
    PI X (.Tuple elts kk tpos) (.Call (.Name "zip" p) [e, e2] [] pos) (iZipA K ta) := by subst ek; exact pi_zipA hg hm ha hs hl
end Q

set_option Elab.async false
set_option linter.all false
set_option maxRecDepth 100000
set_option maxHeartbeats 2000000
/-! zip of lists and tuples, mixed -/
namespace Q
open PySem PySem.Spec L2 RZ
/-- a list (true) or a tuple (false) -/
def SqB (k : Bool) (K : PySem.W.Frag) (H : Hp) (a : Addr) (xs : List V) : Prop := if k = true then SqL K H a xs else SqT K H a xs
def IsB (k : Bool) (h : Heap) (a : Addr) (its : Array Value) : Prop := if k = true then h.IsList a its else h.IsTuple a its
def ItB (k : Bool) (h : Heap) (it a : Addr) (i : Nat) : Prop := if k = true then h.IsListIter it a i else h.IsTupleIter it a i
section
variable {X : Cx} {pins : List (Addr × Obj)} {σ : L2.St} {H : Hp} {s : Shared} {a it : Addr} {xs ys : List V} {k : Bool} {i : Nat} {h h' : Heap}
theorem sqB_of (I : Inv X pins σ H s) (c : SqB k X.K H a xs) : ∃ its : List Value, Vals xs its ∧ IsB k s.heap a its.toArray := by
  cases k
  · obtain ⟨its, r, p, _⟩ := I.tuple (show SqT X.K H a xs from c)
    exact ⟨its, r, show s.heap.IsTuple a its.toArray from p⟩
  · obtain ⟨its, r, p, _⟩ := I.list (show SqL X.K H a xs from c)
    exact ⟨its, r, show s.heap.IsList a its.toArray from p.isList⟩
theorem sqB_inj (I : Inv X pins σ H s) (c : SqB k X.K H a xs) (d : SqB k X.K H a ys) : xs = ys := by
  cases k
  · exact I.tuple_inj (show SqT X.K H a xs from c) d
  · exact I.list_inj (show SqL X.K H a xs from c) d
theorem ItB.keep (c : ItB k h it a i) (q : ∀ o, h.get? it = some o → h'.get? it = some o) : ItB k h' it a i := by
  cases k
  · exact Heap.IsTupleIter.at (show h.IsTupleIter it a i from c) q
  · exact Heap.IsListIter.at (show h.IsListIter it a i from c) q
theorem ItB.obj (c : ItB k h it a i) : ∃ o, h.get? it = some o ∧ ∀ v, o.data ≠ .cell v := by
  cases k
  · obtain ⟨o, e, _, d⟩ := (show h.IsTupleIter it a i from c)
    exact ⟨o, e, fun v z => by rw [d] at z; cases z⟩
  · obtain ⟨o, e, _, d⟩ := (show h.IsListIter it a i from c)
    exact ⟨o, e, fun v z => by rw [d] at z; cases z⟩
theorem IsB.lt {its : Array Value} (c : IsB k h a its) : a < h.objs.size := by
  cases k
  · obtain ⟨o, e, _⟩ := (show h.IsTuple a its from c)
    exact Heap.lt_size e
  · obtain ⟨o, e, _⟩ := (show h.IsList a its from c)
    exact Heap.lt_size e
theorem drawsB {P : Program} {w : World} {A : Around} (hh : A.handled = none) (k : Bool) (it l : Addr) (ne : l ≠ it) (items : Array Value) :
    Draws P w A it [it, l] items.size (fun i v => items[i]? = some v) (fun i h => ItB k h it l i ∧ IsB k h l items) := by
  cases k
  · exact Draws.tuple hh it l ne items
  · exact Draws.list hh it l ne items
def oB (k : Bool) (l : Addr) : Obj := { cls := .type (if k = true then "list_iterator" else "tuple_iterator"), data := .fields #[.ref l, .int 0 0] }
theorem beginsB (k : Bool) (l : Addr) (items : Array Value) : Begins (.ref l) (oB k l) fun h => IsB k h l items := by
  cases k
  · exact begins_tuple l items
  · exact begins_list l items
theorem oB_it {l : Addr} (e : h.get? it = some (oB k l)) : ItB k h it l 0 := by
  cases k
  · exact ⟨_, e, rfl, rfl⟩
  · exact ⟨_, e, rfl, rfl⟩
end
/-- the turns of zip over a and b: a new pair each -/
def Itm (K : PySem.W.Frag) (k l : Bool) (a b : Addr) : It :=
  ⟨fun i H => ∃ (xs ys : List V) (x y : V), SqB k K H a xs ∧ SqB l K H b ys ∧ xs[i]? = some x ∧ ys[i]? = some y,
    fun i H v H' => ∃ T x y, v = .ref T ∧ H T = none ∧ H' = upd H T (.tup [x, y]) ∧ (∀ xs, SqB k K H a xs → xs[i]? = some x) ∧ ∀ ys, SqB l K H b ys → ys[i]? = some y,
    fun i H => ∃ xs ys : List V, SqB k K H a xs ∧ SqB l K H b ys ∧ i ≤ xs.length ∧ i ≤ ys.length ∧ (i = xs.length ∨ i = ys.length)⟩
theorem turnM {P : Program} {w : World} {K : PySem.W.Frag} {elts : List Expr} {kk : Nat} {tpos : Pos} {k l : Bool} {a b z TI TO i1 i2 : Addr} (S : ZipSep2 z TI TO i1 i2 [i1, a] [i2, b]) :
    L2.Turn P w K (.Tuple elts kk tpos) (Itm K k l a b) [z, TI, TO, i1, i2] z
      (fun i h => IsZip h z TI TO .none ∧ IsTupOf2 h TI (.ref i1) (.ref i2) ∧ (∃ x y, IsTupOf2 h TO x y) ∧ ItB k h i1 a i ∧ ItB l h i2 b i) where
  mem := List.mem_cons_self ..
  obj := fun i h ⟨isZ, hTI, ⟨x, y, hTO⟩, t1, t2⟩ c hc => by
    have five : c = z ∨ c = TI ∨ c = TO ∨ c = i1 ∨ c = i2 := by simpa using hc
    rcases five with e | e | e | e | e <;> rw [e]
    · exact ⟨_, isZ, fun v q => by cases q⟩
    · exact ⟨_, hTI, fun v q => by cases q⟩
    · exact ⟨_, hTO, fun v q => by cases q⟩
    · exact t1.obj
    · exact t2.obj
  keep := fun i h h' ⟨isZ, hTI, ⟨x, y, hTO⟩, t1, t2⟩ kp =>
    ⟨kp z (by simp) _ isZ, kp TI (by simp) _ hTI, ⟨x, y, kp TO (by simp) _ hTO⟩, t1.keep fun o q => kp i1 (by simp) o q, t2.keep fun o q => kp i2 (by simp) o q⟩
  item := by
    intro X hP hw hK hc i pins s σ H E I hf ⟨isZ, hTI, ⟨x0, y0, hTO⟩, t1, t2⟩ ⟨xs, ys, x, y, cx, cy, hx, hy⟩
    subst hP hw hK
    obtain ⟨us, ru, pu⟩ := sqB_of I cx
    obtain ⟨vs, rv, pv⟩ := sqB_of I cy
    obtain ⟨u, hu, eu⟩ := ru.get hx
    obtain ⟨v, hv, ev⟩ := rv.get hy
    have hd : X.A.in1.handled = none := I.ok.hd hc
    have n1 : a ≠ i1 := fun e => by
      obtain ⟨o, e1, _⟩ := t1.obj
      have := S.sep1_2
      cases k
      · obtain ⟨o1, g1, c1, _⟩ := (show s.heap.IsTupleIter i1 a i from t1)
        obtain ⟨o2, g2, c2, _⟩ := (show s.heap.IsTuple a us.toArray from pu)
        rw [e, g1] at g2; cases g2; rw [c1] at c2; injection c2 with c3; exact absurd c3 (by decide)
      · obtain ⟨o1, g1, c1, _⟩ := (show s.heap.IsListIter i1 a i from t1)
        obtain ⟨o2, g2, c2, _⟩ := (show s.heap.IsList a us.toArray from pu)
        rw [e, g1] at g2; cases g2; rw [c1] at c2; injection c2 with c3; exact absurd c3 (by decide)
    have n2 : b ≠ i2 := fun e => by
      cases l
      · obtain ⟨o1, g1, c1, _⟩ := (show s.heap.IsTupleIter i2 b i from t2)
        obtain ⟨o2, g2, c2, _⟩ := (show s.heap.IsTuple b vs.toArray from pv)
        rw [e, g1] at g2; cases g2; rw [c1] at c2; injection c2 with c3; exact absurd c3 (by decide)
      · obtain ⟨o1, g1, c1, _⟩ := (show s.heap.IsListIter i2 b i from t2)
        obtain ⟨o2, g2, c2, _⟩ := (show s.heap.IsList b vs.toArray from pv)
        rw [e, g1] at g2; cases g2; rw [c1] at c2; injection c2 with c3; exact absurd c3 (by decide)
    have D1 := drawsB (P := X.prog) (w := X.w) hd k i1 a n1 us.toArray
    have D2 := drawsB (P := X.prog) (w := X.w) hd l i2 b n2 vs.toArray
    have lt1 : i < us.toArray.size := by rw [List.size_toArray]; exact (List.getElem?_eq_some_iff.mp hu).1
    have lt2 : i < vs.toArray.size := by rw [List.size_toArray]; exact (List.getElem?_eq_some_iff.mp hv).1
    have ltz : z < s.heap.objs.size := Heap.lt_size isZ
    refine wpAny_pyNext_zipD2_item S D1 D2 isZ hTI hTO ⟨t1, pu⟩ ⟨t2, pv⟩ lt1 lt2 fun p q h' tk hp hq z' TO' s1' s2' hT hsz hk => ?_
    have ep : u = p := by
      have e : us.toArray[i]? = some u := by simpa using hu
      rw [show us.toArray[i]? = some p from hp] at e
      exact (Option.some.inj e).symm
    have eq : v = q := by
      have e : vs.toArray[i]? = some v := by simpa using hv
      rw [show vs.toArray[i]? = some q from hq] at e
      exact (Option.some.inj e).symm
    subst ep eq
    refine ⟨_, rfl, wpAny_letOwnedTupleGo_zip (s := { s with heap := h', toks := tk }) z' fun h'' z'' sb => ?_⟩
    have pairAt : h''.get? s.heap.objs.size = some { cls := .type "tuple", data := .seq #[u, v] } := (sb.2 _ (Nat.ne_of_gt ltz)).trans hT
    have new : ObjOk X.prog X.w (upd H s.heap.objs.size (.tup [x, y])) h'' s.heap.objs.size (.tup [x, y]) :=
      ⟨by show 2 ≤ sizeLine; decide, [u, v], .cons eu (.cons ev .nil), ⟨_, pairAt, rfl, _, rfl⟩⟩
    have stay : ∀ c o, c ∉ [z, TI, TO, i1, i2] → s.heap.get? c = some o → h''.get? c = some o := fun c o hc e => by
      simp only [List.mem_cons, List.not_mem_nil, or_false, not_or] at hc
      exact (sb.2 c hc.1).trans (hk c o hc.1 hc.2.2.1 hc.2.2.2.1 hc.2.2.2.2 e)
    have I1 : Inv X pins σ (upd H s.heap.objs.size (.tup [x, y])) { s with heap := h'', toks := tk } := I.turnedNew (ch := [z, TI, TO, i1, i2]) stay hf (Nat.le_refl _) new
    refine ⟨.ref s.heap.objs.size, _, I1, rfl, ⟨_, x, y, rfl, I.hok.fresh (Nat.le_refl _), rfl, fun l hl => by rw [sqB_inj I hl cx]; exact hx, fun l hl => by rw [sqB_inj I hl cy]; exact hy⟩,
      ⟨z'', ?_, ⟨u, v, ?_⟩, ?_, ?_⟩, fun c hcm => ?_⟩
    · exact (sb.2 _ S.TIz).trans (hk _ _ S.TIz S.TITO S.TIi1 S.TIi2 hTI)
    · exact (sb.2 _ S.TOz).trans TO'
    · exact s1'.1.keep fun o e => (sb.2 _ S.zi1.symm).trans e
    · exact s2'.1.keep fun o e => (sb.2 _ S.zi2.symm).trans e
    · have five : c = z ∨ c = TI ∨ c = TO ∨ c = i1 ∨ c = i2 := by simpa using hcm
      have lt : c < s.heap.objs.size := by
        rcases five with e | e | e | e | e <;> rw [e]
        · exact ltz
        · exact Heap.lt_size hTI
        · exact Heap.lt_size hTO
        · obtain ⟨o, e1, _⟩ := t1.obj; exact Heap.lt_size e1
        · obtain ⟨o, e1, _⟩ := t2.obj; exact Heap.lt_size e1
      rw [upd_ne (Nat.ne_of_lt lt)]
      exact (hf c hcm).1
  done := by
    intro X hP hw hK hc i pins s σ H E I hf ⟨isZ, hTI, ⟨x0, y0, hTO⟩, t1, t2⟩ ⟨xs, ys, cx, cy, le1, le2, hend⟩
    subst hP hw hK
    obtain ⟨us, ru, pu⟩ := sqB_of I cx
    obtain ⟨vs, rv, pv⟩ := sqB_of I cy
    have l1 := ru.length
    have l2 := rv.length
    have hd : X.A.in1.handled = none := I.ok.hd hc
    have n1 : a ≠ i1 := fun e => by
      cases k
      · obtain ⟨o1, g1, c1, _⟩ := (show s.heap.IsTupleIter i1 a i from t1)
        obtain ⟨o2, g2, c2, _⟩ := (show s.heap.IsTuple a us.toArray from pu)
        rw [e, g1] at g2; cases g2; rw [c1] at c2; injection c2 with c3; exact absurd c3 (by decide)
      · obtain ⟨o1, g1, c1, _⟩ := (show s.heap.IsListIter i1 a i from t1)
        obtain ⟨o2, g2, c2, _⟩ := (show s.heap.IsList a us.toArray from pu)
        rw [e, g1] at g2; cases g2; rw [c1] at c2; injection c2 with c3; exact absurd c3 (by decide)
    have n2 : b ≠ i2 := fun e => by
      cases l
      · obtain ⟨o1, g1, c1, _⟩ := (show s.heap.IsTupleIter i2 b i from t2)
        obtain ⟨o2, g2, c2, _⟩ := (show s.heap.IsTuple b vs.toArray from pv)
        rw [e, g1] at g2; cases g2; rw [c1] at c2; injection c2 with c3; exact absurd c3 (by decide)
      · obtain ⟨o1, g1, c1, _⟩ := (show s.heap.IsListIter i2 b i from t2)
        obtain ⟨o2, g2, c2, _⟩ := (show s.heap.IsList b vs.toArray from pv)
        rw [e, g1] at g2; cases g2; rw [c1] at c2; injection c2 with c3; exact absurd c3 (by decide)
    have D1 := drawsB (P := X.prog) (w := X.w) hd k i1 a n1 us.toArray
    have D2 := drawsB (P := X.prog) (w := X.w) hd l i2 b n2 vs.toArray
    refine wpAny_pyNext_zipD2_end S D1 D2 isZ hTI hTO ⟨t1, pu⟩ ⟨t2, pv⟩ (by rw [List.size_toArray]; omega) (by rw [List.size_toArray]; omega) (by rw [List.size_toArray, List.size_toArray]; omega) fun h' tk hk => ⟨rfl, ?_⟩
    refine I.turnedL (t' := tk) (ch := [z, TI, TO, i1, i2]) (fun c o hc e => ?_) hf
    simp only [List.mem_cons, List.not_mem_nil, or_false, not_or] at hc
    exact hk c o hc.1 hc.2.2.1 hc.2.2.2.1 hc.2.2.2.2 e
  self := fun A i s Q E st go => wpAny_pyIter_zip st.1 go
/-- zip of two, each a list or a tuple -/
def iZm (K : PySem.W.Frag) (ta : TA) : TI := fun σ H R => ta σ H fun vs H1 => ∃ (k l : Bool) (a b : Addr) (xs ys : List V), vs = [.ref a, .ref b] ∧ SqB k K H1 a xs ∧ SqB l K H1 b ys ∧ R (Itm K k l a b) H1
theorem pi_zm {X : Cx} {e e2 : Expr} {ta : TA} {p pos tpos : Pos} {elts : List Expr} {kk : Nat} (hg : Gl X "zip") (hm : X.mg "zip" = none) (ha : PA X [e, e2] ta)
    (st : starEach [e, e2] X.env = (false, eval e X.env) :: starEach [e2] X.env := by rfl) (nost : (backTo pos (starEach [e2] X.env)).any (·.1) = false := by rfl) :
    PI X (.Tuple elts kk tpos) (.Call (.Name "zip" p) [e, e2] [] pos) (iZm X.K ta) := by
  refine ⟨fun pins s σ H R I h => ?_⟩
  refine PyProof.Rows.Call_ (ld_blt I hg hm PyProof.Rows.boot_zip (PyProof.Rows.callWith_type1 (thn (ha.run pos pins s σ H _ I h) fun us s1 ⟨vs, H1, I1, r1, q1⟩ => ?_) st nost))
  obtain ⟨k, l, a, b, xs, ys, ex, cx, cy, q1⟩ := q1
  subst ex
  cases r1 with
  | cons r rr =>
    cases rr with
    | cons r' rr =>
      cases rr
      cases r
      cases r'
      obtain ⟨u, ru, pu⟩ := sqB_of I1 cx
      obtain ⟨v, rv, pv⟩ := sqB_of I1 cy
      have apart : ∀ c ∈ [s1.heap.objs.size + 4, s1.heap.objs.size + 2, s1.heap.objs.size + 3, s1.heap.objs.size, s1.heap.objs.size + 1], FpOk X pins H1 c := fun c hc => by
        have five : c = s1.heap.objs.size + 4 ∨ c = s1.heap.objs.size + 2 ∨ c = s1.heap.objs.size + 3 ∨ c = s1.heap.objs.size ∨ c = s1.heap.objs.size + 1 := by simpa using hc
        have le : s1.heap.objs.size ≤ c := by
          rcases five with z | z | z | z | z
          · rw [z]; exact Nat.le_add_right ..
          · rw [z]; exact Nat.le_add_right ..
          · rw [z]; exact Nat.le_add_right ..
          · rw [z]; exact Nat.le_refl _
          · rw [z]; exact Nat.le_add_right ..
        exact I1.fpOk le (I1.hok.fresh le)
      refine zip_begins2 (beginsB k a u.toArray) (beginsB l b v.toArray) pu pv fun h' isZ hTI hTO g1 g2 hsz hk => wpAny_pyIter_zip isZ ?_
      refine ⟨s1.heap.objs.size + 4, [s1.heap.objs.size + 4, s1.heap.objs.size + 2, s1.heap.objs.size + 3, s1.heap.objs.size, s1.heap.objs.size + 1], _, _, H1, rfl, I1.kept (t' := s1.toks) hk,
        turnM (k := k) (l := l) (zip_sep2 (fp1 := [a]) (fp2 := [b]) (fun c hc => ?_) (fun c hc => ?_)), ⟨isZ, hTI, ⟨_, _, hTO⟩, oB_it g1, oB_it g2⟩, apart, q1⟩
      · rw [show c = a from by simpa using hc]; exact pu.lt
      · rw [show c = b from by simpa using hc]; exact pv.lt
theorem k_zm {X : Cx} {K : PySem.W.Frag} {e e2 : Expr} {ta : TA} {p pos tpos : Pos} {elts : List Expr} {kk : Nat} (ek : X.K = K) (hg : Gl X "zip") (hm : X.mg "zip" = none) (ha : PA X [e, e2] ta)
    (st : starEach [e, e2] X.env = (false, eval e X.env) :: starEach [e2] X.env := by rfl) (nost : (backTo pos (starEach [e2] X.env)).any (·.1) = false := by rfl) :
    PI X (.Tuple elts kk tpos) (.Call (.Name "zip" p) [e, e2] [] pos) (iZm K ta) := by subst ek; exact pi_zm hg hm ha st nost
section
variable {K : PySem.W.Frag} {g : TG} {tt : TT} {te : TE} {vs : List Nat} {σ σ0 : L2.St} {H : Hp} {Q : VK} {a b : Addr} {R : It → Hp → Prop} {k l : Bool}
def ZmR (K : PySem.W.Frag) (vs : List V) (R : It → Hp → Prop) (H : Hp) : Prop := ∃ (k l : Bool) (a b : Addr) (xs ys : List V), vs = [.ref a, .ref b] ∧ SqB k K H a xs ∧ SqB l K H b ys ∧ R (Itm K k l a b) H
theorem g_iZm {ta : TA} (h : ta σ H fun ws H1 => ZmR K ws R H1) : iZm K ta σ H R := h
theorem g_zm {xs ys : List V} (c : SqB k K H a xs) (d : SqB l K H b ys) (h : R (Itm K k l a b) H) : ZmR K [.ref a, .ref b] R H := ⟨k, l, a, b, xs, ys, rfl, c, d, h⟩
theorem sqB_same {xs : List V} {H' : Hp} (c : SqB k K H a xs) (e : L2.Same H H') : SqB k K H' a xs := by
  cases k
  · exact seqT_same e (show SqT K H a xs from c)
  · exact e.seq (show SqL K H a xs from c)
theorem lcM {xs ys : List V} (len : xs.length = ys.length) (hw : wipe σ vs = σ0) (h : ∀ D, H D = none → ∃ Pv : Nat → Hp → Prop, Pv 0 (upd H D (.lst [])) ∧ (∀ i H', Pv i H' → SqB k K H' a xs ∧ SqB l K H' b ys) ∧
    (∀ (i : Nat) (x y : V) (T : Addr) (H' : Hp), xs[i]? = some x → ys[i]? = some y → Pv i H' → H' T = none → Turn1 g tt te vs σ0 D (.ref T) (upd H' T (.tup [x, y])) (Pv (i + 1))) ∧
    ∀ H', Pv xs.length H' → Q (.ref D) H') : LcG (Itm K k l a b) g tt te vs σ Q H := by
  subst hw
  intro D hD
  obtain ⟨Pv, h0, hq, hs, fin⟩ := h D hD
  refine ⟨fun i m H => m = xs.length - i ∧ i ≤ xs.length ∧ Pv i H, ⟨xs.length, by simp, Nat.zero_le _, h0⟩, ?_⟩
  rintro i m H ⟨rfl, hi, p⟩
  obtain ⟨q1, q2⟩ := hq i H p
  rcases Nat.lt_or_ge i xs.length with lt | ge
  · exact .inr ⟨⟨xs, ys, xs[i], ys[i]'(by omega), q1, q2, by simp [lt], by simp⟩, Pv (i + 1), fun H' p' => ⟨xs.length - (i + 1), by omega, rfl, lt, p'⟩,
      fun v H' ⟨T, x, y, e1, e2, e3, e4, e5⟩ => by subst e1 e3; exact hs i x y T _ (e4 xs q1) (e5 ys q2) p e2⟩
  · have e : i = xs.length := by omega
    subst e
    exact .inl ⟨⟨xs, ys, q1, q2, Nat.le_refl _, by omega, .inl rfl⟩, fin H p⟩
end
section
variable {K : PySem.W.Frag} {g : TG} {tt : TT} {te : TE} {tb : TS} {vs : List Nat} {D0 : Ends} {σ σ0 : L2.St} {H : Hp} {Q : VK} {J : It} {a : Addr}
theorem lcT {xs : List V} (hw : wipe σ vs = σ0) (h : ∀ D, H D = none → ∃ Pv : Nat → Hp → Prop, Pv 0 (upd H D (.lst [])) ∧ (∀ i H', i ≤ xs.length → Pv i H' → SqT K H' a xs) ∧
    (∀ (i : Nat) (x : V) (H' : Hp), xs[i]? = some x → Pv i H' → Turn1 g tt te vs σ0 D x H' (Pv (i + 1))) ∧ ∀ H', Pv xs.length H' → Q (.ref D) H') : LcG (Itt K a) g tt te vs σ Q H := by
  subst hw
  intro D hD
  obtain ⟨Pv, h0, hl, hs, hd⟩ := h D hD
  refine ⟨fun i m H => m = xs.length - i ∧ i ≤ xs.length ∧ Pv i H, ⟨xs.length, by simp, Nat.zero_le _, h0⟩, ?_⟩
  rintro i m H ⟨rfl, hi, p⟩
  have q := hl i H hi p
  rcases Nat.lt_or_ge i xs.length with hlt | hge
  · exact .inr ⟨⟨xs, xs[i], q, by simp [hlt]⟩, Pv (i + 1), fun H' p' => ⟨xs.length - (i + 1), by omega, rfl, hlt, p'⟩, fun x H' ⟨e1, e2⟩ => by subst e1; exact hs i x _ (e2 xs q) p⟩
  · have e : i = xs.length := by omega
    subst e
    exact .inl ⟨⟨xs, q, Nat.le_refl _⟩, hd H p⟩
theorem lcPT {S : List Int} {f : Int → V} {p : Int → Bool} (hw : wipe σ vs = σ0) (hS : SqT K H a (S.map V.int)) (hl : S.length ≤ 1000)
    (turn : ∀ (D : Addr) (acc : List V) (x : Int) (N : Hp → Prop), H D = none → x ∈ S → (p x = true → TurnD D N (f x) (upd H D (.lst acc))) → (p x = false → N (upd H D (.lst acc))) →
      Turn1 g tt te vs σ0 D (.int x) (upd H D (.lst acc)) N)
    (q : ∀ D, H D = none → Q (.ref D) (upd H D (.lst ((S.filter p).map f)))) : LcG (Itt K a) g tt te vs σ Q H := by
  refine lcT (xs := S.map V.int) hw fun D hD => ⟨fun i H' => H' = upd H D (.lst (((S.take i).filter p).map f)), rfl, ?_, ?_, ?_⟩
  · rintro i H' _ rfl
    exact seqT_same (same_new hD) hS
  · rintro i x H' hx rfl
    rw [List.getElem?_map, Option.map_eq_some_iff] at hx
    obtain ⟨n, hn, rfl⟩ := hx
    have hlt : i < S.length := (List.getElem?_eq_some_iff.mp hn).1
    refine turn D _ n _ hD (List.mem_of_getElem? hn) (fun hp => g_turnD upd_same ?_ ?_) (fun hp => ?_)
    · rw [List.length_map]
      have h1 := List.length_filter_le p (S.take i)
      rw [List.length_take] at h1
      omega
    · dsimp only
      rw [upd_upd, List.take_add_one, hn, List.filter_append, List.map_append]
      simp [hp]
    · dsimp only
      rw [List.take_add_one, hn, List.filter_append]
      simp [hp]
  · rintro H' rfl
    rw [List.length_map, List.take_length]
    exact q D hD
end
/-! a comprehension within a comprehension -/
theorem blkOk_rel {N : List Str} {sc scope S : Scope} {own : List (Str × Nat)} (h : blkC N (relS S sc) scope own = true) : BlkOk N (relS S sc) scope own := blkOk_by h
theorem ps_weak {X : Cx} {st : Stmt} {t u : TS} (h : PS X st t) (wk : ∀ D σ H, u D σ H → t D σ H) : PS X st u := ⟨fun pins s σ H D I q => h.run pins s σ H D I (wk D σ H q)⟩
end Q

set_option Elab.async false
set_option linter.all false
set_option maxRecDepth 100000
set_option maxHeartbeats 2000000
/-! classes: methods called with keywords and defaults, properties, own len, repr, bool -/
namespace PySem
/-- a built-in type called: what its __new__ does in this program and World -/
theorem qTypeIn {prog : Program} {w : World} {A : Around} {E : Value → Shared → Prop} {s : Shared} {T newId : String} {Bn : Builtin} {args : List Value} {S : Spec} {Q : Value → Shared → Prop} (ft : TypeCalled T newId "object.__init__")
    (ne : (some newId != some "object.__new__") = true) (c1 : checkTypeCall T ⟨args, []⟩ = pure ()) (c2 : checkBuiltinCall newId ⟨.type T :: args, []⟩ = pure ())
    (ok : ∀ obj, argsOk "object.__init__" ⟨obj :: args, []⟩) (en : entryFor table newId = some Bn) (g : MeetsIn prog w (Bn ⟨.type T :: args, []⟩) S)
    (h : S A.in1 (wants (fun obj t => t.TypeIs obj T ∧ Q obj t) E) s) : wpAny (model prog w) A (call (.type T) args) Q E s := by
  obtain ⟨c, tl, hmro⟩ := ft.mro
  have x1 := ft.made
  have x2 := ft.sub
  have x3 := ft.notType
  have x4 := ft.canCreate
  refine wpAny_call (codeAny_of_tree ?_)
  show wpAny _ _ (callAny (.type T) _) _ _ _
  refine wpAny_pure ⟨Code.quiet_builtin _ (by decide +kernel), codeAny_builtin F.entry_type_call ?_⟩
  rw [Around.under_plain (weight_type_call_type T args []) (units_type_call_type T args [])]
  repeat (any_goals (first | assumption | wp_step))
  refine codeAny_mono (codeAny_call_builtin ft.plain en (wpAny_of_eq c2 (g A.in1 _ s h))) fun res t hres => ?_
  cases res with
  | error e => exact hres
  | ok fl =>
    cases fl with
    | ret obj =>
      obtain ⟨tyO, hq⟩ := hres
      have y1 := ft.init.lookup
      have y2 := ft.init.bind obj
      repeat (any_goals (first | assumption | wp_step))
      refine codeAny_mono (codeAny_call_builtin ft.init.plain F.entry_object_init (ft.init.check _ _ _ _ _ _ _ _ tyO (ok obj)
        (object_init_meets ft.init.lookup ft.made ne prog w A.in1 (wants (fun r t2 => r = .none ∧ Q obj t2) E) t ⟨tyO, rfl, hq⟩))) fun res2 t2 hres2 => ?_
      cases res2 with
      | error e => exact hres2
      | ok fl2 =>
        cases fl2 with
        | ret r =>
          obtain ⟨rfl, hq2⟩ := hres2
          repeat (any_goals (first | assumption | wp_step))
        | _ => exact hres2.elim
    | _ => exact hres.elim
theorem qBoolIn {prog : Program} {w : World} {x : Value} :
    MeetsIn prog w (Builtin.«bool.__new__» ⟨[.type "bool", x], []⟩) (fun A R s => wpAny (model prog w) A.in1 (truthy x) (fun b t => R (.ok (.ret (.bool b))) t) (fun e t => R (.error e) t) s) :=
  MeetsIn.of_wp fun A R s hs => by
    obtain ⟨hp, g, d, tk, os⟩ := s
    have sb := F.conv_sub_bool
    repeat (any_goals (first | assumption | (refine wpAny_bind (wpAny_mono hs (fun b t hb => ?_) fun _ _ z => z)) | wp_step))
    all_goals first | exact ⟨_, rfl, hb⟩ | skip
end PySem
namespace Q
open PySem PySem.Spec L2
/-- what a caller of a method needs: n values by position behind self, the keywords ks; the rest by the defaults -/
structure MKCal (P : Program) (w : World) (K : PySem.W.Frag) (mg : Str → Option Value) (base : Heap) (C : Addr) (m : Str) (k n : Nat) (ks : List Str) (gV : List V → List V → List V) (sp : Sp) : Prop where
  ex : ∃ (f : Addr) (fd : FuncData) (ps : List Str) (g : List Value → List Value → List Value), Meth K C m f ∧ FnOk P w K mg base CX0 k f fd ps sp ∧ KBn K fd ps (n + 1) ks g gV
/-- what a caller of a class needs -/
structure MkK (P : Program) (w : World) (K : PySem.W.Frag) (mg : Str → Option Value) (base : Heap) (C : Addr) (k n : Nat) (ks : List Str) (gV : List V → List V → List V) (sp : Sp) : Prop where
  ex : ∃ (f : Addr) (fd : FuncData) (ps : List Str) (g : List Value → List Value → List Value), Mk K C f ∧ FnOk P w K mg base CX0 k f fd ps sp ∧ KBn K fd ps (n + 1) ks g gV
/-- a property -/
structure PropC (P : Program) (w : World) (K : PySem.W.Frag) (mg : Str → Option Value) (base : Heap) (C : Addr) (x : Str) (k : Nat) (sp : Sp) : Prop where
  ex : ∃ (p g : Addr) (fd : FuncData), PropOf K C x p g ∧ FnOk P w K mg base CX0 k g fd ["self"] sp ∧ Binds K fd ["self"] []
def tMethN (C : Addr) (m : Str) (n j : Nat) (sp : Sp) (gV : List V → List V → List V) (E : XK) (to : TE) (t tk : TA) : TE := fun σ H Q => to σ H fun x H1 => ∃ a dx fs, x = .ref a ∧ H1 a = some (.ins C dx fs) ∧ fs.lookup m = none ∧
  t σ H1 fun vs H2 => tk σ H2 fun zs H3 => vs.length = n ∧ zs.length = j ∧ sp (gV (.ref a :: vs) zs) H3 Q E
section
variable {X : Cx} {C : Addr} {m x : Str} {k n : Nat} {ks ps : List Str} {gV : List V → List V → List V} {sp : Sp} {o e : Expr} {es : List Expr} {kws : List Keyword} {to : TE} {t tk : TA} {p pos apos : Pos}
theorem pe_mkcal {pl : Sem Bool} (he : PE X o to) (c : Cls X.K C) (M : MKCal X.prog X.w X.K X.mg X.base C m k n ks gV sp) (hr : Room k X.A) (ha : PA X (e :: es) t) (hkw : PK X kws tk)
    (some_ : (backToKw pos (keywordEach kws X.env)).all (·.1.isSome) = true := by rfl) (names : (backToKw pos (keywordEach kws X.env)).filterMap (·.1) = ks := by rfl)
    (st : starEach (e :: es) X.env = (false, eval e X.env) :: starEach es X.env := by rfl)
    (nost : ((backTo pos (starEach (e :: es) X.env)).any (·.1) || (backToKw pos (keywordEach kws X.env)).any (·.1.isNone)) = false := by rfl)
    (shape : eval (.Call (.Attribute o m apos) (e :: es) kws pos) X.env = (do
      let self_ ← eval o X.env
      standAt apos.atName
      let (fn, first) ← holding [self_] (getMethod self_ m pl)
      callWith pos fn first (backTo pos (starEach (e :: es) X.env)) (backToKw pos (keywordEach kws X.env))) := by rfl) :
    PE X (.Call (.Attribute o m apos) (e :: es) kws pos) (tMethN C m n ks.length sp gV E0 to t tk) := by
  obtain ⟨f, fd, ps, g, hm, F, hb⟩ := M.ex
  refine ⟨fun pins s σ H Q I h => ?_⟩
  refine PySem.W.methodCall_KW (pl := pl) (thn (he.run pins s σ H _ I h) fun u s1 ⟨y, H1, I1, ry, a, dx, fs, ey, ea, l, q⟩ => ?_) shape
  subst ey
  obtain rfl : u = Value.ref a := ry
  refine getmeth_ok I1 ea c hm l ?_
  refine PySem.W.callWith_KW (first := [.ref a]) (h₀ := X.base) I.ok.mod.kin hm.kp some_ (thn (ha.run pos pins s1 σ H1 _ I1 q) fun us s2 ⟨vs, H2, I2, r, q2⟩ => ?_) nost st
  refine thn (hkw.run pos pins s2 σ H2 _ I2 q2) fun ws s3 ⟨zs, H3, I3, rz, l1, l2, q3⟩ => ⟨I3.kIn, ?_⟩
  rw [names]
  exact run_fnN (us := .ref a :: us) (vs := .ref a :: vs) F hr hb pass0 I3 (.cons rfl r) rz (by rw [List.length_cons, l1]) l2 q3
theorem pe_mkcal0 {pl : Sem Bool} (he : PE X o to) (c : Cls X.K C) (M : MKCal X.prog X.w X.K X.mg X.base C m k 0 ks gV sp) (hr : Room k X.A) (hkw : PK X kws tk)
    (some_ : (backToKw pos (keywordEach kws X.env)).all (·.1.isSome) = true := by rfl) (names : (backToKw pos (keywordEach kws X.env)).filterMap (·.1) = ks := by rfl)
    (nost : ((backTo pos (starEach [] X.env)).any (·.1) || (backToKw pos (keywordEach kws X.env)).any (·.1.isNone)) = false := by rfl)
    (shape : eval (.Call (.Attribute o m apos) [] kws pos) X.env = (do
      let self_ ← eval o X.env
      standAt apos.atName
      let (fn, first) ← holding [self_] (getMethod self_ m pl)
      callWith pos fn first (backTo pos (starEach [] X.env)) (backToKw pos (keywordEach kws X.env))) := by rfl) :
    PE X (.Call (.Attribute o m apos) [] kws pos) (tMethN C m 0 ks.length sp gV E0 to tNil tk) := by
  obtain ⟨f, fd, ps, g, hm, F, hb⟩ := M.ex
  refine ⟨fun pins s σ H Q I h => ?_⟩
  refine PySem.W.methodCall_KW (pl := pl) (thn (he.run pins s σ H _ I h) fun u s1 ⟨y, H1, I1, ry, a, dx, fs, ey, ea, l, q⟩ => ?_) shape
  subst ey
  obtain rfl : u = Value.ref a := ry
  refine getmeth_ok I1 ea c hm l ?_
  refine PySem.W.callWith_KW0 (first := [.ref a]) (h₀ := X.base) I.ok.mod.kin hm.kp some_ ?_ nost
  refine thn (hkw.run pos pins s1 σ H1 _ I1 q) fun ws s3 ⟨zs, H3, I3, rz, l1, l2, q3⟩ => ⟨I3.kIn, ?_⟩
  rw [names]
  exact run_fnN (us := [.ref a]) (vs := [.ref a]) F hr hb pass0 I3 (.cons rfl .nil) rz rfl l2 q3
theorem pe_mkk (hm : X.mg x = some (.ref C)) (M : MkK X.prog X.w X.K X.mg X.base C k n ks gV sp) (hr : Room (k + 1) X.A) (hg : Gl X x) (ha : PA X (e :: es) t) (hkw : PK X kws tk)
    (some_ : (backToKw pos (keywordEach kws X.env)).all (·.1.isSome) = true := by rfl) (names : (backToKw pos (keywordEach kws X.env)).filterMap (·.1) = ks := by rfl)
    (dbg : (x == ("__debug__" : Str)) = false := by decide) (st : starEach (e :: es) X.env = (false, eval e X.env) :: starEach es X.env := by rfl)
    (nost : ((backTo pos (starEach (e :: es) X.env)).any (·.1) || (backToKw pos (keywordEach kws X.env)).any (·.1.isNone)) = false := by rfl) :
    PE X (.Call (.Name x p) (e :: es) kws pos) (tMakeK C n ks.length sp gV E0 t tk) := by
  obtain ⟨f, fd, ps, g, hmk, F, hb⟩ := M.ex
  exact pe_makeK hmk F hr hg hm hb pass0 ha hkw some_ names dbg st nost
theorem pe_mkk0 (hm : X.mg x = some (.ref C)) (M : MkK X.prog X.w X.K X.mg X.base C k 0 ks gV sp) (hr : Room (k + 1) X.A) (hg : Gl X x) (hkw : PK X kws tk)
    (some_ : (backToKw pos (keywordEach kws X.env)).all (·.1.isSome) = true := by rfl) (names : (backToKw pos (keywordEach kws X.env)).filterMap (·.1) = ks := by rfl)
    (dbg : (x == ("__debug__" : Str)) = false := by decide)
    (nost : ((backTo pos (starEach [] X.env)).any (·.1) || (backToKw pos (keywordEach kws X.env)).any (·.1.isNone)) = false := by rfl) :
    PE X (.Call (.Name x p) [] kws pos) (tMakeK C 0 ks.length sp gV E0 tNil tk) := by
  obtain ⟨f, fd, ps, g, hmk, F, hb⟩ := M.ex
  exact pe_makeK0 hmk F hr hg hm hb pass0 hkw some_ names dbg nost
theorem pe_propc (he : PE X o to) (c : Cls X.K C) (M : PropC X.prog X.w X.K X.mg X.base C x k sp) (hr : Room (k + 1) X.A) (hab : attributeBase o x X.env (eval o X.env) = eval o X.env) :
    PE X (.Attribute o x pos) (tProp C sp [] E0 to) := by
  obtain ⟨pa, g, fd, hp, F, hb⟩ := M.ex
  exact pe_prop he c hp F hr hb .nil pass0 hab
end
/-! own len, repr, bool -/
section
variable {X : Cx} {C : Addr} {k : Nat} {ps : List Str} {sp : Sp}
/-- a def called with one object, in the room of a built-in that asks it -/
theorem run_own {pins : List (Addr × Obj)} {σ : L2.St} {H : Hp} {s : Shared} {A : Around} {m : Str} {a : Addr} {Q : VK} {f : Addr} {fd : FuncData} (F : FnOk X.prog X.w X.K X.mg X.base CX0 k f fd ps sp) (hb : Binds X.K fd ps []) (hr : Room k A) (fr : A.frames = X.A.frames)
    (I : Inv X pins σ H s) (h : sp [.ref a] H Q E0) : wpAny (model X.prog X.w) A (call (.ref f) [.ref a]) (EP X pins σ Q) X.xe s := by
  have e0 : Env0 X.prog X.w X.K X.mg X.base A X.stack s H := by
    have e := I.env0
    exact ⟨by rw [fr]; exact e.frames, e.mod, e.bs, e.bsz, e.funs, e.frf, e.hok, e.bare⟩
  have hl := F.len _ _ _ _ h
  have bt : BindsTo s fd ⟨[.ref a], []⟩ (ps.zip [.ref a]) := by
    have z := hb s [.ref a] I.kIn (by simpa using hl)
    simpa using z
  refine wpAny_call (codeAny_mono (F.run A X.stack s H ⟨[.ref a], []⟩ [.ref a] [.ref a] Q E0 hr e0 bt (.cons rfl .nil) h) fun res t hres => ?_)
  cases res with
  | error e => exact pass0 pins σ H s e t I hres
  | ok fl =>
    cases fl with
    | ret u =>
      obtain ⟨z, H', I', rz, ez⟩ := I.after hres
      exact ⟨z, H', I', rz, ez⟩
    | next => exact False.elim hres
    | brk => exact False.elim hres
    | cont => exact False.elim hres
def rOwnLen (C : Addr) (sp : Sp) : List V → Hp → VK → Prop := fun xs H Q => ∃ a dx fs, xs = [.ref a] ∧ H a = some (.ins C dx fs) ∧ sp [.ref a] H (fun v H' => ∃ n : Int, v = .int n ∧ 0 ≤ n ∧ n < 2 ^ 63 ∧ Q (.int n) H') E0
theorem call_ownLen (M : MCal X.prog X.w X.K X.mg X.base C "__len__" k ps sp) (hr : Room (k + 1) X.A) : CallR X (.builtin "len") (rOwnLen C sp) := by
  intro pins s σ H xs us Q I r h
  obtain ⟨a, dx, fs, rfl, ha, hs⟩ := h
  obtain rfl := Vals.ref1 r
  obtain ⟨f, fd, hm, F, hb⟩ := M.ex
  obtain ⟨_, J, _⟩ := ins_get I.hok ha
  obtain ⟨od, J, _⟩ := J.look
  obtain ⟨mm, hF⟩ := I.fr
  refine PySem.W.len_K hF I.ok.mod.kin J hm.at_ hm.fn (thn (run_own (m := "__len__") F hb hr.in1 rfl I hs) fun u t ⟨z, H', I', rz, n, ez, n0, n1, q⟩ => ?_)
  subst ez
  obtain ⟨tk, rfl⟩ := rz
  exact ⟨⟨n0, n1⟩, .int n, H', I'.tok _, ⟨_, rfl⟩, q⟩
def rOwnRepr (C : Addr) (sp : Sp) : List V → Hp → VK → Prop := fun xs H Q => ∃ a dx fs, xs = [.ref a] ∧ H a = some (.ins C dx fs) ∧ sp [.ref a] H (fun v H' => ∃ z : Str, v = .str z ∧ Q (.str z) H') E0
theorem call_ownRepr (M : MCal X.prog X.w X.K X.mg X.base C "__repr__" k ps sp) (hr : Room (k + 1) X.A) : CallR X (.builtin "repr") (rOwnRepr C sp) := by
  intro pins s σ H xs us Q I r h
  obtain ⟨a, dx, fs, rfl, ha, hs⟩ := h
  obtain rfl := Vals.ref1 r
  obtain ⟨f, fd, hm, F, hb⟩ := M.ex
  obtain ⟨_, J, _⟩ := ins_get I.hok ha
  obtain ⟨od, J, _⟩ := J.look
  obtain ⟨mm, hF⟩ := I.fr
  refine PySem.W.repr_K hr.in1.units0 hF I.ok.mod.kin J hm.at_ hm.fn (thn (run_own (m := "__repr__") F hb hr.in1 rfl I hs) fun u t ⟨z, H', I', rz, x, ez, q⟩ => ?_)
  subst ez
  obtain ⟨tk, rfl⟩ := rz
  exact ⟨.str x, H', I', ⟨_, rfl⟩, q⟩
def rOwnBool (C : Addr) (sp : Sp) : List V → Hp → VK → Prop := fun xs H Q => ∃ a dx fs, xs = [.ref a] ∧ H a = some (.ins C dx fs) ∧ sp [.ref a] H (fun v H' => ∃ b : Bool, v = .bl b ∧ Q (.bl b) H') E0
theorem call_ownBool (M : MCal X.prog X.w X.K X.mg X.base C "__bool__" k ps sp) (hr : Room (k + 2) X.A) : CallR X (.type "bool") (rOwnBool C sp) := by
  intro pins s σ H xs us Q I r h
  obtain ⟨a, dx, fs, rfl, ha, hs⟩ := h
  obtain rfl := Vals.ref1 r
  obtain ⟨f, fd, hm, F, hb⟩ := M.ex
  obtain ⟨_, J, _⟩ := ins_get I.hok ha
  obtain ⟨od, J, _⟩ := J.look
  obtain ⟨mm, hF⟩ := I.fr
  refine qTypeIn PySem.F.called_bool PySem.F.newNe_bool (PySem.F.typeCall_bool_1 _) (PySem.F.newCall_bool_1 _) (fun obj => PySem.F.args_object_init_2 obj _) PySem.F.entry_bool_new qBoolIn ?_
  refine PySem.W.truthy_K hF I.ok.mod.kin J hm.at_ hm.fn (thn (run_own (m := "__bool__") F hb hr.in1.in1 rfl I hs) fun u t ⟨z, H', I', rz, b, ez, q⟩ => ?_)
  subst ez
  obtain rfl := rz
  exact ⟨typeIs_bool _ _, .bl b, H', I', rfl, q⟩
end
/-! the head's facts about properties -/
def prpP (K : PySem.W.Frag) (c x : Str) : Addr := match PySem.W.findIn K (.ref (He.ga K c)) x with
  | some (some (.ref p)) => p
  | _ => 0
def prpG (K : PySem.W.Frag) (c x : Str) : Addr := match PySem.W.recIn K (prpP K c x) "property" with
  | some (.ref g :: _) => g
  | _ => 0
structure PrpD where
  cls : Str
  attr : Str
  name : Str
  qual : Str
  params : Arguments
  body : List Stmt
  scope : Scope
def PrpD.ok (K : PySem.W.Frag) (d : PrpD) : Bool := He.eqO (PySem.W.findIn K (.ref (He.ga K d.cls)) d.attr) (some (some (.ref (prpP K d.cls d.attr)))) &&
  (He.eqO (PySem.W.specialIn K (.ref (prpP K d.cls d.attr)) "__get__") (some (some (.builtin "property.__get__"))) && (decide (PySem.W.takesIn K (.ref (prpP K d.cls d.attr)) = some true) &&
  (decide ((PySem.W.recIn K (prpP K d.cls d.attr) "property").map (·.head?) = some (some (.ref (prpG K d.cls d.attr)))) && (PySem.W.keepIn K (.ref (prpG K d.cls d.attr)) &&
  (match K.lookup (prpG K d.cls d.attr) with
    | some ⟨_, _, .func q, _⟩ => PySem.W.codeIn K q.code d.qual && (He.dflB K q.defaults [] && He.kwdB K q.kwdefaults [])
    | _ => false)))))
def PrpD.w (K : PySem.W.Frag) (d : PrpD) : He.FnW := match K.lookup (prpG K d.cls d.attr) with
  | some ⟨_, _, .func q, _⟩ => some (q.name, q.qualname, q.params, q.body, q.scope, q.globals, q.closure, q.builtins)
  | _ => none
def PrpD.val (d : PrpD) : He.FnW := some (d.name, d.qual, d.params, .stmts d.body, d.scope, mainGlobals, [], builtinsNs)
theorem PrpD.use {K : PySem.W.Frag} {d : PrpD} (e : d.w K = d.val) (c : d.ok K = true) : PropOf K (He.ga K d.cls) d.attr (prpP K d.cls d.attr) (prpG K d.cls d.attr) ∧ ∃ fd, FunD K d.name d.qual d.params d.body d.scope [] [] (prpG K d.cls d.attr) fd := by
  obtain ⟨c1, c⟩ := He.ba c
  obtain ⟨c2, c⟩ := He.ba c
  obtain ⟨c3, c⟩ := He.ba c
  obtain ⟨c4, c⟩ := He.ba c
  obtain ⟨c5, c6⟩ := He.ba c
  have r1 : ∃ rest, PySem.W.recIn K (prpP K d.cls d.attr) "property" = some (.ref (prpG K d.cls d.attr) :: rest) := by
    have z := of_decide_eq_true c4
    cases q : PySem.W.recIn K (prpP K d.cls d.attr) "property" with
    | none => rw [q] at z; cases z
    | some vs =>
      rw [q] at z
      cases vs with
      | nil => cases z
      | cons v r =>
        have z2 : some (some v) = some (some (Value.ref (prpG K d.cls d.attr))) := z
        injection z2 with z2
        injection z2 with z2
        exact ⟨r, by rw [z2]⟩
  refine ⟨⟨He.eqO_ok c1, He.eqO_ok c2, of_decide_eq_true c3, r1⟩, ?_⟩
  unfold PrpD.w at e
  cases q : K.lookup (prpG K d.cls d.attr) with
  | none => rw [q] at c6; cases c6
  | some ob =>
    obtain ⟨o1, o2, dat, o3⟩ := ob
    rw [q] at c6 e
    cases dat with
    | func fq =>
      obtain ⟨a1, a2, a3, a4, a5, a6, a7, a8, a9, b1, b2, b3, b4, b5, b6⟩ := fq
      have e2 : (some (a1, a2, a3, a4, a5, a6, a7, b6) : He.FnW) = some (d.name, d.qual, d.params, .stmts d.body, d.scope, mainGlobals, [], builtinsNs) := e
      simp only [Option.some.injEq, Prod.mk.injEq] at e2
      obtain ⟨rfl, rfl, rfl, rfl, rfl, rfl, rfl, rfl⟩ := e2
      have k0 : (PySem.W.codeIn K b4 d.qual && (He.dflB K a8 [] && He.kwdB K a9 [])) = true := c6
      obtain ⟨k1, k2⟩ := He.ba k0
      obtain ⟨k3, k4⟩ := He.ba k2
      exact ⟨_, ⟨o1, o2, a8, a9, b1, b2, b3, b4, b5, o3, rfl, q, k1, He.dflB_ok k3, He.kwdB_ok k4⟩, c5⟩
    | _ => cases c6
abbrev AlP : Type := He.AlD × (Bool × List He.FnW)
def obsP (fa : List He.Fa) (fn : List He.DefD) (pr : List PrpD) (K : PySem.W.Frag) : AlP := (He.obsD fa fn K, (pr.all fun d => d.ok K, pr.map fun d => d.w K))
def valP (fn : List He.DefD) (pr : List PrpD) : AlP := (He.valD fn, (true, pr.map PrpD.val))
structure SaysP (fa : List He.Fa) (fn : List He.DefD) (pr : List PrpD) (K : PySem.W.Frag) : Prop where
  eq : obsP fa fn pr K = valP fn pr
def obsPG (n : Nat) (fa : List He.Fa) (fn : List He.DefD) (pr : List PrpD) (g : Addr → Option Obj) : AlP := obsP fa fn pr (He.frG g (He.asD g n))
def hookP (n : Nat) (fa : List He.Fa) (fn : List He.DefD) (pr : List PrpD) : PySem.W.Hook where
  α := AlP
  obs := fun s => obsPG n fa fn pr s.heap.get?
  val := fun _ => valP fn pr
  says := fun _ h => ∃ K : PySem.W.Frag, K.In h ∧ SaysP fa fn pr K
  of := fun _ _ e => ⟨_, He.frG_in, ⟨e⟩⟩
  keeps := fun _ _ _ ⟨K, inK, c⟩ kp => ⟨K, PySem.W.Frag.In.keeps inK kp, c⟩
theorem obsPG_eq {n : Nat} {fa : List He.Fa} {fn : List He.DefD} {pr : List PrpD} {g : Addr → Option Obj} {s : Shared} (h : ∀ a, g a = s.heap.get? a) : obsPG n fa fn pr g = (hookP n fa fn pr).obs s := by
  obtain rfl : g = s.heap.get? := funext h
  rfl
section
variable {fa : List He.Fa} {fn : List He.DefD} {pr : List PrpD} {K : PySem.W.Frag}
theorem SaysP.d (c : SaysP fa fn pr K) : He.SaysD fa fn K := congrArg (fun z : AlP => z.1) c.eq
theorem SaysP.prp (c : SaysP fa fn pr K) (i : Nat) {d : PrpD} (h : pr[i]? = some d := by rfl) : PropOf K (He.ga K d.cls) d.attr (prpP K d.cls d.attr) (prpG K d.cls d.attr) ∧ ∃ fd, FunD K d.name d.qual d.params d.body d.scope [] [] (prpG K d.cls d.attr) fd := by
  have z := congrArg (fun z : AlP => z.2) c.eq
  have z1 : (pr.all fun d => d.ok K) = true := congrArg (fun z : Bool × List He.FnW => z.1) z
  have z2 : pr.map (fun d => d.w K) = pr.map PrpD.val := congrArg (fun z : Bool × List He.FnW => z.2) z
  have z3 : (pr.map fun d => d.w K)[i]? = (pr.map PrpD.val)[i]? := by rw [z2]
  rw [List.getElem?_map, List.getElem?_map, h] at z3
  exact PrpD.use (Option.some.inj z3) (List.all_eq_true.mp z1 d (List.mem_of_getElem? h))
end
section
variable {K : PySem.W.Frag} {x qual : Str} {params : Arguments} {body : List Stmt} {scope : Scope} {dvs : List V} {f : Addr} {fd : FuncData} {ps : List Str}
theorem mkbD (F : FunD K x qual params body scope dvs [] f fd) (n : Nat) (ks : List Str) (ix : List (Nat × Nat)) (hd : dvs ≠ [])
    (h : ∀ (T : Addr) (kV doc pm : Value) (an : Option Addr) (cdv ct : Value) (us its ws : List Value), us.length = n → its.length = dvs.length → ws.length = ks.length →
      ∃ k, bindArgs (PySem.W.fnOf x qual params body scope (.ref T) kV doc pm an cdv ct) ⟨us, ks.zip ws⟩ = seqItems? (.ref T) >>= k ∧ k (some its.toArray) = pure (ps.zip (pick ix us its ws))) :
    ∃ g, KBn K fd ps n ks g (fun vs zs => pick ix vs dvs zs) := by
  obtain ⟨its, kb⟩ := F.kbindsD n ks (fun us its ws => pick ix us its ws) hd (fun r1 r2 r3 => vals_pick ix r1 r2 r3) h
  exact ⟨_, kb⟩
end
theorem mkcal_mk {P : Program} {w : World} {K : PySem.W.Frag} {mg : Str → Option Value} {base : Heap} {C : Addr} {m : Str} {x q : Str} {pa : Arguments} {bd : List Stmt} {sc : Scope} {dv : List V} {kw : List (Str × V)} {k n : Nat} {ks ps : List Str} {gV : List V → List V → List V} {sp : Sp} {f : Addr}
    (me : Meth K C m f) (h : ∃ (fd : FuncData), FunD K x q pa bd sc dv kw f fd)
    (ok : ∀ {f : Addr} {fd : FuncData}, FunD K x q pa bd sc dv kw f fd → FnOk P w K mg base CX0 k f fd ps sp)
    (b : ∀ {f : Addr} {fd : FuncData}, FunD K x q pa bd sc dv kw f fd → ∃ g, KBn K fd ps (n + 1) ks g gV) : MKCal P w K mg base C m k n ks gV sp := by
  obtain ⟨fd, F⟩ := h
  obtain ⟨g, kb⟩ := b F
  exact ⟨f, fd, ps, g, me, ok F, kb⟩
theorem mkk_mk {P : Program} {w : World} {K : PySem.W.Frag} {mg : Str → Option Value} {base : Heap} {C : Addr} {x q : Str} {pa : Arguments} {bd : List Stmt} {sc : Scope} {dv : List V} {kw : List (Str × V)} {k n : Nat} {ks ps : List Str} {gV : List V → List V → List V} {sp : Sp} {f : Addr}
    (mk : Mk K C f) (h : ∃ (fd : FuncData), FunD K x q pa bd sc dv kw f fd)
    (ok : ∀ {f : Addr} {fd : FuncData}, FunD K x q pa bd sc dv kw f fd → FnOk P w K mg base CX0 k f fd ps sp)
    (b : ∀ {f : Addr} {fd : FuncData}, FunD K x q pa bd sc dv kw f fd → ∃ g, KBn K fd ps (n + 1) ks g gV) : MkK P w K mg base C k n ks gV sp := by
  obtain ⟨fd, F⟩ := h
  obtain ⟨g, kb⟩ := b F
  exact ⟨f, fd, ps, g, mk, ok F, kb⟩
theorem propc_mk {P : Program} {w : World} {K : PySem.W.Frag} {mg : Str → Option Value} {base : Heap} {C : Addr} {m : Str} {x q : Str} {pa : Arguments} {bd : List Stmt} {sc : Scope} {k : Nat} {sp : Sp}
    (h : ∃ (p g : Addr) (fd : FuncData), PropOf K C m p g ∧ FunD K x q pa bd sc [] [] g fd)
    (ok : ∀ {f : Addr} {fd : FuncData}, FunD K x q pa bd sc [] [] f fd → FnOk P w K mg base CX0 k f fd ["self"] sp)
    (b : ∀ {f : Addr} {fd : FuncData}, FunD K x q pa bd sc [] [] f fd → Binds K fd ["self"] []) : PropC P w K mg base C m k sp := by
  obtain ⟨p, g, fd, hp, F⟩ := h
  exact ⟨p, g, fd, hp, ok F, b F⟩
theorem k_pgl {X : Cx} {K : PySem.W.Frag} {es : List Expr} {k : Nat} {t : TGs} {n : Nat} {pos : Pos} (ek : X.K = K) (hc : X.calm = true) (h : PGs X es t)
    (many : (assignEach es X.env).length = n) (nostar : (assignEach es X.env).findIdx? (·.1) = none) : PG X (.Tuple es k pos) (gLst K n t) := by subst ek; exact pg_lst hc h many nostar
def qIntB : List V → Hp → VK → Prop := fun xs H Q => ∃ b, xs = [.bl b] ∧ Q (.int (if b then 1 else 0)) H
theorem c_intB {X : Cx} : CallR X (.type "int") qIntB := fun pins s σ H xs us Q I r h => call_int1 pins s σ H xs us Q I r (.inr h)
theorem g_intB {p : Prop} [Decidable p] {H : Hp} {Q : VK} (h : Q (.int (if p then 1 else 0)) H) : qIntB [.bl (decide p)] H Q := ⟨decide p, rfl, by
  by_cases c : p
  · rw [if_pos c] at h; rw [if_pos (decide_eq_true c)]; exact h
  · rw [if_neg c] at h; rw [if_neg (by simp [c])]; exact h⟩
theorem k_join {X : Cx} {K : PySem.W.Frag} {o e : Expr} {to te : TE} {apos pos : Pos} (ek : X.K = K) (ho : PE X o to) (he : PE X e te) (hs : starEach [e] X.env = [(false, eval e X.env)] := by rfl) (hb : attributeBase o "join" X.env (eval o X.env) = eval o X.env := by rfl) (hl : (apos.endLine == pos.line) = true := by rfl) :
    PE X (.Call (.Attribute o "join" apos) [e] [] pos) (tM1 (fun x xs H Q => ∃ a p, ∃ ys : List Str, x = .str a ∧ xs = [.ref p] ∧ (SqL K H p (ys.map V.str) ∨ SqT K H p (ys.map V.str)) ∧
      (ys.map (·.length)).sum + ys.length * a.length ≤ 16777216 ∧ Q (.str (Txt.join a ys)) H) to te) := by subst ek; exact pe_join ho he hs hb hl
end Q

set_option Elab.async false
set_option linter.all false
set_option maxRecDepth 100000
set_option maxHeartbeats 4000000
namespace Q
open PySem PySem.Builtin.Str PySem.StrLaws
abbrev sOf (cs : List Nat) : Str := ⟨cs.toArray⟩
theorem sOf_len (cs : List Nat) : (sOf cs).length = cs.length := by simp [sOf, Str.length]
theorem sOf_app (a b : List Nat) : sOf a ++ sOf b = sOf (a ++ b) := by
  show (⟨a.toArray ++ b.toArray⟩ : Str) = ⟨(a ++ b).toArray⟩
  rw [List.append_toArray]
theorem sOf_cps (x : Str) : sOf x.cps.toList = x := by cases x; simp [sOf]
theorem sOf_inj {a b : List Nat} (h : sOf a = sOf b) : a = b := by
  have := congrArg (fun s : Str => s.cps.toList) h
  simpa using this
/-- the pieces between the line feeds -/
def spl : List Nat → List (List Nat)
  | [] => [[]]
  | x :: t => if x = 10 then [] :: spl t else match spl t with
    | p :: ps => (x :: p) :: ps
    | [] => [[x]]
theorem spl_ne : ∀ t, spl t ≠ []
  | [] => by simp [spl]
  | x :: t => by
    unfold spl
    split
    · simp
    · split <;> simp
theorem spl_nl (t : List Nat) : spl (10 :: t) = [] :: spl t := by rw [spl, if_pos rfl]
theorem spl_cons {x : Nat} {t p : List Nat} {ps : List (List Nat)} (h : x ≠ 10) (e : spl t = p :: ps) : spl (x :: t) = (x :: p) :: ps := by rw [spl, if_neg h, e]
theorem spl_some (t : List Nat) : ∃ p ps, spl t = p :: ps := by
  cases e : spl t with
  | nil => exact absurd e (spl_ne t)
  | cons p ps => exact ⟨p, ps, rfl⟩
/-- the places of the line feeds -/
def posN : List Nat → Nat → List Nat
  | [], _ => []
  | x :: t, i => if x = 10 then i :: posN t (i + 1) else posN t (i + 1)
theorem occ_pos (a : List Nat) : ∀ (t pre : List Nat) (acc : Array Nat) (free : Nat), a = pre ++ t → free ≤ pre.length → acc.size ≤ pre.length →
    (forIn (List.range' pre.length (t.length + 1)) (acc, free) (occBody (sOf a) ⟨#[10]⟩ a.length (a.length + 1))).run.fst.toList = acc.toList ++ posN t pre.length
  | [], pre, acc, free, e, hf, hs => by
    have no : ¬ (((acc.size < a.length + 1 ∧ free ≤ pre.length) ∧ pre.length + (⟨#[10]⟩ : Str).length ≤ a.length) ∧ subAt (sOf a) ⟨#[10]⟩ pre.length = true) := fun z => by
      have z2 : pre.length + 1 ≤ a.length := z.1.2
      rw [e, List.append_nil] at z2
      omega
    show (Id.run (forIn [pre.length] (acc, free) _)).fst.toList = _
    rw [List.forIn_cons]
    unfold occBody
    rw [if_neg no]
    simp [posN]
  | x :: t, pre, acc, free, e, hf, hs => by
    have hl : a.length = pre.length + (t.length + 1) := by rw [e]; simp
    have ex : a[pre.length]? = some x := by rw [e]; simp
    show (Id.run (forIn (pre.length :: List.range' (pre.length + 1) (t.length + 1)) (acc, free) _)).fst.toList = _
    rw [List.forIn_cons]
    have hl2 : (sOf a).length = a.length := sOf_len a
    by_cases hx : x = 10
    · subst hx
      have sub := (subAt_one (sOf a) 10 pre.length).mpr (by simpa using ex)
      rw [hl2] at sub
      have yes : ((acc.size < a.length + 1 ∧ free ≤ pre.length) ∧ pre.length + (⟨#[10]⟩ : Str).length ≤ a.length) ∧ subAt (sOf a) ⟨#[10]⟩ pre.length = true := ⟨⟨⟨by omega, hf⟩, sub.1⟩, sub.2⟩
      have step : occBody (sOf a) ⟨#[10]⟩ a.length (a.length + 1) pre.length (acc, free) = pure (ForInStep.yield (acc.push pre.length, pre.length + 1)) := by
        unfold occBody
        rw [if_pos yes]
        rfl
      rw [step]
      have ih := occ_pos a t (pre ++ [10]) (acc.push pre.length) (pre.length + 1) (by rw [e]; simp) (by simp) (by simp; omega)
      have el : List.length (pre ++ [10]) = pre.length + 1 := by simp
      rw [el] at ih
      rw [show posN (10 :: t) pre.length = pre.length :: posN t (pre.length + 1) by rw [posN, if_pos rfl]]
      show (Id.run (forIn (List.range' (pre.length + 1) (t.length + 1)) (acc.push pre.length, pre.length + 1) _)).fst.toList = _
      rw [ih]
      simp
    · have no : ¬ (((acc.size < a.length + 1 ∧ free ≤ pre.length) ∧ pre.length + (⟨#[10]⟩ : Str).length ≤ a.length) ∧ subAt (sOf a) ⟨#[10]⟩ pre.length = true) := fun z => by
        have z2 := (subAt_one (sOf a) 10 pre.length).mp ⟨by rw [hl2]; exact z.1.2, z.2⟩
        have z3 : a[pre.length]? = some 10 := by simpa using z2
        rw [ex] at z3
        exact hx (Option.some.inj z3)
      have step : occBody (sOf a) ⟨#[10]⟩ a.length (a.length + 1) pre.length (acc, free) = pure (ForInStep.yield (acc, free)) := by
        unfold occBody
        rw [if_neg no]
      rw [step]
      have ih := occ_pos a t (pre ++ [x]) acc free (by rw [e]; simp) (by simp; omega) (by simp; omega)
      have el : List.length (pre ++ [x]) = pre.length + 1 := by simp
      rw [el] at ih
      rw [show posN (x :: t) pre.length = posN t (pre.length + 1) by rw [posN, if_neg hx]]
      exact ih
theorem occ_nl (a : List Nat) : occurrences (sOf a) ⟨#[10]⟩ 0 (sOf a).length ((sOf a).length + 1) = posN a 0 := by
  rw [occ_eq, sOf_len]
  have z := occ_pos a a [] #[] 0 rfl (Nat.le_refl _) (Nat.le_refl _)
  rw [Nat.sub_zero]
  exact z.trans (by simp)
def seg (a : List Nat) (st i : Nat) : List Nat := (a.drop st).take (i - st)
theorem strSub_seg (a : List Nat) (i j : Nat) : strSub (sOf a) i j = sOf (seg a i j) := by
  unfold strSub sOf seg
  congr 1
  apply Array.ext'
  simp [Array.toList_extract, List.extract_eq_drop_take]
theorem parts_spl (a : List Nat) : ∀ (t pre : List Nat) (st : Nat), a = pre ++ t → st ≤ pre.length →
    ((st :: (posN t pre.length).map (· + 1)).zip (posN t pre.length ++ [a.length])).map (fun (i, j) => strSub (sOf a) i j) =
      (match spl t with
      | p :: ps => sOf (seg a st pre.length ++ p) :: ps.map sOf
      | [] => [])
  | [], pre, st, e, hst => by
    have e0 : a = pre := by rw [e, List.append_nil]
    subst e0
    simp [posN, spl, strSub_seg]
  | x :: t, pre, st, e, hst => by
    by_cases hx : x = 10
    · subst hx
      have ih := parts_spl a t (pre ++ [10]) (pre.length + 1) (by rw [e]; simp) (by simp)
      have el : List.length (pre ++ [10]) = pre.length + 1 := by simp
      rw [el] at ih
      rw [show posN (10 :: t) pre.length = pre.length :: posN t (pre.length + 1) by rw [posN, if_pos rfl], spl_nl]
      obtain ⟨p, ps, ep⟩ := spl_some t
      rw [ep] at ih ⊢
      have z : seg a (pre.length + 1) (pre.length + 1) = [] := by unfold seg; simp
      simp only [z, List.nil_append] at ih
      simp only [List.map_cons, List.cons_append, List.zip_cons_cons, List.append_nil]
      rw [ih, strSub_seg]
    · have ih := parts_spl a t (pre ++ [x]) st (by rw [e]; simp) (by simp; omega)
      have el : List.length (pre ++ [x]) = pre.length + 1 := by simp
      rw [el] at ih
      rw [show posN (x :: t) pre.length = posN t (pre.length + 1) by rw [posN, if_neg hx]]
      obtain ⟨p, ps, ep⟩ := spl_some t
      rw [spl_cons hx ep]
      rw [ep] at ih
      rw [ih]
      have z : seg a st (pre.length + 1) = seg a st pre.length ++ [x] := by
        unfold seg
        rw [show pre.length + 1 - st = (pre.length - st) + 1 by omega, List.take_add_one, List.getElem?_drop, show st + (pre.length - st) = pre.length by omega]
        have ex : a[pre.length]? = some x := by rw [e]; simp
        rw [ex]
        rfl
      simp only [z, List.append_assoc, List.singleton_append]
theorem kind_pos (x : Str) : 1 ≤ Builtin.Str.strKind x := by
  unfold Builtin.Str.strKind
  split
  · decide
  · split <;> decide
theorem split_nl (a : List Nat) : Txt.split (sOf a) ⟨#[10]⟩ = (spl a).map sOf := by
  unfold Txt.split
  rw [occ_nl]
  have k1 : decide (Builtin.Str.strKind (sOf a) < Builtin.Str.strKind ⟨#[10]⟩) = false := decide_eq_false (by
    have := kind_pos (sOf a)
    have e : Builtin.Str.strKind (⟨#[10]⟩ : Str) = 1 := by simp [Builtin.Str.strKind]
    omega)
  rw [k1, Bool.or_false]
  have full : partsBetween (sOf a) (posN a 0) (⟨#[10]⟩ : Str).length = (spl a).map sOf := by
    unfold partsBetween
    have z := parts_spl a a [] 0 rfl (Nat.le_refl _)
    rw [sOf_len]
    obtain ⟨p, ps, ep⟩ := spl_some a
    rw [ep] at z ⊢
    have s0 : seg a 0 0 = [] := by simp [seg]
    simp only [List.length_nil, s0, List.nil_append] at z
    exact z
  split
  · rename_i h
    have hl : (sOf a).length < 1 := of_decide_eq_true h
    rw [sOf_len] at hl
    have : a = [] := List.length_eq_zero_iff.mp (by omega)
    subst this
    rfl
  · split
    · rename_i h
      rw [List.isEmpty_iff] at h
      rw [← full, h]
      unfold partsBetween
      simp [strSub_seg, seg, sOf_len]
    · exact full
theorem glue_fold (xs : List (List Nat)) : ∀ acc : Array Nat, (xs.map sOf).foldl (fun acc p => acc ++ (sOf []).cps ++ p.cps) acc = acc ++ xs.flatten.toArray := by
  induction xs with
  | nil => intro acc; simp
  | cons x r ih =>
    intro acc
    rw [List.map_cons, List.foldl_cons, ih]
    apply Array.ext'
    simp
theorem join_e (xs : List (List Nat)) : Txt.join (sOf []) (xs.map sOf) = sOf xs.flatten := by
  unfold Txt.join glued
  cases xs with
  | nil => rfl
  | cons x r =>
    show (⟨(r.map sOf).foldl _ (sOf x).cps⟩ : Str) = _
    rw [glue_fold]
    show (⟨x.toArray ++ r.flatten.toArray⟩ : Str) = ⟨(x :: r).flatten.toArray⟩
    rw [List.append_toArray]
    rfl
/-! the last line feed -/
def kp : List Nat → Nat
  | [] => 0
  | x :: t => if 0 < kp t then kp t + 1 else if x = 10 then 1 else 0
theorem kp_le : ∀ t, kp t ≤ t.length
  | [] => Nat.le_refl _
  | x :: t => by
    have := kp_le t
    unfold kp
    split
    · simp; omega
    · split <;> simp
def lastBody (s sub : Str) (hi : Nat) (i : Nat) (st : Option Nat) : Id (ForInStep (Option Nat)) :=
  if i + sub.length ≤ hi ∧ subAt s sub i = true then pure (ForInStep.yield (some i)) else pure (ForInStep.yield st)
theorem last_eq (s sub : Str) (lo hi : Nat) : lastOccurrence s sub lo hi = (forIn (List.range' lo (hi + 1 - lo)) none (lastBody s sub hi)).run := by
  unfold lastOccurrence lastBody
  simp
theorem last_kp (a : List Nat) : ∀ (t pre : List Nat) (o : Option Nat), a = pre ++ t →
    (forIn (List.range' pre.length (t.length + 1)) o (lastBody (sOf a) ⟨#[10]⟩ a.length)).run = if 0 < kp t then some (pre.length + kp t - 1) else o
  | [], pre, o, e => by
    have no : ¬ (pre.length + (⟨#[10]⟩ : Str).length ≤ a.length ∧ subAt (sOf a) ⟨#[10]⟩ pre.length = true) := fun z => by
      have z2 : pre.length + 1 ≤ a.length := z.1
      rw [e, List.append_nil] at z2
      omega
    show Id.run (forIn [pre.length] o _) = _
    rw [List.forIn_cons]
    unfold lastBody
    rw [if_neg no]
    simp [kp]
  | x :: t, pre, o, e => by
    have ex : a[pre.length]? = some x := by rw [e]; simp
    have hl2 : (sOf a).length = a.length := sOf_len a
    show Id.run (forIn (pre.length :: List.range' (pre.length + 1) (t.length + 1)) o _) = _
    rw [List.forIn_cons]
    have step : lastBody (sOf a) ⟨#[10]⟩ a.length pre.length o = pure (ForInStep.yield (if x = 10 then some pre.length else o)) := by
      unfold lastBody
      by_cases hx : x = 10
      · subst hx
        have sub := (subAt_one (sOf a) 10 pre.length).mpr (by simpa using ex)
        rw [hl2] at sub
        rw [if_pos sub, if_pos rfl]
      · have no : ¬ (pre.length + (⟨#[10]⟩ : Str).length ≤ a.length ∧ subAt (sOf a) ⟨#[10]⟩ pre.length = true) := fun z => by
          have z2 := (subAt_one (sOf a) 10 pre.length).mp ⟨by rw [hl2]; exact z.1, z.2⟩
          have z3 : a[pre.length]? = some 10 := by simpa using z2
          rw [ex] at z3
          exact hx (Option.some.inj z3)
        rw [if_neg no, if_neg hx]
    rw [step]
    have ih := last_kp a t (pre ++ [x]) (if x = 10 then some pre.length else o) (by rw [e]; simp)
    have el : List.length (pre ++ [x]) = pre.length + 1 := by simp
    rw [el] at ih
    refine ih.trans ?_
    rw [kp]
    by_cases h1 : 0 < kp t
    · rw [if_pos h1, if_pos h1, if_pos (by omega)]
      congr 1
      omega
    · rw [if_neg h1, if_neg h1]
      by_cases hx : x = 10
      · rw [if_pos hx, if_pos hx, if_pos (by omega)]
        rfl
      · rw [if_neg hx, if_neg hx, if_neg (by omega)]
theorem rfind_nl (a : List Nat) : Txt.rfind (sOf a) ⟨#[10]⟩ = (kp a : Int) - 1 := by
  unfold Txt.rfind
  rw [last_eq, sOf_len, Nat.sub_zero]
  have z := last_kp a a [] none rfl
  rw [List.length_nil] at z
  rw [z]
  by_cases h : 0 < kp a
  · rw [if_pos h]
    show ((0 + kp a - 1 : Nat) : Int) = _
    omega
  · rw [if_neg h]
    show (-1 : Int) = _
    omega
/-- the whole lines -/
def whole (a : List Nat) : List (List Nat) := (spl a).dropLast
theorem trim_kp : ∀ a : List Nat, ((whole a).map (· ++ [10])).flatten = a.take (kp a)
  | [] => rfl
  | x :: t => by
    have ih := trim_kp t
    unfold whole at ih ⊢
    obtain ⟨p, ps, ep⟩ := spl_some t
    by_cases hx : x = 10
    · subst hx
      rw [spl_nl, List.dropLast_cons_of_ne_nil (spl_ne t), List.map_cons, List.flatten_cons, ih]
      have e : kp (10 :: t) = kp t + 1 := by
        rw [kp]
        by_cases h : 0 < kp t
        · rw [if_pos h]
        · rw [if_neg h, if_pos rfl]; omega
      rw [e]
      rfl
    · rw [spl_cons hx ep]
      rw [ep] at ih
      have hk := kp_le t
      cases ps with
      | nil =>
        have z : (t.take (kp t)).length = 0 := by rw [← ih]; rfl
        rw [List.length_take] at z
        have e : kp (x :: t) = 0 := by rw [kp, if_neg (by omega), if_neg hx]
        rw [e]
        rfl
      | cons q qs =>
        have l : 0 < (t.take (kp t)).length := by
          rw [← ih]
          simp
          omega
        rw [List.length_take] at l
        have e : kp (x :: t) = kp t + 1 := by rw [kp, if_pos (by omega)]
        rw [e, List.take_succ_cons, ← ih]
        simp
/-! what a fall leaves -/
def fallF : List Nat → Nat → Nat → List Nat
  | [], _, _ => []
  | x :: t, 0, r => if x = 10 ∨ r = 0 then [] else x :: fallF t 0 (r - 1)
  | x :: t, k + 1, r => x :: fallF t (if x = 10 then k else k + 1) r
def fallP (t : List Nat) (k r : Nat) : List Nat := (((whole t).take k).map (· ++ [10])).flatten ++ ((spl t).getD ((whole t).take k).length []).take r
/-- whole lines alone -/
def Nl (t : List Nat) : Prop := kp t = t.length
theorem nl_tail {x : Nat} {t : List Nat} (h : Nl (x :: t)) : Nl t := by
  unfold Nl at *
  have := kp_le t
  rw [kp] at h
  split at h
  · simp at h; exact h
  · split at h
    · simp at h; simp [h, kp]
    · simp at h
theorem nl_first {x : Nat} {t : List Nat} (h : Nl (x :: t)) (hx : x ≠ 10) : 0 < kp t := by
  unfold Nl at h
  rw [kp] at h
  split at h
  · assumption
  · simp [hx] at h
theorem fall_eq : ∀ (t : List Nat) (k r : Nat), Nl t → fallP t k r = fallF t k r
  | [], k, r, _ => by simp [fallP, fallF, whole, spl]
  | x :: t, 0, r, h => by
    unfold fallP
    rw [fallF]
    obtain ⟨p, ps, ep⟩ := spl_some t
    by_cases hx : x = 10
    · subst hx
      rw [spl_nl, if_pos (.inl rfl)]
      simp
    · rw [spl_cons hx ep]
      cases r with
      | zero => rw [if_pos (.inr rfl)]; simp
      | succ r =>
        have ih := fall_eq t 0 r (nl_tail h)
        unfold fallP at ih
        rw [ep] at ih
        rw [if_neg (by rintro (z | z); exact hx z; omega)]
        show _ = x :: fallF t 0 r
        rw [← ih]
        simp
  | x :: t, k + 1, r, h => by
    unfold fallP
    rw [fallF]
    obtain ⟨p, ps, ep⟩ := spl_some t
    by_cases hx : x = 10
    · subst hx
      have ih := fall_eq t k r (nl_tail h)
      unfold fallP whole at ih
      unfold whole
      rw [spl_nl, if_pos rfl, List.dropLast_cons_of_ne_nil (spl_ne t), ← ih]
      simp
    · have ih := fall_eq t (k + 1) r (nl_tail h)
      have hk := nl_first h hx
      have tk := trim_kp t
      have kl := kp_le t
      unfold fallP whole at ih
      unfold whole at tk ⊢
      rw [ep] at ih tk
      rw [spl_cons hx ep, if_neg hx, ← ih]
      cases ps with
      | nil =>
        have z : (t.take (kp t)).length = 0 := by rw [← tk]; rfl
        rw [List.length_take] at z
        omega
      | cons q qs => simp
theorem spl_snoc (x : Nat) : ∀ a : List Nat, spl (a ++ [x]) = if x = 10 then spl a ++ [[]] else (spl a).dropLast ++ [(spl a).getLastD [] ++ [x]]
  | [] => by
    by_cases hx : x = 10
    · subst hx; simp [spl]
    · simp [spl, hx]
  | y :: a => by
    have ih := spl_snoc x a
    obtain ⟨p, ps, ep⟩ := spl_some a
    by_cases hy : y = 10
    · subst hy
      rw [List.cons_append, spl_nl, spl_nl, ih, ep]
      by_cases hx : x = 10
      · rw [if_pos hx, if_pos hx]; simp
      · rw [if_neg hx, if_neg hx]; simp
    · rw [List.cons_append, spl_cons hy ep]
      by_cases hx : x = 10
      · rw [if_pos hx, ep] at ih
        rw [if_pos hx, spl_cons hy ih]
        simp
      · rw [if_neg hx, ep] at ih
        rw [if_neg hx]
        cases ps with
        | nil => rw [spl_cons (p := p ++ [x]) (ps := []) hy (by simpa using ih)]; simp
        | cons q qs =>
          rw [spl_cons (p := p) (ps := (q :: qs).dropLast ++ [(q :: qs).getLastD [] ++ [x]]) hy (by rw [ih]; simp)]
          simp
end Q

set_option Elab.async false
set_option linter.all false
set_option maxRecDepth 100000
namespace Q
open PySem PySem.Spec L2
/-! readings, step by step -/
section
variable {D : Ends} {σ : L2.St} {H : Hp} {Q : VK} {K : PySem.W.Frag}
def PropR (C : Addr) (sp : Sp) (Q : VK) (x : V) (H1 : Hp) : Prop := ∃ a dx fs, x = .ref a ∧ H1 a = some (.ins C dx fs) ∧ sp [.ref a] H1 Q E0
theorem g_prop {C : Addr} {sp : Sp} {ta : TE} (h : ta σ H (PropR C sp Q)) : tProp C sp [] E0 ta σ H Q := h
theorem g_propR {C : Addr} {sp : Sp} {a dx : Addr} {fs : List (Str × V)} (h : H a = some (.ins C dx fs)) (q : sp [.ref a] H Q E0) : PropR C sp Q (.ref a) H := ⟨a, dx, fs, rfl, h, q⟩
def M1R (r : V → List V → Hp → VK → Prop) (te : TE) (σ : L2.St) (Q : VK) (x : V) (H1 : Hp) : Prop := (∃ a, x = .str a) ∧ te σ H1 fun y H2 => r x [y] H2 Q
theorem g_m1 {r : V → List V → Hp → VK → Prop} {to te : TE} (h : to σ H (M1R r te σ Q)) : tM1 r to te σ H Q := h
theorem g_m1R {r : V → List V → Hp → VK → Prop} {te : TE} {a : Str} (h : te σ H fun y H2 => r (.str a) [y] H2 Q) : M1R r te σ Q (.str a) H := ⟨⟨a, rfl⟩, h⟩
def FmtR (Q : VK) (x : V) (H1 : Hp) : Prop := (∃ y : Str, x = .str y ∧ y.length ≤ sizeLine ∧ Q (.str y) H1) ∨ ∃ i : Int, x = .int i ∧ i.natAbs.log2 < 1920 ∧ Q (.str (toString i)) H1
theorem g_fmt {te : TE} (h : te σ H (FmtR Q)) : tFmt te σ H Q := h
theorem g_fmtS {y : Str} (l : y.length ≤ sizeLine) (h : Q (.str y) H) : FmtR Q (.str y) H := .inl ⟨y, rfl, l, h⟩
theorem g_fmtI {i : Int} (l : i.natAbs.log2 < 1920) (h : Q (.str (toString i)) H) : FmtR Q (.int i) H := .inr ⟨i, rfl, l, h⟩
def JR (ts : List TE) (acc : Str) (σ : L2.St) (R : Str → Hp → Prop) (x : V) (H1 : Hp) : Prop := ∃ y : Str, x = .str y ∧ (acc ++ y).length ≤ sizeLine ∧ tJs ts (acc ++ y) σ H1 R
theorem g_jsC {t : TE} {ts : List TE} {acc : Str} {R : Str → Hp → Prop} (h : t σ H (JR ts acc σ R)) : tJs (t :: ts) acc σ H R := h
theorem g_jsN {acc : Str} {R : Str → Hp → Prop} (h : R acc H) : tJs [] acc σ H R := h
theorem g_jR {ts : List TE} {acc y : Str} {R : Str → Hp → Prop} (l : (acc ++ y).length ≤ sizeLine) (h : tJs ts (acc ++ y) σ H R) : JR ts acc σ R (.str y) H := ⟨y, rfl, l, h⟩
def MkR (C : Addr) (n m : Nat) (sp : Sp) (gV : List V → List V → List V) (Q : VK) (vs zs : List V) (H2 : Hp) : Prop := vs.length = n ∧ zs.length = m ∧ ∀ x dx, H2 x = none → H2 dx = none → dx ≠ x →
  sp (gV (.ref x :: vs) zs) (upd (upd H2 dx (.own x)) x (.ins C dx [])) (fun v H3 => v = .non ∧ Q (.ref x) H3) E0
theorem g_mk {C : Addr} {n m : Nat} {sp : Sp} {gV : List V → List V → List V} {t tk : TA} (h : t σ H fun vs H1 => tk σ H1 fun zs H2 => MkR C n m sp gV Q vs zs H2) : tMakeK C n m sp gV E0 t tk σ H Q := h
theorem g_mkR {C : Addr} {n m : Nat} {sp : Sp} {gV : List V → List V → List V} {vs zs ws : List V} (h1 : vs.length = n) (h2 : zs.length = m) (e : ∀ x, gV (.ref x :: vs) zs = .ref x :: ws)
    (h : ∀ x dx, H x = none → H dx = none → dx ≠ x → sp (.ref x :: ws) (upd (upd H dx (.own x)) x (.ins C dx [])) (fun v H3 => v = .non ∧ Q (.ref x) H3) E0) : MkR C n m sp gV Q vs zs H :=
  ⟨h1, h2, fun x dx a b c => by rw [e]; exact h x dx a b c⟩
def MtR2 (C : Addr) (m : Str) (n j : Nat) (sp : Sp) (gV : List V → List V → List V) (t tk : TA) (σ : L2.St) (Q : VK) (x : V) (H1 : Hp) : Prop := ∃ a dx fs, x = .ref a ∧ H1 a = some (.ins C dx fs) ∧ fs.lookup m = none ∧
  t σ H1 fun vs H2 => tk σ H2 fun zs H3 => vs.length = n ∧ zs.length = j ∧ sp (gV (.ref a :: vs) zs) H3 Q E0
theorem g_methN {C : Addr} {m : Str} {n j : Nat} {sp : Sp} {gV : List V → List V → List V} {to : TE} {t tk : TA} (h : to σ H (MtR2 C m n j sp gV t tk σ Q)) : tMethN C m n j sp gV E0 to t tk σ H Q := h
def MtR3 (n j : Nat) (sp : Sp) (gV : List V → List V → List V) (a : Addr) (Q : VK) (vs zs : List V) (H3 : Hp) : Prop := vs.length = n ∧ zs.length = j ∧ sp (gV (.ref a :: vs) zs) H3 Q E0
theorem g_methN2 {C : Addr} {m : Str} {n j : Nat} {sp : Sp} {gV : List V → List V → List V} {t tk : TA} {a dx : Addr} {fs : List (Str × V)} (h : H a = some (.ins C dx fs)) (l : fs.lookup m = none)
    (q : t σ H fun vs H2 => tk σ H2 fun zs H3 => MtR3 n j sp gV a Q vs zs H3) : MtR2 C m n j sp gV t tk σ Q (.ref a) H := ⟨a, dx, fs, rfl, h, l, q⟩
theorem g_methN3 {n j : Nat} {sp : Sp} {gV : List V → List V → List V} {a : Addr} {vs zs ws : List V} (h1 : vs.length = n) (h2 : zs.length = j) (e : gV (.ref a :: vs) zs = ws) (h : sp ws H Q E0) : MtR3 n j sp gV a Q vs zs H := ⟨h1, h2, by rw [e]; exact h⟩
theorem g_ownLen {C : Addr} {sp : Sp} {a dx : Addr} {fs : List (Str × V)} (h : H a = some (.ins C dx fs)) (q : sp [.ref a] H (fun v H' => ∃ n : Int, v = .int n ∧ 0 ≤ n ∧ n < 2 ^ 63 ∧ Q (.int n) H') E0) : rOwnLen C sp [.ref a] H Q := ⟨a, dx, fs, rfl, h, q⟩
theorem g_ownRepr {C : Addr} {sp : Sp} {a dx : Addr} {fs : List (Str × V)} (h : H a = some (.ins C dx fs)) (q : sp [.ref a] H (fun v H' => ∃ z : Str, v = .str z ∧ Q (.str z) H') E0) : rOwnRepr C sp [.ref a] H Q := ⟨a, dx, fs, rfl, h, q⟩
theorem g_ownBool {C : Addr} {sp : Sp} {a dx : Addr} {fs : List (Str × V)} (h : H a = some (.ins C dx fs)) (q : sp [.ref a] H (fun v H' => ∃ b : Bool, v = .bl b ∧ Q (.bl b) H') E0) : rOwnBool C sp [.ref a] H Q := ⟨a, dx, fs, rfl, h, q⟩
end
theorem sz_ok {n : Nat} (h : n ≤ 100000) : n ≤ sizeLine := Nat.le_trans h (by decide)
theorem str_app_len (a b : Str) : (a ++ b).length = a.length + b.length := by
  show (a.cps ++ b.cps).size = a.cps.size + b.cps.size
  exact Array.size_append
/-! texts -/
section
variable {σ : L2.St} {H : Hp} {Q : VK} {K : PySem.W.Frag}
theorem g_lenS {z : Str} (l : z.length ≤ sizeLine) (h : Q (.int z.length) H) : (∃ y : Str, [V.str z] = [.str y] ∧ y.length ≤ sizeLine ∧ Q (.int y.length) H) := ⟨z, rfl, l, h⟩
theorem g_slS {z : Str} {lo hi : Option Int} (l : z.length ≤ sizeLine) (h : Q (.str (cutS z lo hi)) H) : rSlS (.str z) lo hi H Q := ⟨z, rfl, l, h⟩
def qMax2 : List V → Hp → VK → Prop := fun xs H Q => ∃ i j, xs = [.int i, .int j] ∧ Q (.int (if j > i then j else i)) H
theorem c_max2 {X : Cx} (c : X.calm = true) : CallR X (.builtin "max") qMax2 := call_max2 c
theorem g_max2 {i j : Int} (h : Q (.int (if j > i then j else i)) H) : qMax2 [.int i, .int j] H Q := ⟨i, j, rfl, h⟩
def qMin2 : List V → Hp → VK → Prop := fun xs H Q => ∃ i j, xs = [.int i, .int j] ∧ Q (.int (if j < i then j else i)) H
theorem c_min2 {X : Cx} (c : X.calm = true) : CallR X (.builtin "min") qMin2 := call_min2 c
theorem g_min2 {i j : Int} (h : Q (.int (if j < i then j else i)) H) : qMin2 [.int i, .int j] H Q := ⟨i, j, rfl, h⟩
theorem g_addS {x y : Str} (l : x.length + y.length ≤ sizeLine) (h : Q (.str (x ++ y)) H) : (∃ i j : Str, V.str x = .str i ∧ V.str y = .str j ∧ i.length + j.length ≤ sizeLine ∧ Q (.str (i ++ j)) H) := ⟨x, y, rfl, rfl, l, h⟩
end
theorem cut_from (cs : List Nat) (n : Nat) : cutS (sOf cs) (some (n : Int)) none = sOf (cs.drop n) := by
  unfold cutS
  rw [HT.sIx_nat, HT.sIx_none, sOf_len]
  show (⟨((cs.drop (min n cs.length)).take (cs.length - min n cs.length)).toArray⟩ : Str) = ⟨(cs.drop n).toArray⟩
  rcases Nat.le_total n cs.length with h | h
  · rw [Nat.min_eq_left h, List.take_of_length_le (by rw [List.length_drop]; omega)]
  · rw [Nat.min_eq_right h, Nat.sub_self, List.take_zero, List.drop_eq_nil_of_le h]
theorem cut_to (cs : List Nat) (n : Nat) : cutS (sOf cs) none (some (n : Int)) = sOf (cs.take n) := by
  unfold cutS
  rw [HT.sIx_nat, HT.sIx_none, sOf_len, Nat.sub_zero]
  show (⟨((cs.drop 0).take (min n cs.length)).toArray⟩ : Str) = ⟨(cs.take n).toArray⟩
  rw [List.drop_zero]
  rcases Nat.le_total n cs.length with h | h
  · rw [Nat.min_eq_left h]
  · rw [Nat.min_eq_right h, List.take_length, List.take_of_length_le h]
theorem cutV_to (xs : List V) (n : Nat) : cutV xs none (some (n : Int)) = xs.take n := by
  unfold cutV
  rw [HT.sIx_nat, HT.sIx_none, Nat.sub_zero, List.drop_zero]
  rcases Nat.le_total n xs.length with h | h
  · rw [Nat.min_eq_left h]
  · rw [Nat.min_eq_right h, List.take_length, List.take_of_length_le h]
theorem cutV_last (xs : List V) : cutV xs none (some (-1)) = xs.dropLast := by
  unfold cutV
  rw [HT.sIx_none, Nat.sub_zero, List.drop_zero]
  have e : HT.sIx xs.length xs.length (some (-1)) = xs.length - 1 := by
    show (if (-1 : Int) < 0 then ((-1 : Int) + (xs.length : Int)).toNat else min (-1 : Int).toNat xs.length) = _
    rw [if_pos (by decide)]
    omega
  rw [e, List.dropLast_eq_take]
/-- a number as a text -/
abbrev nTxt (n : Nat) : Str := Str.ofString (toString (n : Int))
theorem nTxt_len {n : Nat} (h : n < 100000) : (nTxt n).length ≤ 10 := by
  have e := int_text_length_le10 (k := 5) (a := (n : Int)) (by decide) (by show n < 10 ^ 5; omega)
  rw [PySem.ofString_length]
  omega
theorem log_ok {n : Nat} (h : n < 100000) : (n : Int).natAbs.log2 < 1920 := Nat.lt_trans (PySem.Flt.log2_lt_of (k := 20) (by decide) (show n < 2 ^ 20 by omega)) (by decide)
section
variable {K : PySem.W.Frag} {g : TG} {tt : TT} {te : TE} {vs : List Nat} {σ σ0 : L2.St} {H : Hp} {Q : VK} {a : Addr}
/-- a comprehension over a list, an item for each item -/
theorem lcMap {α : Type} {S : List α} {g0 f : α → V} (hw : wipe σ vs = σ0) (hS : SqL K H a (S.map g0)) (hl : S.length ≤ 1000)
    (turn : ∀ (D : Addr) (acc : List V) (x : α) (N : Hp → Prop), H D = none → x ∈ S → TurnD D N (f x) (upd H D (.lst acc)) → Turn1 g tt te vs σ0 D (g0 x) (upd H D (.lst acc)) N)
    (q : ∀ D, H D = none → Q (.ref D) (upd H D (.lst (S.map f)))) : LcG (Itl K a) g tt te vs σ Q H := by
  refine lcL (xs := S.map g0) hw fun D hD => ⟨fun i H' => H' = upd H D (.lst ((S.take i).map f)), rfl, ?_, ?_, ?_⟩
  · rintro i H' _ rfl
    exact (same_new hD).seq hS
  · rintro i x H' hx rfl
    rw [List.getElem?_map, Option.map_eq_some_iff] at hx
    obtain ⟨n, hn, rfl⟩ := hx
    have lt : i < S.length := (List.getElem?_eq_some_iff.mp hn).1
    refine turn D _ n _ hD (List.mem_of_getElem? hn) (g_turnD upd_same ?_ ?_)
    · rw [List.length_map, List.length_take]
      omega
    · dsimp only
      rw [upd_upd, List.take_add_one, hn, List.map_append]
      rfl
  · rintro H' rfl
    rw [List.length_map, List.take_length]
    exact q D hD
end
/-! over the signs of a text -/
section
variable {K : PySem.W.Frag} {g : TG} {tt : TT} {te : TE} {tb : TS} {vs : List Nat} {D0 : Ends} {σ σ0 : L2.St} {H : Hp} {Q : VK} {R : It → Hp → Prop}
def StrR (x : V) (R : It → Hp → Prop) (H : Hp) : Prop := ∃ z, x = .str z ∧ R (Its z) H
theorem g_iStr {te : TE} (h : te σ H fun x H1 => StrR x R H1) : iStr te σ H R := h
theorem g_strR {z : Str} (h : R (Its z) H) : StrR (.str z) R H := ⟨z, rfl, h⟩
theorem forS {cs : List Nat} (h : ∃ Pv : Nat → L2.St → Hp → Prop, Pv 0 σ H ∧
    (∀ i c σ' H', cs[i]? = some c → Pv i σ' H' → g (.str (sOf [c])) σ' H' fun σ2 H2 => tb { D0 with nx := Pv (i + 1), ct := Pv (i + 1), bk := D0.nx } σ2 H2) ∧ ∀ σ' H', Pv cs.length σ' H' → D0.nx σ' H') : ForG (Its (sOf cs)) g tb D0 σ H := by
  obtain ⟨Pv, h0, hs, hd⟩ := h
  have sz : (sOf cs).cps.size = cs.length := sOf_len cs
  refine ⟨fun i m σ H => m = cs.length - i ∧ i ≤ cs.length ∧ Pv i σ H, ⟨cs.length, by simp, Nat.zero_le _, h0⟩, ?_⟩
  rintro i m σ H ⟨rfl, hi, p⟩
  rcases Nat.lt_or_ge i cs.length with lt | ge
  · refine .inr ⟨show i < (sOf cs).cps.size by omega, Pv (i + 1), fun σ' H' p' => ⟨cs.length - (i + 1), by omega, rfl, lt, p'⟩, ?_⟩
    rintro x H' ⟨rfl, c, hc, rfl⟩
    exact hs i c σ _ (by simpa using hc) p
  · have e : i = cs.length := by omega
    subst e
    exact .inl ⟨show (sOf cs).cps.size ≤ cs.length by omega, hd σ H p⟩
theorem lcS {cs : List Nat} {f : Nat → V} (hw : wipe σ vs = σ0) (hl : cs.length ≤ 1000)
    (turn : ∀ (D : Addr) (acc : List V) (c : Nat) (N : Hp → Prop), H D = none → c ∈ cs → TurnD D N (f c) (upd H D (.lst acc)) → Turn1 g tt te vs σ0 D (.str (sOf [c])) (upd H D (.lst acc)) N)
    (q : ∀ D, H D = none → Q (.ref D) (upd H D (.lst (cs.map f)))) : LcG (Its (sOf cs)) g tt te vs σ Q H := by
  subst hw
  intro D hD
  have sz : (sOf cs).cps.size = cs.length := sOf_len cs
  refine ⟨fun i m H' => m = cs.length - i ∧ i ≤ cs.length ∧ H' = upd H D (.lst ((cs.take i).map f)), ⟨cs.length, by simp, Nat.zero_le _, rfl⟩, ?_⟩
  rintro i m H' ⟨rfl, hi, rfl⟩
  rcases Nat.lt_or_ge i cs.length with lt | ge
  · refine .inr ⟨show i < (sOf cs).cps.size by omega, fun H' => H' = upd H D (.lst ((cs.take (i + 1)).map f)), fun H' p' => ⟨cs.length - (i + 1), by omega, rfl, lt, p'⟩, ?_⟩
    rintro x H' ⟨rfl, c, hc, rfl⟩
    have hc2 : cs[i]? = some c := by simpa using hc
    refine turn D _ c _ hD (List.mem_of_getElem? hc2) (g_turnD upd_same (by rw [List.length_map, List.length_take]; omega) ?_)
    rw [upd_upd, List.take_add_one, hc2, List.map_append]
    rfl
  · have e : i = cs.length := by omega
    subst e
    rw [List.take_length]
    exact .inl ⟨show (sOf cs).cps.size ≤ cs.length by omega, q D hD⟩
end
theorem join_len (sep : Str) (xs : List Str) : (Txt.join sep xs).length ≤ (xs.map (·.length)).sum + xs.length * sep.length := by
  unfold Txt.join
  rw [StrLaws.glued_eq_join]
  exact StrLaws.join_length_le sep xs
theorem sum_le {xs : List Nat} {b : Nat} (h : ∀ x ∈ xs, x ≤ b) : xs.sum ≤ xs.length * b := by
  induction xs with
  | nil => simp
  | cons x r ih =>
    have h1 := h x (List.mem_cons_self ..)
    have h2 := ih fun y hy => h y (List.mem_cons_of_mem _ hy)
    rw [List.sum_cons, List.length_cons, Nat.add_mul]
    omega
theorem g_gLst {K : PySem.W.Frag} {n : Nat} {t : TGs} {p : Addr} {xs : List V} {σ : L2.St} {H : Hp} {N : L2.St → Hp → Prop} (c : SqL K H p xs) (e : xs.length = n) (h : t xs σ H N) : gLst K n t (.ref p) σ H N := ⟨p, xs, rfl, c, e, h⟩
end Q

set_option Elab.async false
set_option linter.all false
set_option maxRecDepth 100000
set_option maxHeartbeats 4000000
namespace Q
open PySem PySem.Spec L2
local macro_rules | `(tactic| walk_at "n") => `(tactic| first
  | with_reducible assumption
  | exact Ne.symm (by with_reducible assumption)
  | ((refine' ne_of_none ?k1 (by with_reducible assumption)); (case k1 => walk_at "h"))
  | ((refine' Ne.symm (ne_of_none ?k1 (by with_reducible assumption))); (case k1 => walk_at "h")))
local macro_rules | `(tactic| walk_at "h") => `(tactic| first
  | with_reducible assumption
  | with_reducible exact upd_same
  | ((with_reducible refine' h_ne ?k1 ?k2); (case k1 => walk_at "n"); (case k2 => walk_at "h"))
  | ((with_reducible refine' h_sm (by with_reducible assumption) ?k1); (case k1 => walk_at "h"))
  | ((with_reducible refine' h_chg (by with_reducible assumption) ?k1 ?k2); (case k1 => walk_at "n"); (case k2 => walk_at "h")))
local macro_rules | `(tactic| walk_at "l") => `(tactic| first
  | with_reducible assumption
  | ((with_reducible refine' SqL.of ?k1); (case k1 => walk_at "h"))
  | ((with_reducible refine' sqL_new (by with_reducible assumption) ?k1); (case k1 => walk_at "l"))
  | ((with_reducible refine' sqL_sm (by with_reducible assumption) ?k1); (case k1 => walk_at "l")))
local macro_rules | `(tactic| walk_at "t") => `(tactic| first
  | with_reducible assumption
  | ((with_reducible refine' SqT.of ?k1); (case k1 => walk_at "h"))
  | ((with_reducible refine' sqT_new (by with_reducible assumption) ?k1); (case k1 => walk_at "t"))
  | ((with_reducible refine' seqT_same (by with_reducible assumption) ?k1); (case k1 => walk_at "t")))
local macro_rules | `(tactic| walk_at "lt") => `(tactic| first
  | with_reducible assumption
  | ((refine' Or.inl ?k1); (case k1 => walk_at "l"))
  | ((refine' Or.inr ?k1); (case k1 => walk_at "t")))
local macro_rules | `(tactic| walk_at "c") => `(tactic| first
  | exact trivial
  | with_reducible assumption
  | exact wide_div (b := 100) (by decide) (by decide) (by decide) (by decide)
  | decide
  | omega
  | (refine' Or.inr ⟨?_, ?_⟩ <;> first | decide | omega)
  | (refine' Or.inl ⟨?_, ?_⟩ <;> first | decide | omega)
  | (refine' And.intro ?_ (And.intro ?_ ?_) <;> first | decide | omega)
  | (refine' And.intro ?_ ?_ <;> first | decide | omega))
local macro_rules | `(tactic| walk_at "ty") => `(tactic| first
  | exact .base (.int _)
  | exact .base (.str _)
  | exact .base (.bl _)
  | exact .base .non
  | ((with_reducible refine' tyL ?k1); (case k1 => walk_at "l"))
  | ((with_reducible refine' tyT ?k1); (case k1 => walk_at "t")))
local macro_rules | `(tactic| walk_at "kb") => `(tactic| first
  | exact kb_int_int
  | exact kb_int_str
  | exact kb_int_bool
  | exact kb_int_list
  | exact kb_int_tuple
  | exact kb_str_int
  | exact kb_str_str
  | exact kb_str_bool
  | exact kb_str_list
  | exact kb_str_tuple
  | exact kb_bool_int
  | exact kb_bool_str
  | exact kb_bool_bool
  | exact kb_bool_list
  | exact kb_bool_tuple
  | exact kb_NoneType_int
  | exact kb_NoneType_str
  | exact kb_NoneType_bool
  | exact kb_NoneType_list
  | exact kb_NoneType_tuple
  | exact kb_list_int
  | exact kb_list_str
  | exact kb_list_bool
  | exact kb_list_list
  | exact kb_list_tuple
  | exact kb_tuple_int
  | exact kb_tuple_str
  | exact kb_tuple_bool
  | exact kb_tuple_list
  | exact kb_tuple_tuple)
local macro_rules | `(tactic| walk_at "s") => `(tactic| first
  | with_reducible refine' g_seq ?_
  | with_reducible refine' g_asg ?_
  | with_reducible refine' g_ifS ?_
  | with_reducible refine' g_ret ?_
  | with_reducible refine' g_drop ?_
  | with_reducible refine' g_next ?_
  | with_reducible refine' g_op ?_
  | with_reducible refine' g_c ?_
  | with_reducible refine' g_v0 ?_
  | with_reducible refine' g_n0 ?_
  | with_reducible refine' g_v1 ?_
  | with_reducible refine' g_n1 ?_
  | with_reducible refine' g_v2 ?_
  | with_reducible refine' g_n2 ?_
  | with_reducible refine' g_v3 ?_
  | with_reducible refine' g_n3 ?_
  | with_reducible refine' g_v4 ?_
  | with_reducible refine' g_n4 ?_
  | with_reducible refine' g_v5 ?_
  | with_reducible refine' g_n5 ?_
  | with_reducible refine' g_v6 ?_
  | with_reducible refine' g_n6 ?_
  | with_reducible refine' g_v7 ?_
  | with_reducible refine' g_n7 ?_
  | with_reducible refine' g_v8 ?_
  | with_reducible refine' g_n8 ?_
  | with_reducible refine' g_v9 ?_
  | with_reducible refine' g_n9 ?_
  | with_reducible refine' g_v10 ?_
  | with_reducible refine' g_n10 ?_
  | with_reducible refine' g_v11 ?_
  | with_reducible refine' g_n11 ?_
  | with_reducible refine' g_v12 ?_
  | with_reducible refine' g_n12 ?_
  | with_reducible refine' g_v13 ?_
  | with_reducible refine' g_n13 ?_
  | with_reducible refine' g_v14 ?_
  | with_reducible refine' g_n14 ?_
  | with_reducible refine' g_v15 ?_
  | with_reducible refine' g_n15 ?_
  | with_reducible refine' g_sub ?_
  | with_reducible refine' g_rI0 ?_
  | with_reducible refine' g_p6 ?_
  | with_reducible refine' g_p18 ?_
  | ((with_reducible refine' g_rI ?_ ?_); (· walk_at "c"))
  | with_reducible refine' g_cb ?_
  | with_reducible refine' g_cons ?_
  | with_reducible refine' g_nil ?_
  | with_reducible refine' g_int ?_
  | ((with_reducible refine' g_ixL0 ?k1 ?_); (case k1 => walk_at "l"))
  | ((with_reducible refine' g_setL0 ?k1 ?_); (case k1 => walk_at "h"))
  | ((with_reducible refine' g_ixL1 ?k1 ?_); (case k1 => walk_at "l"))
  | ((with_reducible refine' g_setL1 ?k1 ?_); (case k1 => walk_at "h"))
  | ((with_reducible refine' g_ixL2 ?k1 ?_); (case k1 => walk_at "l"))
  | ((with_reducible refine' g_setL2 ?k1 ?_); (case k1 => walk_at "h"))
  | ((with_reducible refine' g_ixL3 ?k1 ?_); (case k1 => walk_at "l"))
  | ((with_reducible refine' g_setL3 ?k1 ?_); (case k1 => walk_at "h"))
  | ((with_reducible refine' g_ixL4 ?k1 ?_); (case k1 => walk_at "l"))
  | ((with_reducible refine' g_setL4 ?k1 ?_); (case k1 => walk_at "h"))
  | ((with_reducible refine' g_ixL5 ?k1 ?_); (case k1 => walk_at "l"))
  | ((with_reducible refine' g_setL5 ?k1 ?_); (case k1 => walk_at "h"))
  | ((with_reducible refine' g_ixL6 ?k1 ?_); (case k1 => walk_at "l"))
  | ((with_reducible refine' g_setL6 ?k1 ?_); (case k1 => walk_at "h"))
  | ((with_reducible refine' g_ixL7 ?k1 ?_); (case k1 => walk_at "l"))
  | ((with_reducible refine' g_setL7 ?k1 ?_); (case k1 => walk_at "h"))
  | ((with_reducible refine' g_ixL8 ?k1 ?_); (case k1 => walk_at "l"))
  | ((with_reducible refine' g_setL8 ?k1 ?_); (case k1 => walk_at "h"))
  | ((with_reducible refine' g_ixL9 ?k1 ?_); (case k1 => walk_at "l"))
  | ((with_reducible refine' g_setL9 ?k1 ?_); (case k1 => walk_at "h"))
  | ((with_reducible refine' g_ixL ?k1 ?k2 ?_); (case k1 => walk_at "l"); (case k2 => walk_at "a"))
  | ((with_reducible refine' g_setL ?k1 ?k2 ?_); (case k1 => walk_at "h"); (case k2 => rfl))
  | with_reducible refine' g_eqI ?_
  | with_reducible refine' g_neI ?_
  | with_reducible refine' g_eqS ?_
  | with_reducible refine' g_eqB ?_
  | with_reducible refine' g_neB ?_
  | with_reducible refine' g_test ?_
  | with_reducible refine' g_b ?_
  | with_reducible refine' g_bl ?_
  | with_reducible refine' g_and ?_
  | with_reducible refine' g_or ?_
  | with_reducible refine' g_not ?_
  | with_reducible refine' g_yes ?_
  | with_reducible refine' g_if ?_
  | with_reducible refine' g_andV ?_
  | with_reducible refine' g_orV ?_
  | with_reducible refine' g_notV ?_
  | with_reducible refine' g_call ?_
  | (with_reducible refine' g_lst ?_)
  | (with_reducible refine' g_tup ?_)
  | ((with_reducible refine' g_len ?k1 ?_); (case k1 => walk_at "lt"))
  | (with_reducible refine' g_un ?_)
  | (with_reducible refine' g_rU ?_)
  | with_reducible refine' g_isNr ?_
  | with_reducible refine' g_isNn ?_
  | with_reducible refine' g_isNi ?_
  | with_reducible refine' g_isNb ?_
  | with_reducible refine' g_isNs ?_
  | ((with_reducible refine' g_newL ?k1 ?_); (case k1 => (simp only [List.length_cons, List.length_nil, Nat.reduceAdd, Nat.reduceLeDiff])); intro p hp)
  | ((with_reducible refine' g_newT ?k1 ?_); (case k1 => (simp only [List.length_cons, List.length_nil, Nat.reduceAdd, Nat.reduceLeDiff])); intro p hp)
  | with_reducible refine' g_sl ?_
  | with_reducible refine' g_part ?_
  | with_reducible refine' g_partI ?_
  | with_reducible refine' g_noPart ?_
  | ((with_reducible refine' g_slL ?k1 ?_); (case k1 => walk_at "l"); intro p hp)
  | ((with_reducible refine' g_inI ?k1 ?_); (case k1 => walk_at "lt"))
  | ((with_reducible refine' g_notinI ?k1 ?_); (case k1 => walk_at "lt"))
  | ((with_reducible refine' g_cat ?k1 ?k2 ?k3 ?_); (case k1 => walk_at "h"); (case k2 => walk_at "h"); (case k3 => walk_at "len"); intro p hp)
  | ((with_reducible refine' g_list ?k1 ?_); (case k1 => walk_at "lt"); intro p hp)
  | ((with_reducible refine' g_tuple ?k1 ?_); (case k1 => walk_at "l"); intro p hp)
  | ((with_reducible refine' g_sum ?k1 ?_); (case k1 => walk_at "l"))
  | ((with_reducible refine' g_any ?k1 ?_); (case k1 => walk_at "l"))
  | ((with_reducible refine' g_all ?k1 ?_); (case k1 => walk_at "l"))
  | with_reducible refine' g_iEn2 ?_
  | with_reducible refine' g_iEnum ?_
  | ((with_reducible refine' g_en1 ?k1 ?_); (case k1 => walk_at "l"))
  | ((with_reducible refine' g_gTup ?k1 ?k2 ?_); (case k1 => walk_at "t"); (case k2 => rfl))
  | with_reducible refine' g_gCons ?_
  | with_reducible refine' g_gNil ?_
  | ((with_reducible refine' g_qix0 ?k1 ?_); (case k1 => walk_at "lt"))
  | ((with_reducible refine' g_qix1 ?k1 ?_); (case k1 => walk_at "lt"))
  | ((with_reducible refine' g_qix2 ?k1 ?_); (case k1 => walk_at "lt"))
  | ((with_reducible refine' g_qix3 ?k1 ?_); (case k1 => walk_at "lt"))
  | ((with_reducible refine' g_qix4 ?k1 ?_); (case k1 => walk_at "lt"))
  | ((with_reducible refine' g_qix5 ?k1 ?_); (case k1 => walk_at "lt"))
  | ((with_reducible refine' g_qix6 ?k1 ?_); (case k1 => walk_at "lt"))
  | ((with_reducible refine' g_qix7 ?k1 ?_); (case k1 => walk_at "lt"))
  | ((with_reducible refine' g_qix8 ?k1 ?_); (case k1 => walk_at "lt"))
  | ((with_reducible refine' g_qix9 ?k1 ?_); (case k1 => walk_at "lt"))
  | ((with_reducible refine' g_qix ?k1 ?k2 ?_); (case k1 => walk_at "lt"); (case k2 => walk_at "a"))
  | with_reducible refine' g_turn1 ?_
  | ((with_reducible refine' g_turnB ?k1 ?_); (case k1 => rfl))
  | with_reducible refine' g_turnCt ?_
  | with_reducible refine' g_aug ?_
  | with_reducible refine' g_ipI ?_
  | with_reducible refine' g_par ?_
  | with_reducible refine' g_parR ?_
  | with_reducible refine' g_par3 ?_
  | with_reducible refine' g_parR3 ?_
  | with_reducible refine' g_callN ?_
  | ((with_reducible refine' g_kArg ?k1 ?k2 ?k3 ?_); (case k1 => rfl); (case k2 => rfl); (case k3 => rfl))
  | with_reducible refine' g_bm ?_
  | ((with_reducible refine' g_bmL ?k1 ?_); (case k1 => walk_at "l"))
  | ((with_reducible refine' g_neDI ?k1 ?k2 ?_); (case k1 => walk_at "l"); (case k2 => walk_at "l"))
  | ((with_reducible refine' g_eqDI ?k1 ?k2 ?_); (case k1 => walk_at "l"); (case k2 => walk_at "l"))
  | with_reducible refine' g_ifT ?_
  | with_reducible refine' g_lstRg ?_
  | with_reducible refine' g_tRg1 ?_
  | with_reducible refine' g_rg1R ?_
  | ((with_reducible refine' g_rgNew ?_ ?_); (· (first | omega | (refine' And.intro ?_ (And.intro ?_ (And.intro ?_ ?_)) <;> omega))); intro p hp)
  | with_reducible refine' g_iZipA ?_
  | with_reducible refine' g_lc ?_
  | with_reducible refine' g_for ?_
  | with_reducible refine' g_iRng1 ?_
  | ((with_reducible refine' g_rng1 ?_ ?_); (· walk_at "c"))
  | with_reducible refine' g_iRng2 ?_
  | ((with_reducible refine' g_rng2 ?_ ?_); (· walk_at "c"))
  | with_reducible refine' g_iList ?_
  | ((with_reducible refine' g_lstR ?k1 ?_); (case k1 => walk_at "l"))
  | with_reducible refine' g_iTup ?_
  | ((with_reducible refine' g_tupR ?k1 ?_); (case k1 => walk_at "t"))
  | ((with_reducible refine' g_isi ?k1 ?k2 ?_); (case k1 => walk_at "ty"); (case k2 => walk_at "kb"))
  | ((with_reducible refine' g_isiT2 ?k1 ?k2 ?k3 ?k4 ?_); (case k1 => walk_at "h"); (case k2 => walk_at "ty"); (case k3 => walk_at "kb"); (case k4 => walk_at "kb"))
  | with_reducible refine' iteT ?_
  | with_reducible refine' iteF ?_
  | ((with_reducible refine' g_iteCT ?k1 ?_); (case k1 => decide))
  | ((with_reducible refine' g_iteCF ?k1 ?_); (case k1 => decide)))
local macro_rules | `(tactic| walk_at "s") => `(tactic| first
  | with_reducible refine' g_fld ?_
  | with_reducible refine' g_chain ?_
  | with_reducible refine' g_chR ?_
  | ((with_reducible refine' g_fldR ?k1 ?k2 ?k3 ?k4 ?_); (case k1 => walk_at "h"); (case k2 => (with_reducible assumption)); (case k3 => (with_reducible assumption)); (case k4 => rfl))
  | with_reducible refine' g_meth ?_
  | ((with_reducible refine' g_methR ?k1 ?k2 ?_); (case k1 => walk_at "h"); (case k2 => rfl))
  | with_reducible refine' g_sfld ?_
  | ((with_reducible refine' g_sfldR ?k1 ?k2 ?k3 ?k4 ?_); (case k1 => walk_at "h"); (case k2 => (with_reducible assumption)); (case k3 => (with_reducible assumption)); (case k4 => decide)))
local macro_rules | `(tactic| walk_at "a") => `(tactic| first
  | rfl
  | (with_reducible assumption))
local macro_rules | `(tactic| walk_at "go") => `(tactic| repeat walk_at "s")
local macro_rules | `(tactic| walk_at "chg") => `(tactic| first
  | with_reducible assumption
  | with_reducible exact Chg.refl
  | ((with_reducible refine' Chg.put ?_); walk_at "chg")
  | ((with_reducible refine' Chg.lay ?_ (by with_reducible assumption)); walk_at "chg")
  | ((with_reducible refine' Chg.putn ?_ (by with_reducible assumption)); walk_at "chg")
  | ((with_reducible refine' Chg.trans ?_ (sm_chg (by with_reducible assumption))); walk_at "chg")
  | ((with_reducible refine' Chg.trans ?_ (by with_reducible assumption)); walk_at "chg"))
local macro_rules | `(tactic| walk_at "len") => `(tactic| (first
  | omega
  | ((try simp only [List.length_map, List.length_cons, List.length_nil, List.length_append, List.length_range]); omega)))

def topS (i : Nat) : Stmt := PySem.Challenge.pw_answersalone_k24_whole_disks.main.body.getD i (.Pass ⟨0, 0, 0, 0⟩)
abbrev s__law_bag : Stmt := topS 3
abbrev N__law_bag : List Str := ["_law_script", "_law_seed", "_law_cell"]
abbrev P__law_bag : List Str := ["_law_script"]
theorem sc__law_bag : FnScope N__law_bag P__law_bag (defScope s__law_bag) :=
  ⟨rfl, rfl, rfl, by decide +kernel, rfl, by decide +kernel, by decide +kernel⟩
abbrev s__law_draw : Stmt := topS 4
abbrev N__law_draw : List Str := ["_law_bag_here", "_law_many", "_law_cell", "_law_digit", "_law_seed"]
abbrev P__law_draw : List Str := ["_law_bag_here", "_law_many"]
theorem sc__law_draw : FnScope N__law_draw P__law_draw (defScope s__law_draw) :=
  ⟨rfl, rfl, rfl, by decide +kernel, rfl, by decide +kernel, by decide +kernel⟩
abbrev s__law_of : Stmt := topS 5
abbrev N__law_of : List Str := ["_law_bag_here", "_law_things"]
abbrev P__law_of : List Str := ["_law_bag_here", "_law_things"]
theorem sc__law_of : FnScope N__law_of P__law_of (defScope s__law_of) :=
  ⟨rfl, rfl, rfl, by decide +kernel, rfl, by decide +kernel, by decide +kernel⟩
abbrev s__law_like : Stmt := topS 6
abbrev N__law_like : List Str := ["_law_found", "_law_due", "_law_one", "_law_two"]
abbrev P__law_like : List Str := ["_law_found", "_law_due"]
theorem sc__law_like : FnScope N__law_like P__law_like (defScope s__law_like) :=
  ⟨rfl, rfl, rfl, by decide +kernel, rfl, by decide +kernel, by decide +kernel⟩
abbrev s__law_signs : Stmt := topS 7
abbrev N__law_signs : List Str := ["_law_bag_here", "_law_many", "_law_some", "_law_one", "_law_k"]
abbrev P__law_signs : List Str := ["_law_bag_here", "_law_many"]
theorem sc__law_signs : FnScope N__law_signs P__law_signs (defScope s__law_signs) :=
  ⟨rfl, rfl, rfl, by decide +kernel, rfl, by decide +kernel, by decide +kernel⟩
abbrev s__law_start : Stmt := topS 8
abbrev N__law_start : List Str := ["_law_bag_here", "_law_parts", "_law_k"]
abbrev P__law_start : List Str := ["_law_bag_here"]
theorem sc__law_start : FnScope N__law_start P__law_start (defScope s__law_start) :=
  ⟨rfl, rfl, rfl, by decide +kernel, rfl, by decide +kernel, by decide +kernel⟩
abbrev s__law_fallen : Stmt := topS 9
abbrev N__law_fallen : List Str := ["_law_whole", "_law_synced", "_law_many", "_law_rest", "_law_found", "_law_lines", "_law_signs_here", "_law_one"]
abbrev P__law_fallen : List Str := ["_law_whole", "_law_synced", "_law_many", "_law_rest"]
theorem sc__law_fallen : FnScope N__law_fallen P__law_fallen (defScope s__law_fallen) :=
  ⟨rfl, rfl, rfl, by decide +kernel, rfl, by decide +kernel, by decide +kernel⟩
abbrev s__law_whole_lines : Stmt := topS 10
abbrev N__law_whole_lines : List Str := ["_law_whole", "_law_found", "_law_one", "_law_sign"]
abbrev P__law_whole_lines : List Str := ["_law_whole"]
theorem sc__law_whole_lines : FnScope N__law_whole_lines P__law_whole_lines (defScope s__law_whole_lines) :=
  ⟨rfl, rfl, rfl, by decide +kernel, rfl, by decide +kernel, by decide +kernel⟩
abbrev s__law_disk_like : Stmt := topS 11
abbrev N__law_disk_like : List Str := ["_law_disk", "_law_state", "_law_lines"]
abbrev P__law_disk_like : List Str := ["_law_disk", "_law_state"]
theorem sc__law_disk_like : FnScope N__law_disk_like P__law_disk_like (defScope s__law_disk_like) :=
  ⟨rfl, rfl, rfl, by decide +kernel, rfl, by decide +kernel, by decide +kernel⟩
abbrev s__law_disk_deed : Stmt := topS 12
abbrev N__law_disk_deed : List Str := ["_law_bag_here", "_law_disk", "_law_state", "_law_road", "_law_many", "_law_rest", "_law_whole", "_law_synced", "_law_one"]
abbrev P__law_disk_deed : List Str := ["_law_bag_here", "_law_disk", "_law_state"]
theorem sc__law_disk_deed : FnScope N__law_disk_deed P__law_disk_deed (defScope s__law_disk_deed) :=
  ⟨rfl, rfl, rfl, by decide +kernel, rfl, by decide +kernel, by decide +kernel⟩
abbrev s_law : Stmt := topS 13
abbrev N_law : List Str := ["_law_script", "_law_bag_here", "_law_start_here", "_law_disk", "_law_state", "_law_k", "_law_twin", "_law_other", "_law_again"]
abbrev P_law : List Str := ["_law_script"]
theorem sc_law : FnScope N_law P_law (defScope s_law) :=
  ⟨rfl, rfl, rfl, by decide +kernel, rfl, by decide +kernel, by decide +kernel⟩
abbrev s_Disk___init__ : Stmt := inClass (topS 1) 0
abbrev N_Disk___init__ : List Str := ["self", "content"]
abbrev P_Disk___init__ : List Str := ["self", "content"]
theorem sc_Disk___init__ : FnScope N_Disk___init__ P_Disk___init__ (defScope s_Disk___init__) :=
  ⟨rfl, rfl, rfl, by decide +kernel, rfl, by decide +kernel, by decide +kernel⟩
abbrev s_Disk_content : Stmt := inClass (topS 1) 1
abbrev N_Disk_content : List Str := ["self"]
abbrev P_Disk_content : List Str := ["self"]
theorem sc_Disk_content : FnScope N_Disk_content P_Disk_content (defScope s_Disk_content) :=
  ⟨rfl, rfl, rfl, by decide +kernel, rfl, by decide +kernel, by decide +kernel⟩
abbrev s_Disk_synced : Stmt := inClass (topS 1) 2
abbrev N_Disk_synced : List Str := ["self"]
abbrev P_Disk_synced : List Str := ["self"]
theorem sc_Disk_synced : FnScope N_Disk_synced P_Disk_synced (defScope s_Disk_synced) :=
  ⟨rfl, rfl, rfl, by decide +kernel, rfl, by decide +kernel, by decide +kernel⟩
abbrev s_Disk_write : Stmt := inClass (topS 1) 3
abbrev N_Disk_write : List Str := ["self", "line"]
abbrev P_Disk_write : List Str := ["self", "line"]
theorem sc_Disk_write : FnScope N_Disk_write P_Disk_write (defScope s_Disk_write) :=
  ⟨rfl, rfl, rfl, by decide +kernel, rfl, by decide +kernel, by decide +kernel⟩
abbrev s_Disk_sync : Stmt := inClass (topS 1) 4
abbrev N_Disk_sync : List Str := ["self"]
abbrev P_Disk_sync : List Str := ["self"]
theorem sc_Disk_sync : FnScope N_Disk_sync P_Disk_sync (defScope s_Disk_sync) :=
  ⟨rfl, rfl, rfl, by decide +kernel, rfl, by decide +kernel, by decide +kernel⟩
abbrev s_Disk_fall : Stmt := inClass (topS 1) 5
abbrev N_Disk_fall : List Str := ["self", "keep", "torn", "pieces", "whole", "left", "line"]
abbrev P_Disk_fall : List Str := ["self", "keep", "torn"]
theorem sc_Disk_fall : FnScope N_Disk_fall P_Disk_fall (defScope s_Disk_fall) :=
  ⟨rfl, rfl, rfl, by decide +kernel, rfl, by decide +kernel, by decide +kernel⟩
abbrev s_Disk_trim : Stmt := inClass (topS 1) 6
abbrev N_Disk_trim : List Str := ["self"]
abbrev P_Disk_trim : List Str := ["self"]
theorem sc_Disk_trim : FnScope N_Disk_trim P_Disk_trim (defScope s_Disk_trim) :=
  ⟨rfl, rfl, rfl, by decide +kernel, rfl, by decide +kernel, by decide +kernel⟩
abbrev s_Disk_lines : Stmt := inClass (topS 1) 7
abbrev N_Disk_lines : List Str := ["self"]
abbrev P_Disk_lines : List Str := ["self"]
theorem sc_Disk_lines : FnScope N_Disk_lines P_Disk_lines (defScope s_Disk_lines) :=
  ⟨rfl, rfl, rfl, by decide +kernel, rfl, by decide +kernel, by decide +kernel⟩
abbrev s_Disk_twin : Stmt := inClass (topS 1) 8
abbrev N_Disk_twin : List Str := ["self", "other"]
abbrev P_Disk_twin : List Str := ["self"]
theorem sc_Disk_twin : FnScope N_Disk_twin P_Disk_twin (defScope s_Disk_twin) :=
  ⟨rfl, rfl, rfl, by decide +kernel, rfl, by decide +kernel, by decide +kernel⟩
abbrev s_Disk___len__ : Stmt := inClass (topS 1) 9
abbrev N_Disk___len__ : List Str := ["self"]
abbrev P_Disk___len__ : List Str := ["self"]
theorem sc_Disk___len__ : FnScope N_Disk___len__ P_Disk___len__ (defScope s_Disk___len__) :=
  ⟨rfl, rfl, rfl, by decide +kernel, rfl, by decide +kernel, by decide +kernel⟩
abbrev s_Disk___bool__ : Stmt := inClass (topS 1) 10
abbrev N_Disk___bool__ : List Str := ["self"]
abbrev P_Disk___bool__ : List Str := ["self"]
theorem sc_Disk___bool__ : FnScope N_Disk___bool__ P_Disk___bool__ (defScope s_Disk___bool__) :=
  ⟨rfl, rfl, rfl, by decide +kernel, rfl, by decide +kernel, by decide +kernel⟩
abbrev s_Disk___repr__ : Stmt := inClass (topS 1) 11
abbrev N_Disk___repr__ : List Str := ["self"]
abbrev P_Disk___repr__ : List Str := ["self"]
theorem sc_Disk___repr__ : FnScope N_Disk___repr__ P_Disk___repr__ (defScope s_Disk___repr__) :=
  ⟨rfl, rfl, rfl, by decide +kernel, rfl, by decide +kernel, by decide +kernel⟩

/-- the bag of a law -/
def Bag (H : Hp) (a l : Addr) : Prop := ∃ (ns : List Int) (i g m c : Int),
  H a = some (.lst [.ref l, .int i, .int g, .int m, .int c]) ∧ H l = some (.lst (ns.map V.int)) ∧ l ≠ a ∧
  0 ≤ i ∧ 0 ≤ g ∧ 0 ≤ m ∧ m < 2147483563 ∧ 0 ≤ c

abbrev CD (K : PySem.W.Frag) : Addr := He.ga K "Disk"
structure Top (K : PySem.W.Frag) (mg : Str → Option Value) : Prop where
  f__law_bag : ∃ (f : Addr) (fd : FuncData), FunD K "_law_bag" "_law_bag" (defArgs s__law_bag) (defBody s__law_bag) (defScope s__law_bag) [] [] f fd ∧ mg "_law_bag" = some (.ref f)
  f__law_draw : ∃ (f : Addr) (fd : FuncData), FunD K "_law_draw" "_law_draw" (defArgs s__law_draw) (defBody s__law_draw) (defScope s__law_draw) [] [] f fd ∧ mg "_law_draw" = some (.ref f)
  f__law_of : ∃ (f : Addr) (fd : FuncData), FunD K "_law_of" "_law_of" (defArgs s__law_of) (defBody s__law_of) (defScope s__law_of) [] [] f fd ∧ mg "_law_of" = some (.ref f)
  f__law_like : ∃ (f : Addr) (fd : FuncData), FunD K "_law_like" "_law_like" (defArgs s__law_like) (defBody s__law_like) (defScope s__law_like) [] [] f fd ∧ mg "_law_like" = some (.ref f)
  f__law_signs : ∃ (f : Addr) (fd : FuncData), FunD K "_law_signs" "_law_signs" (defArgs s__law_signs) (defBody s__law_signs) (defScope s__law_signs) [] [] f fd ∧ mg "_law_signs" = some (.ref f)
  f__law_start : ∃ (f : Addr) (fd : FuncData), FunD K "_law_start" "_law_start" (defArgs s__law_start) (defBody s__law_start) (defScope s__law_start) [] [] f fd ∧ mg "_law_start" = some (.ref f)
  f__law_fallen : ∃ (f : Addr) (fd : FuncData), FunD K "_law_fallen" "_law_fallen" (defArgs s__law_fallen) (defBody s__law_fallen) (defScope s__law_fallen) [] [] f fd ∧ mg "_law_fallen" = some (.ref f)
  f__law_whole_lines : ∃ (f : Addr) (fd : FuncData), FunD K "_law_whole_lines" "_law_whole_lines" (defArgs s__law_whole_lines) (defBody s__law_whole_lines) (defScope s__law_whole_lines) [] [] f fd ∧ mg "_law_whole_lines" = some (.ref f)
  f__law_disk_like : ∃ (f : Addr) (fd : FuncData), FunD K "_law_disk_like" "_law_disk_like" (defArgs s__law_disk_like) (defBody s__law_disk_like) (defScope s__law_disk_like) [] [] f fd ∧ mg "_law_disk_like" = some (.ref f)
  f__law_disk_deed : ∃ (f : Addr) (fd : FuncData), FunD K "_law_disk_deed" "_law_disk_deed" (defArgs s__law_disk_deed) (defBody s__law_disk_deed) (defScope s__law_disk_deed) [] [] f fd ∧ mg "_law_disk_deed" = some (.ref f)
  f_law : ∃ (f : Addr) (fd : FuncData), FunD K "law" "law" (defArgs s_law) (defBody s_law) (defScope s_law) [] [] f fd ∧ mg "law" = some (.ref f)
  g_Disk : mg "Disk" = some (.ref (He.ga K "Disk"))
  cl_Disk : Cls K (He.ga K "Disk")
  na_Disk__content : NoAttr K (He.ga K "Disk") "_content"
  na_Disk__synced : NoAttr K (He.ga K "Disk") "_synced"
  mk_Disk : Mk K (He.ga K "Disk") (He.ma K (He.ga K "Disk") "__init__")
  f_Disk___init__ : ∃ (fd : FuncData), FunD K "__init__" "Disk.__init__" (defArgs s_Disk___init__) (defBody s_Disk___init__) (defScope s_Disk___init__) [.str ""] [] (He.ma K (He.ga K "Disk") "__init__") fd
  pr_Disk_content : ∃ (p g : Addr) (fd : FuncData), PropOf K (He.ga K "Disk") "content" p g ∧ FunD K "content" "Disk.content" (defArgs s_Disk_content) (defBody s_Disk_content) (defScope s_Disk_content) [] [] g fd
  pr_Disk_synced : ∃ (p g : Addr) (fd : FuncData), PropOf K (He.ga K "Disk") "synced" p g ∧ FunD K "synced" "Disk.synced" (defArgs s_Disk_synced) (defBody s_Disk_synced) (defScope s_Disk_synced) [] [] g fd
  me_Disk_write : Meth K (He.ga K "Disk") "write" (He.ma K (He.ga K "Disk") "write")
  f_Disk_write : ∃ (fd : FuncData), FunD K "write" "Disk.write" (defArgs s_Disk_write) (defBody s_Disk_write) (defScope s_Disk_write) [] [] (He.ma K (He.ga K "Disk") "write") fd
  me_Disk_sync : Meth K (He.ga K "Disk") "sync" (He.ma K (He.ga K "Disk") "sync")
  f_Disk_sync : ∃ (fd : FuncData), FunD K "sync" "Disk.sync" (defArgs s_Disk_sync) (defBody s_Disk_sync) (defScope s_Disk_sync) [] [] (He.ma K (He.ga K "Disk") "sync") fd
  me_Disk_fall : Meth K (He.ga K "Disk") "fall" (He.ma K (He.ga K "Disk") "fall")
  f_Disk_fall : ∃ (fd : FuncData), FunD K "fall" "Disk.fall" (defArgs s_Disk_fall) (defBody s_Disk_fall) (defScope s_Disk_fall) [.int 0, .int 0] [] (He.ma K (He.ga K "Disk") "fall") fd
  me_Disk_trim : Meth K (He.ga K "Disk") "trim" (He.ma K (He.ga K "Disk") "trim")
  f_Disk_trim : ∃ (fd : FuncData), FunD K "trim" "Disk.trim" (defArgs s_Disk_trim) (defBody s_Disk_trim) (defScope s_Disk_trim) [] [] (He.ma K (He.ga K "Disk") "trim") fd
  me_Disk_lines : Meth K (He.ga K "Disk") "lines" (He.ma K (He.ga K "Disk") "lines")
  f_Disk_lines : ∃ (fd : FuncData), FunD K "lines" "Disk.lines" (defArgs s_Disk_lines) (defBody s_Disk_lines) (defScope s_Disk_lines) [] [] (He.ma K (He.ga K "Disk") "lines") fd
  me_Disk_twin : Meth K (He.ga K "Disk") "twin" (He.ma K (He.ga K "Disk") "twin")
  f_Disk_twin : ∃ (fd : FuncData), FunD K "twin" "Disk.twin" (defArgs s_Disk_twin) (defBody s_Disk_twin) (defScope s_Disk_twin) [] [] (He.ma K (He.ga K "Disk") "twin") fd
  me_Disk___len__ : Meth K (He.ga K "Disk") "__len__" (He.ma K (He.ga K "Disk") "__len__")
  f_Disk___len__ : ∃ (fd : FuncData), FunD K "__len__" "Disk.__len__" (defArgs s_Disk___len__) (defBody s_Disk___len__) (defScope s_Disk___len__) [] [] (He.ma K (He.ga K "Disk") "__len__") fd
  me_Disk___bool__ : Meth K (He.ga K "Disk") "__bool__" (He.ma K (He.ga K "Disk") "__bool__")
  f_Disk___bool__ : ∃ (fd : FuncData), FunD K "__bool__" "Disk.__bool__" (defArgs s_Disk___bool__) (defBody s_Disk___bool__) (defScope s_Disk___bool__) [] [] (He.ma K (He.ga K "Disk") "__bool__") fd
  me_Disk___repr__ : Meth K (He.ga K "Disk") "__repr__" (He.ma K (He.ga K "Disk") "__repr__")
  f_Disk___repr__ : ∃ (fd : FuncData), FunD K "__repr__" "Disk.__repr__" (defArgs s_Disk___repr__) (defBody s_Disk___repr__) (defScope s_Disk___repr__) [] [] (He.ma K (He.ga K "Disk") "__repr__") fd
  z_len : mg "len" = none
  z_min : mg "min" = none
  z_list : mg "list" = none
  z_int : mg "int" = none
  z_isinstance : mg "isinstance" = none
  z_str : mg "str" = none
  z_tuple : mg "tuple" = none
  z_bool : mg "bool" = none
  z_all : mg "all" = none
  z_zip : mg "zip" = none
  z_range : mg "range" = none
  z_repr : mg "repr" = none
section
variable {P : Program} {w : World} {K : PySem.W.Frag} {mg : Str → Option Value} {base : Heap}
def spDraw (B : Int) : Sp := fun vs H Q _ => ∃ (a l : Addr) (size : Int), vs = [.ref a, .int size] ∧ Bag H a l ∧ 1 ≤ size ∧ size ≤ B ∧
  ∀ (r : Int) (H' : Hp), 0 ≤ r → r < size → Bag H' a l → Chg a H H' → Q (.int r) H'
theorem ok_draw1 {f : Addr} {fd : FuncData} (T : Top K mg) (F : FunD K "_law_draw" "_law_draw" (defArgs s__law_draw) (defBody s__law_draw) (defScope s__law_draw) [] [] f fd) :
    FnOk P w K mg base CX0 1 f fd P__law_draw (spDraw 1000000) := by
  refine F.ok sc__law_draw (fun vs H Q E h => ?_) (fun cdv A outer s H vs Q E hr h => ?_)
  · obtain ⟨a, l, size, rfl, _⟩ := h
    rfl
  · obtain ⟨a, l, size, rfl, ⟨ns, i, g, m, c, hB, hl, hla, hi, hg, hm, hm', hc⟩, h1, h2, q⟩ := h
    refine ⟨_, PSs.nox (C8.pss_cut (ps_asg (pe_op op_add (pe_ix (k_ix (K := K) (by rfl)) (pv 0) pe_int (fun _ _ => rfl)) pe_int) (pg_sub (pv 0) pe_int set_list))
    (C8.pss_cut (ps_if (PW.pt (pw_and (pt_cmpR op_eq (pe_ix (k_ix (K := K) (by rfl)) (pv 0) pe_int (fun _ _ => rfl)) pe_int (nomark _)) (pw_and1 (pt_cmpR op_lt (pe_ix (k_ix (K := K) (by rfl)) (pv 0) pe_int (fun _ _ => rfl)) (pe_callB (k_len (K := K) (by rfl)) (by rfl) T.z_len (by decide +kernel) (pa_cons (pe_ix (k_ix (K := K) (by rfl)) (pv 0) pe_int (fun _ _ => rfl)) pa_nil)) (nomark _)))))
    (pss_cons (ps_set (i := 2) sc__law_draw.nd rfl (by first | exact Or.inl rfl | exact Or.inr rfl) (pe_ix (k_ix (K := K) (by rfl)) (pe_ix (k_ix (K := K) (by rfl)) (pv 0) pe_int (fun _ _ => rfl)) (pe_ix (k_ix (K := K) (by rfl)) (pv 0) pe_int (fun _ _ => rfl)) (fun _ _ => rfl)))
    (pss_cons (ps_asg (pe_op op_add (pe_ix (k_ix (K := K) (by rfl)) (pv 0) pe_int (fun _ _ => rfl)) pe_int) (pg_sub (pv 0) pe_int set_list))
    (pss_one (ps_if (pt_cmpR op_ge (pv 2) (pe_op op_pow pe_int pe_int) (nomark _))
    (pss_one (ps_asg (pv 2) (pg_sub (pv 0) pe_int set_list)))
    (pss_one (ps_asg (pe_op op_mod (pe_callTy c_int (by rfl) T.z_int (by decide +kernel) (pa_cons (pe_op op_add (pe_op op_add (pe_op op_mul (pe_ix (k_ix (K := K) (by rfl)) (pv 0) pe_int (fun _ _ => rfl)) pe_int) (pe_op op_mul (pe_op op_mod (pe_callTy c_int (by rfl) T.z_int (by decide +kernel) (pa_cons (pv 2) pa_nil)) pe_int) pe_int)) pe_int) pa_nil)) pe_int) (pg_sub (pv 0) pe_int set_list)))))))
    pss_nil)
    (pss_cons (ps_if (pt_cmpR op_gt (pe_ix (k_ix (K := K) (by rfl)) (pv 0) pe_int (fun _ _ => rfl)) pe_int (nomark _))
    (pss_cons (ps_set (i := 3) sc__law_draw.nd rfl (by first | exact Or.inl rfl | exact Or.inr rfl) (pe_op op_mod (pe_callTy c_int (by rfl) T.z_int (by decide +kernel) (pa_cons (pe_ix (k_ix (K := K) (by rfl)) (pv 0) pe_int (fun _ _ => rfl)) pa_nil)) (pv 1)))
    (pss_cons (ps_asg (pe_op op_fdivW (pe_ix (k_ix (K := K) (by rfl)) (pv 0) pe_int (fun _ _ => rfl)) (pv 1)) (pg_sub (pv 0) pe_int set_list))
    (pss_one (ps_ret (pv 3)))))
    pss_nil)
    (pss_cons (ps_set (i := 4) sc__law_draw.nd rfl (by first | exact Or.inl rfl | exact Or.inr rfl) (pe_ix (k_ix (K := K) (by rfl)) (pv 0) pe_int (fun _ _ => rfl)))
    (pss_cons (ps_asg (pe_op op_mod (pe_callTy c_int (by rfl) T.z_int (by decide +kernel) (pa_cons (pe_op op_add (pe_op op_add (pe_op op_add (pe_op op_mul (pe_op op_mul (pv 4) (pv 4)) pe_int) (pe_op op_mul (pv 4) pe_int)) (pe_op op_mul (pe_ix (k_ix (K := K) (by rfl)) (pv 0) pe_int (fun _ _ => rfl)) pe_int)) pe_int) pa_nil)) pe_int) (pg_sub (pv 0) pe_int set_list))
    (pss_one (ps_ret (pe_op op_mod (pe_callTy c_int (by rfl) T.z_int (by decide +kernel) (pa_cons (pe_op op_add (pe_op op_fdivW (pe_ix (k_ix (K := K) (by rfl)) (pv 0) pe_int (fun _ _ => rfl)) pe_int) (pe_op op_mul (pe_op op_mod (pe_callTy c_int (by rfl) T.z_int (by decide +kernel) (pa_cons (pe_ix (k_ix (K := K) (by rfl)) (pv 0) pe_int (fun _ _ => rfl)) pa_nil)) pe_int) pe_int)) pa_nil)) (pv 1))))))))), ?_⟩
    try simp only [cxK]
    rw [show L2.start N__law_draw [V.ref a, V.int size] = [some (.ref a), some (.int size), none, none, none] from rfl]
    refine g_cut (fun σ' H' => σ' = [some (.ref a), some (.int size), none, none, none] ∧ ∃ c', H' = upd H a (.lst [V.ref l, V.int i, V.int g, V.int m, V.int c']) ∧ 0 ≤ c') ?_ ?_
    · walk_at "go"
      exact ⟨rfl, _, rfl, by omega⟩
    rintro σ' H' ⟨rfl, c', rfl, hc'⟩
    refine g_cut (fun σ' H' => ∃ x2, σ' = [some (.ref a), some (.int size), x2, none, none] ∧ ∃ i' g' m', H' a = some (.lst [V.ref l, V.int i', V.int g', V.int m', V.int c']) ∧
      0 ≤ i' ∧ 0 ≤ g' ∧ 0 ≤ m' ∧ m' < 2147483563 ∧ Chg a H H') ?_ ?_
    · walk_at "go"
      refine g_iteD (fun h3 => ?_) (fun h3 => ?_)
      · walk_at "go"
        refine g_iteD (fun h4 => ?_) (fun h4 => ?_)
        · have e : atI (ns.map V.int) i = some (.int (ns.getD i.toNat 0)) := by
            have z := atI_nat (xs := ns.map V.int) (j := i.toNat) (v := .int (ns.getD i.toNat 0)) (by
              rw [List.getElem?_map, List.getD_eq_getElem?_getD, List.getElem?_eq_getElem (by rw [List.length_map] at h4; omega)]; rfl)
            rwa [Int.toNat_of_nonneg hi] at z
          walk_at "go"
          refine g_iteD (fun h5 => ?_) (fun h5 => ?_)
          · walk_at "go"
            exact ⟨_, rfl, _, _, _, by walk_at "h", by omega, by omega, hm, hm', by walk_at "chg"⟩
          · walk_at "go"
            exact ⟨_, rfl, _, _, _, by walk_at "h", by omega, by omega, by omega, by omega, by walk_at "chg"⟩
        · walk_at "go"
          exact ⟨_, rfl, i, g, m, by walk_at "h", hi, hg, hm, hm', by walk_at "chg"⟩
      · walk_at "go"
        exact ⟨_, rfl, i, g, m, by walk_at "h", hi, hg, hm, hm', by walk_at "chg"⟩
    rintro σ' H' ⟨x2, rfl, i', g', m', hB', hi', hg', hm1, hm2, ch⟩
    have hl' : H' l = some (HO.lst (List.map V.int ns)) := by walk_at "h"
    walk_at "go"
    refine g_iteD (fun h3 => ?_) (fun h3 => ?_)
    · have hs : 0 < size := by omega
      have hd : CDivW g' size := wide_div (b := 200) hs (Nat.lt_of_le_of_lt (m := 100000000000000000000000000000000000000000) (by omega) (by decide)) (by decide) (by decide)
      walk_at "go"
      exact q _ _ (Int.emod_nonneg _ (by omega)) (Int.emod_lt_of_pos _ (by omega))
        ⟨ns, _, _, _, _, by walk_at "h", by walk_at "h", hla, hi', Int.ediv_nonneg hg' (by omega), hm1, hm2, hc'⟩ (by walk_at "chg")
    · have hs : 0 < size := by omega
      walk_at "go"
      exact q _ _ (Int.emod_nonneg _ (by omega)) (Int.emod_lt_of_pos _ (by omega))
        ⟨ns, _, _, _, _, by walk_at "h", by walk_at "h", hla, hi', hg', by omega, by omega, hc'⟩ (by walk_at "chg")

theorem c_draw1 (T : Top K mg) : Cal P w K mg base "_law_draw" 1 P__law_draw (spDraw 1000000) := cal_mk T.f__law_draw (ok_draw1 T) (fun F => F.bindsN fun _ _ _ _ _ _ us hl => match us, hl with | [_, _], _ => rfl)
end

set_option Elab.async false
set_option linter.all false
set_option maxRecDepth 100000
set_option maxHeartbeats 4000000
open PySem PySem.Spec L2

section
variable {P : Program} {w : World} {K : PySem.W.Frag} {mg : Str → Option Value} {base : Heap}

abbrev FnP (K : PySem.W.Frag) (x : Str) (st : Stmt) (f : Addr) (fd : FuncData) : Prop := FunD K x x (defArgs st) (defBody st) (defScope st) [] [] f fd
/-! _law_like of equal data -/
theorem dp_same {H H' : Hp} (s : Same H H') : ∀ {v : V} {d : PyData}, Dp K H v d → Dp K H' v d := by
  intro v d h
  exact Dp.rec (motive_1 := fun v d _ => Dp K H' v d) (motive_2 := fun vs ds _ => DpAll K H' vs ds) .non (fun b => .bl b) (fun i => .int i) (fun x => .str x)
    (fun h1 _ ih => .lst (s.seq h1) ih) (fun h1 _ ih => .tup (seqT_same s h1) ih) .nil (fun _ _ i1 i2 => .cons i1 i2) h
theorem dpAll_len {H : Hp} : ∀ {vs : List V} {ds : List PyData}, DpAll K H vs ds → vs.length = ds.length
  | _, _, .nil => rfl
  | _, _, .cons _ h => congrArg Nat.succ (dpAll_len h)
theorem dpAll_at {H : Hp} : ∀ {vs : List V} {ds : List PyData} {i : Nat} {v : V}, DpAll K H vs ds → vs[i]? = some v → ∃ d, ds[i]? = some d ∧ Dp K H v d
  | _, _, i, v, .nil, e => by simp at e
  | _, _, 0, v, .cons (d := d) h _, e => ⟨d, rfl, by
      obtain rfl := Option.some.inj e
      exact h⟩
  | _, _, i + 1, v, .cons _ h, e => dpAll_at (i := i) h e
theorem all_rep (n : Nat) : (List.replicate n true).all id = true := by
  induction n with
  | zero => rfl
  | succ n ih => rw [List.replicate_succ, List.all_cons, ih]; rfl
mutual
def smallD : PyData → Bool
  | .list xs => decide (xs.length ≤ 1000) && smallAll xs
  | .tuple xs => decide (xs.length ≤ 1000) && smallAll xs
  | _ => true
def smallAll : List PyData → Bool
  | [] => true
  | x :: xs => smallD x && smallAll xs
end
theorem smallAll_mem : ∀ {xs : List PyData} {x : PyData}, smallAll xs = true → x ∈ xs → smallD x = true
  | y :: ys, x, h, m => by
    have h2 : (smallD y && smallAll ys) = true := h
    rw [Bool.and_eq_true] at h2
    rcases List.mem_cons.mp m with e | m
    · rw [e]; exact h2.1
    · exact smallAll_mem h2.2 m
def spLike (K : PySem.W.Frag) (n : Nat) : Sp := fun vs H Q _ => ∃ (x y : V) (d : PyData), vs = [x, y] ∧ Dp K H x d ∧ Dp K H y d ∧ d.depth ≤ n ∧ smallD d = true ∧ ∀ H', Same H H' → Q (.bl true) H'
theorem g_likeD {n : Nat} {x y : V} {d : PyData} {H : Hp} {Q : VK} {E : XK} (h1 : Dp K H x d) (h2 : Dp K H y d) (hd : d.depth ≤ n) (hs : smallD d = true) (q : ∀ H', Same H H' → Q (.bl true) H') : spLike K n [x, y] H Q E := ⟨x, y, d, rfl, h1, h2, hd, hs, q⟩
theorem ok_like {n : Nat} {f : Addr} {fd : FuncData} (T : Top K mg) (C__law_like : Cal P w K mg base "_law_like" (n + 1) P__law_like (spLike K n)) (F : FnP K "_law_like" s__law_like f fd) :
    FnOk P w K mg base CX0 (n + 2) f fd P__law_like (spLike K (n + 1)) := by
  refine F.ok sc__law_like (fun vs H Q E h => ?_) (fun cdv A outer s H vs Q E hr h => ?_)
  · obtain ⟨x, y, d, rfl, _⟩ := h
    rfl
  · obtain ⟨x, y, d, rfl, hx, hy, hd, hs, q⟩ := h
    refine ⟨_, PSs.nox (pss_cons (ps_if (pt_val (pe_callB (k_isiT (K := K) (by rfl)) (by rfl) T.z_isinstance (by decide +kernel) (pa_cons (pv 1) (pa_cons (pe_tup (pa_cons (pe_bltn (v := .ty "list") (u := .type "list") (by rfl) T.z_list (by decide +kernel) rfl) (pa_cons (pe_bltn (v := .ty "tuple") (u := .type "tuple") (by rfl) T.z_tuple (by decide +kernel) rfl) pa_nil))) pa_nil))))
    (pss_cons (ps_if (PW.pt (pw_or (pt_cmpR op_ne (pe_callB (k_isi (K := K) (by rfl)) (by rfl) T.z_isinstance (by decide +kernel) (pa_cons (pv 0) (pa_cons (pe_bltn (v := .ty "list") (u := .type "list") (by rfl) T.z_list (by decide +kernel) rfl) pa_nil))) (pe_callB (k_isi (K := K) (by rfl)) (by rfl) T.z_isinstance (by decide +kernel) (pa_cons (pv 1) (pa_cons (pe_bltn (v := .ty "list") (u := .type "list") (by rfl) T.z_list (by decide +kernel) rfl) pa_nil))) (nomark _)) (pw_or1 (pt_cmpR op_ne (pe_callB (k_isi (K := K) (by rfl)) (by rfl) T.z_isinstance (by decide +kernel) (pa_cons (pv 0) (pa_cons (pe_bltn (v := .ty "tuple") (u := .type "tuple") (by rfl) T.z_tuple (by decide +kernel) rfl) pa_nil))) (pe_callB (k_isi (K := K) (by rfl)) (by rfl) T.z_isinstance (by decide +kernel) (pa_cons (pv 1) (pa_cons (pe_bltn (v := .ty "tuple") (u := .type "tuple") (by rfl) T.z_tuple (by decide +kernel) rfl) pa_nil))) (nomark _)))))
    (pss_one (ps_ret pe_bl))
    pss_nil)
    (pss_one (ps_ret (pe_and (pe_cmpR op_eq (pe_callB (k_len (K := K) (by rfl)) (by rfl) T.z_len (by decide +kernel) (pa_cons (pv 0) pa_nil)) (pe_callB (k_len (K := K) (by rfl)) (by rfl) T.z_len (by decide +kernel) (pa_cons (pv 1) pa_nil)) (nomark _)) (pe_one (pe_callB (k_all (K := K) (by rfl) (by rfl)) (by rfl) T.z_all (by decide +kernel) (pa_cons (pe_lc (own := [("_law_one", 2), ("_law_two", 3)]) (g := gTup K 2 (gCons (gName 2) (gCons (gName 3) gNil))) (by rfl) sc__law_like.nd (k_zip (K := K) (by rfl) (by rfl) T.z_zip (pa_cons (pv 0) (pa_cons (pv 1) pa_nil))) (blkOk_by (own := [("_law_one", 2), ("_law_two", 3)]) (N := N__law_like) (sc := defScope s__law_like) (by decide +kernel)) (fun _ _ _ _ _ => (k_pgt (K := K) (n := 2) (by rfl) (by rfl) (pgs_cons (pg_name (i := 2) sc__law_like.nd rfl (Or.inl rfl)) (pgs_cons (pg_name (i := 3) sc__law_like.nd rfl (Or.inl rfl)) pgs_nil)) (by rfl) (by rfl))) (fun _ _ _ _ _ => pts_nil) (fun _ _ _ _ _ => (pe_cal C__law_like (hr.mono (by first | decide | omega)) (by rfl) (pa_cons (pv 2) (pa_cons (pv 3) pa_nil))))) pa_nil)))))))
    pss_nil)
    (pss_cons (ps_if (PW.pt (pw_or (pt_cmpR o_isN (pv 1) pe_non (nomark _)) (pw_or1 (pt_cmpR o_isN (pv 0) pe_non (nomark _)))))
    (pss_one (ps_ret (pe_and (pe_cmpR o_isN (pv 1) pe_non (nomark _)) (pe_one (pe_cmpR o_isN (pv 0) pe_non (nomark _))))))
    pss_nil)
    (pss_cons (ps_if (PW.pt (pw_or (pt_val (pe_callB (k_isi (K := K) (by rfl)) (by rfl) T.z_isinstance (by decide +kernel) (pa_cons (pv 1) (pa_cons (pe_bltn (v := .ty "bool") (u := .type "bool") (by rfl) T.z_bool (by decide +kernel) rfl) pa_nil)))) (pw_or1 (pt_val (pe_callB (k_isi (K := K) (by rfl)) (by rfl) T.z_isinstance (by decide +kernel) (pa_cons (pv 0) (pa_cons (pe_bltn (v := .ty "bool") (u := .type "bool") (by rfl) T.z_bool (by decide +kernel) rfl) pa_nil)))))))
    (pss_one (ps_ret (pe_and (pe_callB (k_isi (K := K) (by rfl)) (by rfl) T.z_isinstance (by decide +kernel) (pa_cons (pv 0) (pa_cons (pe_bltn (v := .ty "bool") (u := .type "bool") (by rfl) T.z_bool (by decide +kernel) rfl) pa_nil))) (pe_and (pe_callB (k_isi (K := K) (by rfl)) (by rfl) T.z_isinstance (by decide +kernel) (pa_cons (pv 1) (pa_cons (pe_bltn (v := .ty "bool") (u := .type "bool") (by rfl) T.z_bool (by decide +kernel) rfl) pa_nil))) (pe_one (pe_cmpR op_eq (pv 0) (pv 1) (nomark _)))))))
    pss_nil)
    (pss_cons (ps_if (pt_val (pe_callB (k_isi (K := K) (by rfl)) (by rfl) T.z_isinstance (by decide +kernel) (pa_cons (pv 1) (pa_cons (pe_bltn (v := .ty "str") (u := .type "str") (by rfl) T.z_str (by decide +kernel) rfl) pa_nil))))
    (pss_one (ps_ret (pe_and (pe_callB (k_isi (K := K) (by rfl)) (by rfl) T.z_isinstance (by decide +kernel) (pa_cons (pv 0) (pa_cons (pe_bltn (v := .ty "str") (u := .type "str") (by rfl) T.z_str (by decide +kernel) rfl) pa_nil))) (pe_one (pe_cmpR op_eq (pv 0) (pv 1) (nomark _))))))
    pss_nil)
    (pss_one (ps_ret (pe_and (pe_callB (k_isi (K := K) (by rfl)) (by rfl) T.z_isinstance (by decide +kernel) (pa_cons (pv 0) (pa_cons (pe_bltn (v := .ty "int") (u := .type "int") (by rfl) T.z_int (by decide +kernel) rfl) pa_nil))) (pe_one (pe_cmpR op_eq (pv 0) (pv 1) (nomark _)))))))))), ?_⟩
    rw [show L2.start N__law_like [x, y] = [some x, some y, none, none] from rfl]
    cases d with
    | none =>
      cases hx
      cases hy
      walk_at "go"
      exact q _ (same_new (by assumption))
    | bool b =>
      cases hx
      cases hy
      walk_at "go"
      rw [decide_eq_true rfl]
      exact q _ (same_new (by assumption))
    | int b =>
      cases hx
      cases hy
      walk_at "go"
      rw [decide_eq_true rfl]
      exact q _ (same_new (by assumption))
    | str b =>
      cases hx
      cases hy
      walk_at "go"
      rw [decide_eq_true rfl]
      exact q _ (same_new (by assumption))
    | dict kvs => cases hx
    | list ds =>
      cases hx with
      | @lst a xs _ ha hda =>
        cases hy with
        | @lst b ys _ hb hdb =>
          walk_at "go"
          rename_i pt hpt
          have hl : xs.length = ys.length := (dpAll_len hda).trans (dpAll_len hdb).symm
          have hs2 : (decide (ds.length ≤ 1000) && smallAll ds) = true := hs
          rw [Bool.and_eq_true] at hs2
          have hl2 : ds.length ≤ 1000 := of_decide_eq_true hs2.1
          have hl3 := dpAll_len hda
          have hdep : PyData.depthAll ds + 1 ≤ n + 1 := hd
          refine g_iteY (by omega) ?_
          walk_at "go"
          refine g_zipL (by walk_at "l") (by walk_at "l") ?_
          have s1 : Same H (upd H pt (.tup [V.ty "list", V.ty "tuple"])) := same_new hpt
          generalize upd H pt (.tup [V.ty "list", V.ty "tuple"]) = H1 at s1 ⊢
          refine lcZ hl (σ0 := [some (.ref a), some (.ref b), none, none]) rfl fun D hD => ⟨fun i H' => H' D = some (.lst ((List.replicate i true).map V.bl)) ∧ Chg D H1 H', ⟨upd_same, Chg.upd⟩, ?_, ?_, ?_⟩
          · rintro i H' ⟨e1, c1⟩
            have s := s1.trans (chg_same c1 hD)
            exact ⟨sqL_sm s ha, sqL_sm s hb⟩
          · rintro i x y T H' hx hy ⟨e1, c1⟩ hT
            obtain ⟨d1, hd1, px⟩ := dpAll_at hda hx
            obtain ⟨d2, hd2, py⟩ := dpAll_at hdb hy
            obtain rfl : d1 = d2 := Option.some.inj (hd1.symm.trans hd2)
            have s2 : Same H (upd H' T (.tup [x, y])) := (s1.trans (chg_same c1 hD)).trans (same_new hT)
            have hlt : i < xs.length := (List.getElem?_eq_some_iff.mp hx).1
            have mem := List.mem_of_getElem? hd1
            have nT : T ≠ D := Ne.symm (ne_of_none e1 hT)
            walk_at "go"
            refine g_likeD (dp_same s2 px) (dp_same s2 py) (by have := PyData.depth_le_depthAll ds d1 mem; omega) (smallAll_mem hs2.2 mem) fun H3 s3 => ?_
            have e3 : H3 D = some (.lst ((List.replicate i true).map V.bl)) := by walk_at "h"
            refine g_turnD e3 (by rw [List.length_map, List.length_replicate]; omega) ⟨?_, by walk_at "chg"⟩
            rw [upd_same, List.replicate_succ', List.map_append]
            rfl
          · rintro H' ⟨e1, c1⟩
            walk_at "go"
            rw [all_rep]
            exact q _ (s1.trans (chg_same c1 hD))

    | tuple ds =>
      cases hx with
      | @tup a xs _ ha hda =>
        cases hy with
        | @tup b ys _ hb hdb =>
          walk_at "go"
          rename_i pt hpt
          have hl : xs.length = ys.length := (dpAll_len hda).trans (dpAll_len hdb).symm
          have hs2 : (decide (ds.length ≤ 1000) && smallAll ds) = true := hs
          rw [Bool.and_eq_true] at hs2
          have hl2 : ds.length ≤ 1000 := of_decide_eq_true hs2.1
          have hl3 := dpAll_len hda
          have hdep : PyData.depthAll ds + 1 ≤ n + 1 := hd
          refine g_iteY (by omega) ?_
          walk_at "go"
          refine g_zipT (by walk_at "t") (by walk_at "t") ?_
          have s1 : Same H (upd H pt (.tup [V.ty "list", V.ty "tuple"])) := same_new hpt
          generalize upd H pt (.tup [V.ty "list", V.ty "tuple"]) = H1 at s1 ⊢
          refine lcZT hl (σ0 := [some (.ref a), some (.ref b), none, none]) rfl fun D hD => ⟨fun i H' => H' D = some (.lst ((List.replicate i true).map V.bl)) ∧ Chg D H1 H', ⟨upd_same, Chg.upd⟩, ?_, ?_, ?_⟩
          · rintro i H' ⟨e1, c1⟩
            have s := s1.trans (chg_same c1 hD)
            exact ⟨seqT_same s ha, seqT_same s hb⟩
          · rintro i x y T H' hx hy ⟨e1, c1⟩ hT
            obtain ⟨d1, hd1, px⟩ := dpAll_at hda hx
            obtain ⟨d2, hd2, py⟩ := dpAll_at hdb hy
            obtain rfl : d1 = d2 := Option.some.inj (hd1.symm.trans hd2)
            have s2 : Same H (upd H' T (.tup [x, y])) := (s1.trans (chg_same c1 hD)).trans (same_new hT)
            have hlt : i < xs.length := (List.getElem?_eq_some_iff.mp hx).1
            have mem := List.mem_of_getElem? hd1
            have nT : T ≠ D := Ne.symm (ne_of_none e1 hT)
            walk_at "go"
            refine g_likeD (dp_same s2 px) (dp_same s2 py) (by have := PyData.depth_le_depthAll ds d1 mem; omega) (smallAll_mem hs2.2 mem) fun H3 s3 => ?_
            have e3 : H3 D = some (.lst ((List.replicate i true).map V.bl)) := by walk_at "h"
            refine g_turnD e3 (by rw [List.length_map, List.length_replicate]; omega) ⟨?_, by walk_at "chg"⟩
            rw [upd_same, List.replicate_succ', List.map_append]
            rfl
          · rintro H' ⟨e1, c1⟩
            walk_at "go"
            rw [all_rep]
            exact q _ (s1.trans (chg_same c1 hD))

end

set_option Elab.async false
set_option linter.all false
set_option maxRecDepth 100000
set_option maxHeartbeats 4000000
open PySem PySem.Spec L2
local macro_rules | `(tactic| walk_at "s") => `(tactic| first
  | with_reducible refine' g_fld ?_
  | with_reducible refine' g_chain ?_
  | with_reducible refine' g_chR ?_
  | ((with_reducible refine' g_fldR ?k1 ?k2 ?k3 ?k4 ?_); (case k1 => walk_at "h"); (case k2 => (with_reducible assumption)); (case k3 => (with_reducible assumption)); (case k4 => rfl))
  | with_reducible refine' g_meth ?_
  | ((with_reducible refine' g_methR ?k1 ?k2 ?_); (case k1 => walk_at "h"); (case k2 => rfl))
  | with_reducible refine' g_sfld ?_
  | ((with_reducible refine' g_sfldR ?k1 ?k2 ?k3 ?k4 ?_); (case k1 => walk_at "h"); (case k2 => (with_reducible assumption)); (case k3 => (with_reducible assumption)); (case k4 => first | decide | exact (by decide : 1 < 1000) | exact (by decide : 2 < 1000) | exact (by decide : 3 < 1000) | exact (by decide : 4 < 1000) | exact (by decide : 5 < 1000) | exact (by decide : 6 < 1000) | exact (by decide : 7 < 1000) | exact (by decide : 8 < 1000) | exact (by decide : 9 < 1000) | exact (by decide : 10 < 1000) | exact (by decide : 11 < 1000) | exact (by decide : 12 < 1000) | exact (by decide : 13 < 1000) | exact (by decide : 14 < 1000) | exact (by decide : 15 < 1000) | exact (by decide : 16 < 1000) | exact (by decide : 17 < 1000) | exact (by decide : 18 < 1000) | exact (by decide : 19 < 1000) | exact (by decide : 20 < 1000))))

section
variable {P : Program} {w : World} {K : PySem.W.Frag} {mg : Str → Option Value} {base : Heap}
theorem g_drawB {B : Int} {a l : Addr} {size : Int} {H : Hp} {Q : VK} {E : XK} (hB : Bag H a l) (h1 : 1 ≤ size ∧ size ≤ B) (q : ∀ (r : Int) (H' : Hp), 0 ≤ r → r < size → Bag H' a l → Chg a H H' → Q (.int r) H') :
    spDraw B [.ref a, .int size] H Q E := ⟨a, l, size, rfl, hB, h1.1, h1.2, q⟩
theorem bag_new {H : Hp} {a l p : Addr} {o : HO} (h : Bag H a l) (hp : H p = none) : Bag (L2.upd H p o) a l := by
  obtain ⟨ns, i, g, m, c, hB, hl, r⟩ := h
  exact ⟨ns, i, g, m, c, h_ne (ne_of_none hB hp) hB, h_ne (ne_of_none hl hp) hl, r⟩
theorem bag_sm {H H' : Hp} {a l : Addr} (h : Bag H a l) (s : Same H H') : Bag H' a l := by
  obtain ⟨ns, i, g, m, c, hB, hl, r⟩ := h
  exact ⟨ns, i, g, m, c, s _ _ hB, s _ _ hl, r⟩
theorem bag_chg {H : Hp} {a l D : Addr} {o : HO} (h : Bag H a l) (h1 : D ≠ a) (h2 : D ≠ l) : Bag (L2.upd H D o) a l := by
  obtain ⟨ns, i, g, m, c, hB, hl, r⟩ := h
  exact ⟨ns, i, g, m, c, h_ne (Ne.symm h1) hB, h_ne (Ne.symm h2) hl, r⟩
theorem bag_apart {H : Hp} {a l D : Addr} (h : Bag H a l) (hD : H D = none) : D ≠ a ∧ D ≠ l := by
  obtain ⟨ns, i, g, m, c, hB, hl, r⟩ := h
  exact ⟨Ne.symm (ne_of_none hB hD), Ne.symm (ne_of_none hl hD)⟩
theorem ne_bag {H : Hp} {a l p : Addr} (h : Bag H a l) (hp : H p = none) : p ≠ a := by
  obtain ⟨ns, i, g, m, c, hB, _⟩ := h
  exact Ne.symm (ne_of_none hB hp)
/-! _law_of -/
def spOf : Sp := fun vs H Q _ => ∃ (a l t : Addr) (xs : List V), vs = [.ref a, .ref t] ∧ Bag H a l ∧ H t = some (.lst xs) ∧ t ≠ a ∧ (1 ≤ xs.length ∧ xs.length ≤ 1000000) ∧
  ∀ (x : V) (H' : Hp), x ∈ xs → Bag H' a l → Chg a H H' → Q x H'
theorem g_of {a l t : Addr} {xs : List V} {H : Hp} {Q : VK} {E : XK} (hB : Bag H a l) (ht : H t = some (.lst xs)) (n : t ≠ a) (hl : 1 ≤ xs.length ∧ xs.length ≤ 1000000)
    (q : ∀ (x : V) (H' : Hp), x ∈ xs → Bag H' a l → Chg a H H' → Q x H') : spOf [.ref a, .ref t] H Q E := ⟨a, l, t, xs, rfl, hB, ht, n, hl, q⟩
theorem ok_of {f : Addr} {fd : FuncData} (T : Top K mg) (F : FnP K "_law_of" s__law_of f fd) : FnOk P w K mg base CX0 2 f fd P__law_of spOf := by
  have C__law_draw : Cal P w K mg base "_law_draw" 1 P__law_draw (spDraw 1000000) := c_draw1 T
  refine F.ok sc__law_of (fun vs H Q E h => ?_) (fun cdv A outer s H vs Q E hr h => ?_)
  · obtain ⟨a, l, t, xs, rfl, _⟩ := h
    rfl
  · obtain ⟨a, l, t, xs, rfl, hB, ht, hn, hl, q⟩ := h
    refine ⟨_, PSs.nox (pss_one (ps_ret (pe_ix (k_ix (K := K) (by rfl)) (pv 1) (pe_cal C__law_draw (hr.mono (by first | decide | omega)) (by rfl) (pa_cons (pv 0) (pa_cons (pe_callB (k_len (K := K) (by rfl)) (by rfl) T.z_len (by decide +kernel) (pa_cons (pv 1) pa_nil)) pa_nil))) (fun _ _ => rfl)))), ?_⟩
    try simp only [cxK]
    rw [show L2.start N__law_of [V.ref a, V.ref t] = [some (.ref a), some (.ref t)] from rfl]
    walk_at "go"
    refine g_drawB hB ⟨by omega, by omega⟩ fun r H1 ra rb B1 ch1 => ?_
    have e : atI xs r = some (xs.getD r.toNat .non) := by
      have z := atI_nat (xs := xs) (j := r.toNat) (v := xs.getD r.toNat .non) (by
        rw [List.getD_eq_getElem?_getD, List.getElem?_eq_getElem (by omega)]; rfl)
      rwa [Int.toNat_of_nonneg ra] at z
    walk_at "go"
    refine q _ _ ?_ B1 ch1
    rw [List.getD_eq_getElem?_getD, List.getElem?_eq_getElem (by omega)]
    exact List.getElem_mem _
theorem c_of (T : Top K mg) : Cal P w K mg base "_law_of" 2 P__law_of spOf := cal_mk T.f__law_of (ok_of T) (fun F => F.bindsN fun _ _ _ _ _ _ us hl => match us, hl with | [_, _], _ => rfl)
/-! _law_bag -/
def spBag (K : PySem.W.Frag) : Sp := fun vs H Q _ => ∃ (a : Addr) (ns : List Int), vs = [.ref a] ∧ SqL K H a (ns.map V.int) ∧ ∀ (p l : Addr) (H' : Hp), Bag H' p l → H p = none → Same H H' → Q (.ref p) H'
theorem ok_bag {f : Addr} {fd : FuncData} (T : Top K mg) (F : FnP K "_law_bag" s__law_bag f fd) : FnOk P w K mg base CX0 1 f fd P__law_bag (spBag K) := by
  refine F.ok sc__law_bag (fun vs H Q E h => ?_) (fun cdv A outer s H vs Q E hr h => ?_)
  · obtain ⟨a, ns, rfl, _⟩ := h
    rfl
  · obtain ⟨a, ns, rfl, hS, q⟩ := h
    refine ⟨_, PSs.nox (pss_cons (ps_set (i := 1) sc__law_bag.nd rfl (by first | exact Or.inl rfl | exact Or.inr rfl) pe_int)
    (pss_cons (ps_for PassesOwn.never rfl (k_pil (K := K) (by rfl) (pe_slice (k_sl (K := K) (by rfl)) (pv 0) po_none (po_some pe_int))) (pg_name (i := 2) sc__law_bag.nd rfl (by first | exact Or.inl rfl | exact Or.inr rfl))
    (pss_one (ps_set (i := 1) sc__law_bag.nd rfl (by first | exact Or.inl rfl | exact Or.inr rfl) (pe_op op_mod (pe_callTy c_int (by rfl) T.z_int (by decide +kernel) (pa_cons (pe_op op_add (pe_op op_add (pe_op op_mul (pv 1) pe_int) (pe_op op_mod (pe_callTy c_int (by rfl) T.z_int (by decide +kernel) (pa_cons (pv 2) pa_nil)) pe_int)) pe_int) pa_nil)) pe_int))))
    (pss_one (ps_ret (pe_lst (pa_cons (pe_callTy (k_list (K := K) (by rfl)) (by rfl) T.z_list (by decide +kernel) (pa_cons (pe_slice (k_sl (K := K) (by rfl)) (pv 0) po_none (po_some pe_int)) pa_nil)) (pa_cons pe_int (pa_cons pe_int (pa_cons (pv 1) (pa_cons pe_int pa_nil)))))))))), ?_⟩
    try simp only [cxK]
    rw [show L2.start N__law_bag [V.ref a] = [some (.ref a), none, none] from rfl]
    walk_at "go"
    rename_i p hp
    have ec : cutV (ns.map V.int) none (some 63) = (ns.take 63).map V.int := by
      unfold cutV
      rw [HT.sIx_none, show HT.sIx (ns.map V.int).length (ns.map V.int).length (some 63) = min 63 (ns.map V.int).length from HT.sIx_nat _ _ 63]
      rw [List.drop_zero, Nat.sub_zero, ← List.map_take]
      congr 1
      rw [List.length_map]
      rcases Nat.le_total 63 ns.length with z | z
      · rw [Nat.min_eq_left z]
      · rw [Nat.min_eq_right z, List.take_length, List.take_of_length_le z]
    rw [ec]
    have s1 : Same H (upd H p (.lst ((ns.take 63).map V.int))) := same_new hp
    refine forL (xs := (ns.take 63).map V.int) ⟨fun i σ' H' => ∃ m y, σ' = [some (.ref a), some (.int m), y] ∧ 0 ≤ m ∧ m < 2147483563 ∧ H' = upd H p (.lst ((ns.take 63).map V.int)), ⟨_, _, rfl, by decide, by decide, rfl⟩, ?_, ?_, ?_⟩
    · rintro i σ' H' _ ⟨m, y, rfl, _, _, rfl⟩
      exact SqL.of upd_same
    · rintro i x σ' H' hx ⟨m, y, rfl, hm, hm', rfl⟩
      rw [List.getElem?_map, Option.map_eq_some_iff] at hx
      obtain ⟨n, _, rfl⟩ := hx
      walk_at "go"
      exact ⟨_, _, rfl, by omega, by omega, rfl⟩
    · rintro σ' H' ⟨m, y, rfl, hm, hm', rfl⟩
      have hS1 : SqL K (upd H p (.lst ((ns.take 63).map V.int))) a (ns.map V.int) := s1.seq hS
      walk_at "go"
      rename_i p2 hp2 p3 hp3 p1 hp1
      rw [ec] at *
      have s2 := same_new hp2 (o := .lst ((ns.take 63).map V.int))
      have s3 := same_new hp3 (o := .lst ((ns.take 63).map V.int))
      have s4 := same_new hp1 (o := .lst [V.ref p3, V.int 0, V.int 0, V.int m, V.int 0])
      refine q p1 p3 _ ⟨ns.take 63, 0, 0, m, 0, upd_same, s4 _ _ upd_same, ?_, by decide, by decide, hm, hm', by decide⟩ (((s1.trans s2).trans s3).free hp1) (((s1.trans s2).trans s3).trans s4)
      exact ne_of_none upd_same hp1
theorem c_bag (T : Top K mg) : Cal P w K mg base "_law_bag" 1 P__law_bag (spBag K) := cal_mk T.f__law_bag (ok_bag T) (fun F => F.bindsN fun _ _ _ _ _ _ us hl => match us, hl with | [_], _ => rfl)
/-! _law_like -/
theorem ok_like0 {f : Addr} {fd : FuncData} (T : Top K mg) (F : FnP K "_law_like" s__law_like f fd) : FnOk P w K mg base CX0 1 f fd P__law_like (spLike K 0) := by
  refine F.ok sc__law_like (fun vs H Q E h => ?_) (fun cdv A outer s H vs Q E hr h => ?_)
  · obtain ⟨x, y, d, rfl, _⟩ := h
    rfl
  · obtain ⟨x, y, d, rfl, hx, hy, hd, hs, q⟩ := h
    refine ⟨_, PSs.nox (pss_cons (ps_if (pt_val (pe_callB (k_isiT (K := K) (by rfl)) (by rfl) T.z_isinstance (by decide +kernel) (pa_cons (pv 1) (pa_cons (pe_tup (pa_cons (pe_bltn (v := .ty "list") (u := .type "list") (by rfl) T.z_list (by decide +kernel) rfl) (pa_cons (pe_bltn (v := .ty "tuple") (u := .type "tuple") (by rfl) T.z_tuple (by decide +kernel) rfl) pa_nil))) pa_nil))))
    pss_never
    pss_nil)
    (pss_cons (ps_if (PW.pt (pw_or (pt_cmpR o_isN (pv 1) pe_non (nomark _)) (pw_or1 (pt_cmpR o_isN (pv 0) pe_non (nomark _)))))
    (pss_one (ps_ret (pe_and (pe_cmpR o_isN (pv 1) pe_non (nomark _)) (pe_one (pe_cmpR o_isN (pv 0) pe_non (nomark _))))))
    pss_nil)
    (pss_cons (ps_if (PW.pt (pw_or (pt_val (pe_callB (k_isi (K := K) (by rfl)) (by rfl) T.z_isinstance (by decide +kernel) (pa_cons (pv 1) (pa_cons (pe_bltn (v := .ty "bool") (u := .type "bool") (by rfl) T.z_bool (by decide +kernel) rfl) pa_nil)))) (pw_or1 (pt_val (pe_callB (k_isi (K := K) (by rfl)) (by rfl) T.z_isinstance (by decide +kernel) (pa_cons (pv 0) (pa_cons (pe_bltn (v := .ty "bool") (u := .type "bool") (by rfl) T.z_bool (by decide +kernel) rfl) pa_nil)))))))
    (pss_one (ps_ret (pe_and (pe_callB (k_isi (K := K) (by rfl)) (by rfl) T.z_isinstance (by decide +kernel) (pa_cons (pv 0) (pa_cons (pe_bltn (v := .ty "bool") (u := .type "bool") (by rfl) T.z_bool (by decide +kernel) rfl) pa_nil))) (pe_and (pe_callB (k_isi (K := K) (by rfl)) (by rfl) T.z_isinstance (by decide +kernel) (pa_cons (pv 1) (pa_cons (pe_bltn (v := .ty "bool") (u := .type "bool") (by rfl) T.z_bool (by decide +kernel) rfl) pa_nil))) (pe_one (pe_cmpR op_eq (pv 0) (pv 1) (nomark _)))))))
    pss_nil)
    (pss_cons (ps_if (pt_val (pe_callB (k_isi (K := K) (by rfl)) (by rfl) T.z_isinstance (by decide +kernel) (pa_cons (pv 1) (pa_cons (pe_bltn (v := .ty "str") (u := .type "str") (by rfl) T.z_str (by decide +kernel) rfl) pa_nil))))
    (pss_one (ps_ret (pe_and (pe_callB (k_isi (K := K) (by rfl)) (by rfl) T.z_isinstance (by decide +kernel) (pa_cons (pv 0) (pa_cons (pe_bltn (v := .ty "str") (u := .type "str") (by rfl) T.z_str (by decide +kernel) rfl) pa_nil))) (pe_one (pe_cmpR op_eq (pv 0) (pv 1) (nomark _))))))
    pss_nil)
    (pss_one (ps_ret (pe_and (pe_callB (k_isi (K := K) (by rfl)) (by rfl) T.z_isinstance (by decide +kernel) (pa_cons (pv 0) (pa_cons (pe_bltn (v := .ty "int") (u := .type "int") (by rfl) T.z_int (by decide +kernel) rfl) pa_nil))) (pe_one (pe_cmpR op_eq (pv 0) (pv 1) (nomark _)))))))))), ?_⟩
    rw [show L2.start N__law_like [x, y] = [some x, some y, none, none] from rfl]
    cases d with
    | none =>
      cases hx
      cases hy
      walk_at "go"
      exact q _ (same_new (by assumption))
    | bool b =>
      cases hx
      cases hy
      walk_at "go"
      rw [decide_eq_true rfl]
      exact q _ (same_new (by assumption))
    | int b =>
      cases hx
      cases hy
      walk_at "go"
      rw [decide_eq_true rfl]
      exact q _ (same_new (by assumption))
    | str b =>
      cases hx
      cases hy
      walk_at "go"
      rw [decide_eq_true rfl]
      exact q _ (same_new (by assumption))
    | dict kvs => cases hx
    | list ds => exact absurd hd (by show ¬ PyData.depthAll ds + 1 ≤ 0; omega)
    | tuple ds => exact absurd hd (by show ¬ PyData.depthAll ds + 1 ≤ 0; omega)
theorem c_like (T : Top K mg) : ∀ n : Nat, Cal P w K mg base "_law_like" (n + 1) P__law_like (spLike K n)
  | 0 => cal_mk T.f__law_like (ok_like0 T) (fun F => F.bindsN fun _ _ _ _ _ _ us hl => match us, hl with | [_, _], _ => rfl)
  | n + 1 => cal_mk T.f__law_like (ok_like T (c_like T n)) (fun F => F.bindsN fun _ _ _ _ _ _ us hl => match us, hl with | [_, _], _ => rfl)
end

set_option Elab.async false
set_option linter.all false
set_option maxRecDepth 100000
set_option maxHeartbeats 4000000
open PySem PySem.Spec L2

local macro_rules | `(tactic| walk_at "s") => `(tactic| first
  | with_reducible refine' g_prop ?_
  | with_reducible refine' g_m1 ?_
  | with_reducible refine' g_m1R ?_
  | with_reducible refine' g_fmt ?_
  | with_reducible refine' g_jsC ?_
  | with_reducible refine' g_jsN ?_
  | with_reducible refine' g_mk ?_
  | with_reducible refine' g_methN ?_
  | with_reducible refine' g_iZm ?_
  | with_reducible refine' g_iStr ?_
  | with_reducible refine' g_strR ?_
  | with_reducible refine' g_min2 ?_
  | with_reducible refine' g_max2 ?_
  | with_reducible refine' g_intB ?_)

section
variable {P : Program} {w : World} {K : PySem.W.Frag} {mg : Str → Option Value} {base : Heap}
/-- a disk: its content, the number of its synced characters -/
abbrev dkF (cs : List Nat) (n : Nat) : List (Str × V) := [("_content", .str (sOf cs)), ("_synced", .int n)]
def Dk (K : PySem.W.Frag) (H : Hp) (p : Addr) (cs : List Nat) (n : Nat) : Prop := ∃ dx, H p = some (.ins (CD K) dx (dkF cs n))
theorem Dk.sm {H H' : Hp} {p : Addr} {cs : List Nat} {n : Nat} (h : Dk K H p cs n) (s : Same H H') : Dk K H' p cs n := by
  obtain ⟨dx, e⟩ := h
  exact ⟨dx, s _ _ e⟩
theorem Dk.chg {H H' : Hp} {a p : Addr} {cs : List Nat} {n : Nat} (h : Dk K H p cs n) (ne : p ≠ a) (c : Chg a H H') : Dk K H' p cs n := by
  obtain ⟨dx, e⟩ := h
  exact ⟨dx, c _ _ ne e⟩
def spInit (K : PySem.W.Frag) : Sp := fun vs H Q _ => ∃ (x dx : Addr) (cs : List Nat), vs = [.ref x, .str (sOf cs)] ∧ H x = some (.ins (CD K) dx []) ∧ cs.length ≤ 10000 ∧ Q .non (upd H x (.ins (CD K) dx (dkF cs cs.length)))
theorem ok_Disk___init__ (T : Top K mg) {f : Addr} {fd : FuncData} (F : FunD K "__init__" "Disk.__init__" (defArgs s_Disk___init__) (defBody s_Disk___init__) (defScope s_Disk___init__) [.str ""] [] f fd) : FnOk P w K mg base CX0 1 f fd P_Disk___init__ (spInit K) := by
  have cl_Disk := T.cl_Disk; have na_Disk__content := T.na_Disk__content; have na_Disk__synced := T.na_Disk__synced
  refine F.ok sc_Disk___init__ (fun vs H Q E h => ?_) (fun cdv A outer s H vs Q E hr h => ?_)
  · obtain ⟨x, dx, cs, rfl, _⟩ := h
    rfl
  · obtain ⟨x, dx, cs, rfl, hx, hl, q⟩ := h
    refine ⟨_, PSs.nox (pss_cons (k_sfld (K := K) (by rfl) (pv 0) (pv 1) rfl)
    (pss_one (k_sfld (K := K) (by rfl) (pv 0) (pe_callB call_len_str (by rfl) T.z_len (by decide +kernel) (pa_cons (pv 1) pa_nil)) rfl))), ?_⟩
    try simp only [cxK]
    rw [show L2.start N_Disk___init__ [.ref x, .str (sOf cs)] = [some (.ref x), some (.str (sOf cs))] from rfl]
    walk_at "go"
    refine ⟨sOf cs, rfl, sz_ok (by rw [sOf_len]; omega), ?_⟩
    walk_at "go"
    rw [sOf_len, upd_upd]
    exact q
theorem cs_init (T : Top K mg) : True := trivial
theorem kk_Disk_0_content (T : Top K mg) : MkK P w K mg base (He.ga K "Disk") 1 0 ["content"] (fun vs zs => pick [(0, 0), (2, 0)] vs ([.str ""] : List V) zs) (spInit K) := mkk_mk (ps := P_Disk___init__) T.mk_Disk T.f_Disk___init__ (ok_Disk___init__ T) (fun F => mkbD F 1 ["content"] [(0, 0), (2, 0)] (by simp) fun _ _ _ _ _ _ _ us its ws l1 l2 l3 => match us, its, ws, l1, l2, l3 with | [_], [_], [_], _, _, _ => ⟨_, rfl, rfl⟩)
theorem kk_Disk_0_ (T : Top K mg) : MkK P w K mg base (He.ga K "Disk") 1 0 [] (fun vs zs => pick [(0, 0), (1, 0)] vs ([.str ""] : List V) zs) (spInit K) := mkk_mk (ps := P_Disk___init__) T.mk_Disk T.f_Disk___init__ (ok_Disk___init__ T) (fun F => mkbD F 1 [] [(0, 0), (1, 0)] (by simp) fun _ _ _ _ _ _ _ us its ws l1 l2 l3 => match us, its, ws, l1, l2, l3 with | [_], [_], [], _, _, _ => ⟨_, rfl, rfl⟩)
theorem kk_Disk_1_ (T : Top K mg) : MkK P w K mg base (He.ga K "Disk") 1 1 [] (fun vs zs => pick [(0, 0), (0, 1)] vs ([.str ""] : List V) zs) (spInit K) := mkk_mk (ps := P_Disk___init__) T.mk_Disk T.f_Disk___init__ (ok_Disk___init__ T) (fun F => mkbD F 2 [] [(0, 0), (0, 1)] (by simp) fun _ _ _ _ _ _ _ us its ws l1 l2 l3 => match us, its, ws, l1, l2, l3 with | [_, _], [_], [], _, _, _ => ⟨_, rfl, rfl⟩)
/-! the properties -/
def spCont (K : PySem.W.Frag) : Sp := fun vs H Q _ => ∃ (p : Addr) (cs : List Nat) (n : Nat), vs = [.ref p] ∧ Dk K H p cs n ∧ Q (.str (sOf cs)) H
def spSync (K : PySem.W.Frag) : Sp := fun vs H Q _ => ∃ (p : Addr) (cs : List Nat) (n : Nat), vs = [.ref p] ∧ Dk K H p cs n ∧ Q (.int n) H
theorem ok_Disk_content (T : Top K mg) {f : Addr} {fd : FuncData} (F : FunD K "content" "Disk.content" (defArgs s_Disk_content) (defBody s_Disk_content) (defScope s_Disk_content) [] [] f fd) : FnOk P w K mg base CX0 1 f fd ["self"] (spCont K) := by
  have cl_Disk := T.cl_Disk; have na_Disk__content := T.na_Disk__content; have na_Disk__synced := T.na_Disk__synced
  refine F.ok sc_Disk_content (fun vs H Q E h => ?_) (fun cdv A outer s H vs Q E hr h => ?_)
  · obtain ⟨p, cs, n, rfl, _⟩ := h
    rfl
  · obtain ⟨p, cs, n, rfl, ⟨dx, hp⟩, q⟩ := h
    refine ⟨_, PSs.nox (pss_one (ps_ret (k_fld (K := K) (by rfl) (pv 0) rfl))), ?_⟩
    try simp only [cxK]
    rw [show L2.start N_Disk_content [.ref p] = [some (.ref p)] from rfl]
    walk_at "go"
    exact q
theorem pc_content (T : Top K mg) : PropC P w K mg base (CD K) "content" 1 (spCont K) := propc_mk T.pr_Disk_content (ok_Disk_content T) (fun F => F.bindsN fun _ _ _ _ _ _ us hl => match us, hl with | [_], _ => rfl)
theorem ok_Disk_synced (T : Top K mg) {f : Addr} {fd : FuncData} (F : FunD K "synced" "Disk.synced" (defArgs s_Disk_synced) (defBody s_Disk_synced) (defScope s_Disk_synced) [] [] f fd) : FnOk P w K mg base CX0 1 f fd ["self"] (spSync K) := by
  have cl_Disk := T.cl_Disk; have na_Disk__content := T.na_Disk__content; have na_Disk__synced := T.na_Disk__synced
  refine F.ok sc_Disk_synced (fun vs H Q E h => ?_) (fun cdv A outer s H vs Q E hr h => ?_)
  · obtain ⟨p, cs, n, rfl, _⟩ := h
    rfl
  · obtain ⟨p, cs, n, rfl, ⟨dx, hp⟩, q⟩ := h
    refine ⟨_, PSs.nox (pss_one (ps_ret (k_fld (K := K) (by rfl) (pv 0) rfl))), ?_⟩
    try simp only [cxK]
    rw [show L2.start N_Disk_synced [.ref p] = [some (.ref p)] from rfl]
    walk_at "go"
    exact q
theorem pc_synced (T : Top K mg) : PropC P w K mg base (CD K) "synced" 1 (spSync K) := propc_mk T.pr_Disk_synced (ok_Disk_synced T) (fun F => F.bindsN fun _ _ _ _ _ _ us hl => match us, hl with | [_], _ => rfl)
/-! what changes a disk -/
def spWr (K : PySem.W.Frag) : Sp := fun vs H Q _ => ∃ (p : Addr) (cs ls : List Nat) (n : Nat), vs = [.ref p, .str (sOf ls)] ∧ Dk K H p cs n ∧ cs.length + ls.length ≤ 10000 ∧ ∀ H', Dk K H' p (cs ++ ls ++ [10]) n → Chg p H H' → Q .non H'
theorem ok_Disk_write (T : Top K mg) {f : Addr} {fd : FuncData} (F : FunD K "write" "Disk.write" (defArgs s_Disk_write) (defBody s_Disk_write) (defScope s_Disk_write) [] [] f fd) : FnOk P w K mg base CX0 1 f fd P_Disk_write (spWr K) := by
  have cl_Disk := T.cl_Disk; have na_Disk__content := T.na_Disk__content; have na_Disk__synced := T.na_Disk__synced
  refine F.ok sc_Disk_write (fun vs H Q E h => ?_) (fun cdv A outer s H vs Q E hr h => ?_)
  · obtain ⟨p, cs, ls, n, rfl, _⟩ := h
    rfl
  · obtain ⟨p, cs, ls, n, rfl, ⟨dx, hp⟩, hl, q⟩ := h
    refine ⟨_, PSs.nox (pss_one (k_sfld (K := K) (by rfl) (pv 0) (pe_joined (.cons (pe_fmt (k_fld (K := K) (by rfl) (pv 0) rfl)) (.cons (pe_fmt (pv 1)) (.cons pe_str .nil)))) rfl)), ?_⟩
    try simp only [cxK]
    rw [show L2.start N_Disk_write [.ref p, .str (sOf ls)] = [some (.ref p), some (.str (sOf ls))] from rfl]
    have e0 : Str.empty = sOf [] := rfl
    have e2 : Str.empty ++ sOf cs = sOf cs := by rw [e0, sOf_app, List.nil_append]
    walk_at "go"
    refine g_fmtS (sz_ok (by rw [sOf_len]; omega)) (g_jR (sz_ok (by rw [e2, sOf_len]; omega)) ?_)
    walk_at "go"
    refine g_fmtS (sz_ok (by rw [sOf_len]; omega)) (g_jR (sz_ok (by rw [e2, sOf_app, sOf_len, List.length_append]; omega)) ?_)
    walk_at "go"
    have e1 : (Str.empty ++ sOf cs ++ sOf ls ++ Str.ofString "\n") = sOf (cs ++ ls ++ [10]) := by
      rw [e2, show Str.ofString "\n" = sOf [10] from rfl, sOf_app, sOf_app]
    refine g_jR (sz_ok (by rw [e1, sOf_len, List.length_append, List.length_append]; simp; omega)) ?_
    walk_at "go"
    rw [e1]
    exact q _ ⟨dx, upd_same⟩ Chg.upd
theorem km_Disk_write_0_line (T : Top K mg) : MKCal P w K mg base (He.ga K "Disk") "write" 1 0 ["line"] (fun vs zs => pick [(0, 0), (2, 0)] vs ([] : List V) zs) (spWr K) := mkcal_mk (ps := P_Disk_write) T.me_Disk_write T.f_Disk_write (ok_Disk_write T) (fun F => kbindsN F 1 ["line"] [(0, 0), (2, 0)] fun _ _ _ _ _ _ us ws l1 l2 => match us, ws, l1, l2 with | [_], [_], _, _ => rfl)
theorem mc_write (T : Top K mg) : MCal P w K mg base (CD K) "write" 1 P_Disk_write (spWr K) := mcal_mk T.me_Disk_write T.f_Disk_write (ok_Disk_write T) (fun F => F.bindsN fun _ _ _ _ _ _ us hl => match us, hl with | [_, _], _ => rfl)
def spSy (K : PySem.W.Frag) : Sp := fun vs H Q _ => ∃ (p : Addr) (cs : List Nat) (n : Nat), vs = [.ref p] ∧ Dk K H p cs n ∧ cs.length ≤ 20000 ∧ ∀ H', Dk K H' p cs cs.length → Chg p H H' → Q .non H'
theorem ok_Disk_sync (T : Top K mg) {f : Addr} {fd : FuncData} (F : FunD K "sync" "Disk.sync" (defArgs s_Disk_sync) (defBody s_Disk_sync) (defScope s_Disk_sync) [] [] f fd) : FnOk P w K mg base CX0 1 f fd P_Disk_sync (spSy K) := by
  have cl_Disk := T.cl_Disk; have na_Disk__content := T.na_Disk__content; have na_Disk__synced := T.na_Disk__synced
  refine F.ok sc_Disk_sync (fun vs H Q E h => ?_) (fun cdv A outer s H vs Q E hr h => ?_)
  · obtain ⟨p, cs, n, rfl, _⟩ := h
    rfl
  · obtain ⟨p, cs, n, rfl, ⟨dx, hp⟩, hl, q⟩ := h
    refine ⟨_, PSs.nox (pss_one (k_sfld (K := K) (by rfl) (pv 0) (pe_callB call_len_str (by rfl) T.z_len (by decide +kernel) (pa_cons (k_fld (K := K) (by rfl) (pv 0) rfl) pa_nil)) rfl)), ?_⟩
    try simp only [cxK]
    rw [show L2.start N_Disk_sync [.ref p] = [some (.ref p)] from rfl]
    walk_at "go"
    refine ⟨sOf cs, rfl, sz_ok (by rw [sOf_len]; omega), ?_⟩
    walk_at "go"
    rw [sOf_len]
    exact q _ ⟨dx, upd_same⟩ Chg.upd
theorem mc_sync (T : Top K mg) : MCal P w K mg base (CD K) "sync" 1 P_Disk_sync (spSy K) := mcal_mk T.me_Disk_sync T.f_Disk_sync (ok_Disk_sync T) (fun F => F.bindsN fun _ _ _ _ _ _ us hl => match us, hl with | [_], _ => rfl)
def spTrim (K : PySem.W.Frag) : Sp := fun vs H Q _ => ∃ (p : Addr) (cs : List Nat) (n : Nat), vs = [.ref p] ∧ Dk K H p cs n ∧ cs.length ≤ 20000 ∧ ∀ H', Dk K H' p (cs.take (kp cs)) (min n (kp cs)) → Chg p H H' → Q .non H'
theorem ok_Disk_trim (T : Top K mg) {f : Addr} {fd : FuncData} (F : FunD K "trim" "Disk.trim" (defArgs s_Disk_trim) (defBody s_Disk_trim) (defScope s_Disk_trim) [] [] f fd) : FnOk P w K mg base CX0 1 f fd P_Disk_trim (spTrim K) := by
  have cl_Disk := T.cl_Disk; have na_Disk__content := T.na_Disk__content; have na_Disk__synced := T.na_Disk__synced
  refine F.ok sc_Disk_trim (fun vs H Q E h => ?_) (fun cdv A outer s H vs Q E hr h => ?_)
  · obtain ⟨p, cs, n, rfl, _⟩ := h
    rfl
  · obtain ⟨p, cs, n, rfl, ⟨dx, hp⟩, hl, q⟩ := h
    refine ⟨_, PSs.nox (pss_cons (k_sfld (K := K) (by rfl) (pv 0) (pe_slice sl_str (k_fld (K := K) (by rfl) (pv 0) rfl) po_none (po_some (pe_op op_add (pe_m1 PySem.F.slot_str_rfind PySem.F.type_str_rfind mt_rfind (k_fld (K := K) (by rfl) (pv 0) rfl) pe_str) pe_int))) rfl)
    (pss_one (k_sfld (K := K) (by rfl) (pv 0) (pe_callB (c_min2 (by rfl)) (by rfl) T.z_min (by decide +kernel) (pa_cons (k_fld (K := K) (by rfl) (pv 0) rfl) (pa_cons (pe_callB call_len_str (by rfl) T.z_len (by decide +kernel) (pa_cons (k_fld (K := K) (by rfl) (pv 0) rfl) pa_nil)) pa_nil))) rfl))), ?_⟩
    try simp only [cxK]
    rw [show L2.start N_Disk_trim [.ref p] = [some (.ref p)] from rfl]
    have hk := kp_le cs
    walk_at "go"
    refine ⟨_, _, rfl, rfl, ?_⟩
    rw [show Str.ofString "\n" = (⟨#[10]⟩ : Str) from rfl, rfind_nl]
    walk_at "go"
    refine g_slS (sz_ok (by rw [sOf_len]; omega)) ?_
    rw [show ((kp cs : Int) - 1 + 1) = ((kp cs : Nat) : Int) by omega, cut_to]
    walk_at "go"
    refine ⟨sOf (cs.take (kp cs)), rfl, sz_ok (by rw [sOf_len, List.length_take]; omega), ?_⟩
    walk_at "go"
    have e1 : (if ((sOf (cs.take (kp cs))).length : Int) < (n : Int) then ((sOf (cs.take (kp cs))).length : Int) else (n : Int)) = ((min n (kp cs) : Nat) : Int) := by
      rw [sOf_len, List.length_take]
      split <;> omega
    rw [e1, upd_upd]
    exact q _ ⟨dx, upd_same⟩ Chg.upd
theorem mc_trim (T : Top K mg) : MCal P w K mg base (CD K) "trim" 1 P_Disk_trim (spTrim K) := mcal_mk T.me_Disk_trim T.f_Disk_trim (ok_Disk_trim T) (fun F => F.bindsN fun _ _ _ _ _ _ us hl => match us, hl with | [_], _ => rfl)
/-! lines -/
theorem dl_map (a : List Nat) : ((spl a).map sOf).map V.str = (spl a).map fun z => V.str (sOf z) := by rw [List.map_map]; rfl
theorem whole_map (a : List Nat) : ((spl a).map fun z => V.str (sOf z)).dropLast = (whole a).map fun z => V.str (sOf z) := by rw [← List.map_dropLast]; rfl
theorem spl_len : ∀ a : List Nat, (spl a).length ≤ a.length + 1
  | [] => by simp [spl]
  | x :: t => by
    have ih := spl_len t
    obtain ⟨p, ps, ep⟩ := spl_some t
    rw [ep] at ih
    by_cases hx : x = 10
    · subst hx
      rw [spl_nl, ep]
      simp at ih ⊢
      omega
    · rw [spl_cons hx ep]
      simp at ih ⊢
      omega
def spLines (K : PySem.W.Frag) : Sp := fun vs H Q _ => ∃ (p : Addr) (cs : List Nat) (n : Nat), vs = [.ref p] ∧ Dk K H p cs n ∧ cs.length ≤ 20000 ∧
  ∀ (q : Addr) (H' : Hp), H q = none → Same H H' → H' q = some (.lst ((whole cs).map fun z => V.str (sOf z))) → Q (.ref q) H'
theorem ok_Disk_lines (T : Top K mg) {f : Addr} {fd : FuncData} (F : FunD K "lines" "Disk.lines" (defArgs s_Disk_lines) (defBody s_Disk_lines) (defScope s_Disk_lines) [] [] f fd) : FnOk P w K mg base CX0 1 f fd P_Disk_lines (spLines K) := by
  have cl_Disk := T.cl_Disk; have na_Disk__content := T.na_Disk__content; have na_Disk__synced := T.na_Disk__synced
  refine F.ok sc_Disk_lines (fun vs H Q E h => ?_) (fun cdv A outer s H vs Q E hr h => ?_)
  · obtain ⟨p, cs, n, rfl, _⟩ := h
    rfl
  · obtain ⟨p, cs, n, rfl, ⟨dx, hp⟩, hl, q⟩ := h
    refine ⟨_, PSs.nox (pss_one (ps_ret (pe_slice (k_sl (K := K) (by rfl)) (pe_split (k_fld (K := K) (by rfl) (pv 0) rfl) pe_str) po_none (po_some (pe_un un_neg pe_int))))), ?_⟩
    try simp only [cxK]
    rw [show L2.start N_Disk_lines [.ref p] = [some (.ref p)] from rfl]
    walk_at "go"
    refine ⟨_, _, rfl, rfl, rfl, sz_ok (by rw [sOf_len]; omega), fun q1 hq1 => ?_⟩
    rw [show Str.ofString "\n" = (⟨#[10]⟩ : Str) from rfl, split_nl, dl_map]
    walk_at "go"
    rename_i q2 hq2
    rw [show cutV ((spl cs).map fun z => V.str (sOf z)) none (some (-1)) = (whole cs).map fun z => V.str (sOf z) from by rw [cutV_last, whole_map]] at *
    exact q q2 _ ((same_new hq1).free hq2) ((same_new hq1).trans (same_new hq2)) upd_same
theorem mc_lines (T : Top K mg) : MCal P w K mg base (CD K) "lines" 1 P_Disk_lines (spLines K) := mcal_mk T.me_Disk_lines T.f_Disk_lines (ok_Disk_lines T) (fun F => F.bindsN fun _ _ _ _ _ _ us hl => match us, hl with | [_], _ => rfl)
def spLenD (K : PySem.W.Frag) : Sp := fun vs H Q _ => ∃ (p : Addr) (cs : List Nat) (n : Nat), vs = [.ref p] ∧ Dk K H p cs n ∧ cs.length ≤ 20000 ∧ ∀ H', Same H H' → Q (.int ((whole cs).length : Nat)) H'
theorem ok_Disk___len__ (T : Top K mg) {f : Addr} {fd : FuncData} (F : FunD K "__len__" "Disk.__len__" (defArgs s_Disk___len__) (defBody s_Disk___len__) (defScope s_Disk___len__) [] [] f fd) : FnOk P w K mg base CX0 2 f fd P_Disk___len__ (spLenD K) := by
  have cl_Disk := T.cl_Disk; have na_Disk__content := T.na_Disk__content; have na_Disk__synced := T.na_Disk__synced
  have MC_Disk_lines := mc_lines (P := P) (w := w) (base := base) T
  refine F.ok sc_Disk___len__ (fun vs H Q E h => ?_) (fun cdv A outer s H vs Q E hr h => ?_)
  · obtain ⟨p, cs, n, rfl, _⟩ := h
    rfl
  · obtain ⟨p, cs, n, rfl, ⟨dx, hp⟩, hl, q⟩ := h
    refine ⟨_, PSs.nox (pss_one (ps_ret (pe_callB (k_len (K := K) (by rfl)) (by rfl) T.z_len (by decide +kernel) (pa_cons (pe_mcal0 (pv 0) T.cl_Disk MC_Disk_lines (hr.mono (by first | decide | omega))) pa_nil)))), ?_⟩
    try simp only [cxK]
    rw [show L2.start N_Disk___len__ [.ref p] = [some (.ref p)] from rfl]
    walk_at "go"
    refine ⟨p, cs, n, rfl, ⟨dx, hp⟩, hl, fun q1 H1 f1 s1 e1 => ?_⟩
    walk_at "go"
    rw [List.length_map]
    exact q _ s1
theorem mc_len (T : Top K mg) : MCal P w K mg base (CD K) "__len__" 2 P_Disk___len__ (spLenD K) := mcal_mk T.me_Disk___len__ T.f_Disk___len__ (ok_Disk___len__ T) (fun F => F.bindsN fun _ _ _ _ _ _ us hl => match us, hl with | [_], _ => rfl)
def spBool (K : PySem.W.Frag) : Sp := fun vs H Q _ => ∃ (p : Addr), vs = [.ref p] ∧ Q (.bl true) H
theorem ok_Disk___bool__ (T : Top K mg) {f : Addr} {fd : FuncData} (F : FunD K "__bool__" "Disk.__bool__" (defArgs s_Disk___bool__) (defBody s_Disk___bool__) (defScope s_Disk___bool__) [] [] f fd) : FnOk P w K mg base CX0 1 f fd P_Disk___bool__ (spBool K) := by
  refine F.ok sc_Disk___bool__ (fun vs H Q E h => ?_) (fun cdv A outer s H vs Q E hr h => ?_)
  · obtain ⟨p, rfl, _⟩ := h
    rfl
  · obtain ⟨p, rfl, q⟩ := h
    refine ⟨_, PSs.nox (pss_one (ps_ret pe_bl)), ?_⟩
    try simp only [cxK]
    rw [show L2.start N_Disk___bool__ [.ref p] = [some (.ref p)] from rfl]
    walk_at "go"
    exact q
theorem mc_bool (T : Top K mg) : MCal P w K mg base (CD K) "__bool__" 1 P_Disk___bool__ (spBool K) := mcal_mk T.me_Disk___bool__ T.f_Disk___bool__ (ok_Disk___bool__ T) (fun F => F.bindsN fun _ _ _ _ _ _ us hl => match us, hl with | [_], _ => rfl)
/-- what repr tells -/
def rTxt (n : Nat) : Str := Str.ofString "Disk(" ++ nTxt n ++ Str.ofString " lines)"
def spRepr (K : PySem.W.Frag) : Sp := fun vs H Q _ => ∃ (p : Addr) (cs : List Nat) (n : Nat), vs = [.ref p] ∧ Dk K H p cs n ∧ cs.length ≤ 20000 ∧ ∀ H', Same H H' → Q (.str (rTxt (whole cs).length)) H'
theorem ok_Disk___repr__ (T : Top K mg) {f : Addr} {fd : FuncData} (F : FunD K "__repr__" "Disk.__repr__" (defArgs s_Disk___repr__) (defBody s_Disk___repr__) (defScope s_Disk___repr__) [] [] f fd) : FnOk P w K mg base CX0 2 f fd P_Disk___repr__ (spRepr K) := by
  have cl_Disk := T.cl_Disk; have na_Disk__content := T.na_Disk__content; have na_Disk__synced := T.na_Disk__synced
  have MC_Disk_lines := mc_lines (P := P) (w := w) (base := base) T
  refine F.ok sc_Disk___repr__ (fun vs H Q E h => ?_) (fun cdv A outer s H vs Q E hr h => ?_)
  · obtain ⟨p, cs, n, rfl, _⟩ := h
    rfl
  · obtain ⟨p, cs, n, rfl, ⟨dx, hp⟩, hl, q⟩ := h
    refine ⟨_, PSs.nox (pss_one (ps_ret (pe_joined (.cons pe_str (.cons (pe_fmt (pe_callB (k_len (K := K) (by rfl)) (by rfl) T.z_len (by decide +kernel) (pa_cons (pe_mcal0 (pv 0) T.cl_Disk MC_Disk_lines (hr.mono (by first | decide | omega))) pa_nil))) (.cons pe_str .nil)))))), ?_⟩
    try simp only [cxK]
    rw [show L2.start N_Disk___repr__ [.ref p] = [some (.ref p)] from rfl]
    have wl : (whole cs).length ≤ 20001 := by
      have := spl_len cs
      unfold whole
      rw [List.length_dropLast]
      omega
    have tl : (Str.ofString (toString ((whole cs).length : Int))).length ≤ 10 := nTxt_len (n := (whole cs).length) (by omega)
    have e0 : Str.empty ++ Str.ofString "Disk(" = Str.ofString "Disk(" := rfl
    walk_at "go"
    refine g_jR (sz_ok (by rw [e0]; decide)) ?_
    rw [e0]
    walk_at "go"
    refine ⟨p, cs, n, rfl, ⟨dx, hp⟩, hl, fun q1 H1 f1 s1 e1 => ?_⟩
    walk_at "go"
    rw [List.length_map]
    refine g_fmtI (log_ok (by omega)) (g_jR (sz_ok (by rw [str_app_len]; have : (Str.ofString "Disk(").length = 5 := rfl; omega)) ?_)
    walk_at "go"
    refine g_jR (sz_ok (by rw [str_app_len, str_app_len]; have : (Str.ofString "Disk(").length = 5 := rfl; have : (Str.ofString " lines)").length = 7 := rfl; omega)) ?_
    walk_at "go"
    exact q _ s1
theorem mc_repr (T : Top K mg) : MCal P w K mg base (CD K) "__repr__" 2 P_Disk___repr__ (spRepr K) := mcal_mk T.me_Disk___repr__ T.f_Disk___repr__ (ok_Disk___repr__ T) (fun F => F.bindsN fun _ _ _ _ _ _ us hl => match us, hl with | [_], _ => rfl)
def spTwin (K : PySem.W.Frag) : Sp := fun vs H Q _ => ∃ (p : Addr) (cs : List Nat) (n : Nat), vs = [.ref p] ∧ Dk K H p cs n ∧ cs.length ≤ 10000 ∧ ∀ (q : Addr) (H' : Hp), H q = none → Same H H' → Dk K H' q cs n → Q (.ref q) H'
theorem ok_Disk_twin (T : Top K mg) {f : Addr} {fd : FuncData} (F : FunD K "twin" "Disk.twin" (defArgs s_Disk_twin) (defBody s_Disk_twin) (defScope s_Disk_twin) [] [] f fd) : FnOk P w K mg base CX0 3 f fd P_Disk_twin (spTwin K) := by
  have cl_Disk := T.cl_Disk; have na_Disk__content := T.na_Disk__content; have na_Disk__synced := T.na_Disk__synced
  have KK_Disk_1_ := kk_Disk_1_ (P := P) (w := w) (base := base) T
  refine F.ok sc_Disk_twin (fun vs H Q E h => ?_) (fun cdv A outer s H vs Q E hr h => ?_)
  · obtain ⟨p, cs, n, rfl, _⟩ := h
    rfl
  · obtain ⟨p, cs, n, rfl, ⟨dx, hp⟩, hl, q⟩ := h
    refine ⟨_, PSs.nox (pss_cons (ps_set (i := 1) sc_Disk_twin.nd rfl (by first | exact Or.inl rfl | exact Or.inr rfl) (pe_mkk T.g_Disk KK_Disk_1_ (hr.mono (by first | decide | omega)) (by rfl) (pa_cons (k_fld (K := K) (by rfl) (pv 0) rfl) pa_nil) pk_nil))
    (pss_cons (k_sfld (K := K) (by rfl) (pv 1) (k_fld (K := K) (by rfl) (pv 0) rfl) rfl)
    (pss_one (ps_ret (pv 1))))), ?_⟩
    try simp only [cxK]
    rw [show L2.start N_Disk_twin [.ref p] = [some (.ref p), none] from rfl]
    walk_at "go"
    refine g_mkR (ws := [.str (sOf cs)]) rfl rfl (fun _ => rfl) fun x dx2 h1 h2 n12 => ⟨x, dx2, cs, rfl, upd_same, hl, rfl, ?_⟩
    have hx2 : x ≠ dx2 := Ne.symm n12
    have nx : p ≠ x := ne_of_none hp h1
    have nd : p ≠ dx2 := ne_of_none hp h2
    rw [upd_upd]
    have hp' : upd (upd H dx2 (.own x)) x (.ins (CD K) dx2 (dkF cs cs.length)) p = some (.ins (CD K) dx (dkF cs n)) := by rw [upd_ne nx, upd_ne nd]; exact hp
    have hx' : upd (upd H dx2 (.own x)) x (.ins (CD K) dx2 (dkF cs cs.length)) x = some (.ins (CD K) dx2 (dkF cs cs.length)) := upd_same
    walk_at "go"
    rw [upd_upd]
    refine q x _ h1 (fun b o e => ?_) ⟨dx2, upd_same⟩
    have b1 : b ≠ x := ne_of_none e h1
    have b2 : b ≠ dx2 := ne_of_none e h2
    rw [upd_ne b1, upd_ne b2]
    exact e
theorem mc_twin (T : Top K mg) : MCal P w K mg base (CD K) "twin" 3 P_Disk_twin (spTwin K) := mcal_mk T.me_Disk_twin T.f_Disk_twin (ok_Disk_twin T) (fun F => F.bindsN fun _ _ _ _ _ _ us hl => match us, hl with | [_], _ => rfl)
theorem spl_mem : ∀ (t z : List Nat), z ∈ spl t → z.length ≤ t.length
  | [], z, h => by
    simp [spl] at h
    subst h
    exact Nat.le_refl _
  | x :: t, z, h => by
    obtain ⟨p, ps, ep⟩ := spl_some t
    by_cases hx : x = 10
    · subst hx
      rw [spl_nl] at h
      rcases List.mem_cons.mp h with e | e
      · subst e; simp
      · have := spl_mem t z e
        simp; omega
    · rw [spl_cons hx ep] at h
      rcases List.mem_cons.mp h with e | e
      · subst e
        have := spl_mem t p (by rw [ep]; exact List.mem_cons_self ..)
        simp; omega
      · have := spl_mem t z (by rw [ep]; exact List.mem_cons_of_mem _ e)
        simp; omega
theorem whole_mem {t z : List Nat} (h : z ∈ whole t) : z.length ≤ t.length := spl_mem t z (List.dropLast_subset _ h)
theorem fallP_len (t : List Nat) (k r : Nat) : (fallP t k r).length ≤ t.length + t.length := by
  unfold fallP
  rw [List.length_append]
  have h1 : (((whole t).take k).map (· ++ [10])).flatten.length ≤ t.length := by
    have e : ((whole t).map (· ++ [10])).flatten = (((whole t).take k).map (· ++ [10])).flatten ++ (((whole t).drop k).map (· ++ [10])).flatten := by
      rw [← List.flatten_append, ← List.map_append, List.take_append_drop]
    have e2 := congrArg List.length e
    rw [trim_kp, List.length_take, List.length_append] at e2
    omega
  have h2 : ((spl t).getD ((whole t).take k).length []).length ≤ t.length := by
    rw [List.getD_eq_getElem?_getD]
    cases e : (spl t)[((whole t).take k).length]? with
    | none => simp
    | some z => exact spl_mem t z (List.mem_of_getElem? e)
  rw [List.length_take]
  omega
/-! fall -/
def spFall (K : PySem.W.Frag) : Sp := fun vs H Q _ => ∃ (p : Addr) (cs : List Nat) (n k r : Nat), vs = [.ref p, .int k, .int r] ∧ Dk K H p cs n ∧ n ≤ cs.length ∧ cs.length ≤ 900 ∧
  ∀ H', Dk K H' p (cs.take n ++ fallP (cs.drop n) k r) (cs.take n ++ fallP (cs.drop n) k r).length → Chg p H H' → Q .non H'
theorem ok_Disk_fall (T : Top K mg) {f : Addr} {fd : FuncData} (F : FunD K "fall" "Disk.fall" (defArgs s_Disk_fall) (defBody s_Disk_fall) (defScope s_Disk_fall) [.int 0, .int 0] [] f fd) : FnOk P w K mg base CX0 2 f fd P_Disk_fall (spFall K) := by
  have cl_Disk := T.cl_Disk; have na_Disk__content := T.na_Disk__content; have na_Disk__synced := T.na_Disk__synced
  have MC_Disk_sync := mc_sync (P := P) (w := w) (base := base) T
  refine F.ok sc_Disk_fall (fun vs H Q E h => ?_) (fun cdv A outer s H vs Q E hr h => ?_)
  · obtain ⟨p, cs, n, k, r, rfl, _⟩ := h
    rfl
  · obtain ⟨p, cs, n, k, r, rfl, ⟨dx, hp⟩, hn, hl, q⟩ := h
    refine ⟨_, PSs.nox (pss_cons (ps_set (i := 3) sc_Disk_fall.nd rfl (by first | exact Or.inl rfl | exact Or.inr rfl) (pe_split (pe_slice sl_str (k_fld (K := K) (by rfl) (pv 0) rfl) (po_some (k_fld (K := K) (by rfl) (pv 0) rfl)) po_none) pe_str))
    (pss_cons (ps_set (i := 4) sc_Disk_fall.nd rfl (by first | exact Or.inl rfl | exact Or.inr rfl) (pe_slice (k_sl (K := K) (by rfl)) (pe_slice (k_sl (K := K) (by rfl)) (pv 3) po_none (po_some (pe_un un_neg pe_int))) po_none (po_some (pv 1))))
    (pss_cons (ps_setLc (i := 5) (own := [("line", 6)]) (g := gName 6) (by rfl) sc_Disk_fall.nd rfl rfl (sw_true rfl rfl rfl (by decide +kernel)) (k_pil (K := K) (by rfl) (pv 4)) (blkOk_by (own := [("line", 6)]) (N := N_Disk_fall) (sc := defScope s_Disk_fall) (by decide +kernel)) (fun _ _ _ _ _ => pg_name (i := 6) sc_Disk_fall.nd rfl (by first | exact Or.inl rfl | exact Or.inr rfl)) (fun _ _ _ _ _ => pts_nil) (fun _ _ _ _ _ => (pe_joined (.cons (pe_fmt (pv 6)) (.cons pe_str .nil)))))
    (pss_cons (ps_expr (pe_bm PySem.F.plainAttrs_list PySem.F.slot_list_append PySem.F.type_list_append mt_append (pv 5) (pa_cons (pe_slice sl_str (pe_ix (k_ix (K := K) (by rfl)) (pv 3) (pe_callB (k_len (K := K) (by rfl)) (by rfl) T.z_len (by decide +kernel) (pa_cons (pv 4) pa_nil)) (fun _ _ => rfl)) po_none (po_some (pv 2))) pa_nil)))
    (pss_cons (k_sfld (K := K) (by rfl) (pv 0) (pe_op op_add_str (pe_slice sl_str (k_fld (K := K) (by rfl) (pv 0) rfl) po_none (po_some (k_fld (K := K) (by rfl) (pv 0) rfl))) (k_join (K := K) (by rfl) pe_str (pv 5))) rfl)
    (pss_one (ps_expr (pe_mcal0 (pv 0) T.cl_Disk MC_Disk_sync (hr.mono (by first | decide | omega)))))))))), ?_⟩
    try simp only [cxK]
    rw [show L2.start N_Disk_fall [.ref p, .int k, .int r] = [some (.ref p), some (.int k), some (.int r), none, none, none, none] from rfl]
    walk_at "go"
    refine g_slS (sz_ok (by rw [sOf_len]; omega)) ?_
    rw [cut_from]
    walk_at "go"
    have dl : (cs.drop n).length = cs.length - n := List.length_drop
    have hsl := spl_len (cs.drop n)
    refine ⟨_, _, rfl, rfl, rfl, sz_ok (by rw [sOf_len]; omega), fun q1 hq1 => ?_⟩
    rw [show Str.ofString "\n" = (⟨#[10]⟩ : Str) from rfl, split_nl, dl_map]
    generalize ht : cs.drop n = t at dl hsl q ⊢
    walk_at "go"
    rename_i q2 hq2 q3 hq3
    rw [show cutV ((spl t).map fun z => V.str (sOf z)) none (some (-1)) = (whole t).map fun z => V.str (sOf z) from by rw [cutV_last, whole_map]] at *
    have e3 : cutV ((whole t).map fun z => V.str (sOf z)) none (some (k : Int)) = ((whole t).take k).map fun z => V.str (sOf z) := by rw [cutV_to, List.map_take]
    rw [e3]
    have wl : (whole t).length ≤ 900 := by
      unfold whole
      rw [List.length_dropLast]
      omega
    refine lcMap (S := (whole t).take k) (g0 := fun z => V.str (sOf z)) (f := fun z => V.str (sOf (z ++ [10]))) (σ0 := [some (.ref p), some (.int k), some (.int r), some (.ref q1), some (.ref q3), none, none]) rfl (.of upd_same) (by rw [List.length_take]; omega) ?_ ?_
    · intro D acc z N hD hz hy
      have zl : z.length ≤ 900 := by
        have := whole_mem (List.mem_of_mem_take hz)
        omega
      walk_at "go"
      refine g_fmtS (sz_ok (by rw [sOf_len]; omega)) (g_jR (sz_ok (by rw [show Str.empty ++ sOf z = sOf z from by rw [show Str.empty = sOf [] from rfl, sOf_app, List.nil_append], sOf_len]; omega)) ?_)
      rw [show Str.empty ++ sOf z = sOf z from by rw [show Str.empty = sOf [] from rfl, sOf_app, List.nil_append]]
      walk_at "go"
      have e : sOf z ++ (⟨#[10]⟩ : Str) = sOf (z ++ [10]) := by rw [show (⟨#[10]⟩ : Str) = sOf [10] from rfl, sOf_app]
      refine g_jR (sz_ok (by rw [e, sOf_len, List.length_append]; simp; omega)) ?_
      walk_at "go"
      rw [e]
      exact hy
    intro D hD
    have e1 : atI ((spl t).map fun z => V.str (sOf z)) ((((whole t).take k).length : Nat) : Int) = some (.str (sOf ((spl t).getD ((whole t).take k).length []))) := by
      have hlt : ((whole t).take k).length < (spl t).length := by
        have h0 := spl_ne t
        have h1 : 0 < (spl t).length := List.length_pos_iff.mpr h0
        rw [List.length_take]
        unfold whole
        rw [List.length_dropLast]
        omega
      exact atI_nat (xs := (spl t).map fun z => V.str (sOf z)) (by rw [List.getElem?_map, List.getD_eq_getElem?_getD, List.getElem?_eq_getElem hlt]; rfl)
    have hp1 : upd (upd (upd (upd H q1 (HO.lst ((spl t).map fun z => V.str (sOf z)))) q2 (HO.lst ((whole t).map fun z => V.str (sOf z)))) q3 (HO.lst (((whole t).take k).map fun z => V.str (sOf z)))) D (HO.lst (((whole t).take k).map fun z => V.str (sOf (z ++ [10])))) p = some (HO.ins (CD K) dx (dkF cs n)) := by walk_at "h"
    have hq : upd (upd (upd (upd H q1 (HO.lst ((spl t).map fun z => V.str (sOf z)))) q2 (HO.lst ((whole t).map fun z => V.str (sOf z)))) q3 (HO.lst (((whole t).take k).map fun z => V.str (sOf z)))) D (HO.lst (((whole t).take k).map fun z => V.str (sOf (z ++ [10])))) q1 = some (HO.lst ((spl t).map fun z => V.str (sOf z))) := by walk_at "h"
    have hq' : upd (upd (upd (upd H q1 (HO.lst ((spl t).map fun z => V.str (sOf z)))) q2 (HO.lst ((whole t).map fun z => V.str (sOf z)))) q3 (HO.lst (((whole t).take k).map fun z => V.str (sOf z)))) D (HO.lst (((whole t).take k).map fun z => V.str (sOf (z ++ [10])))) q3 = some (HO.lst (((whole t).take k).map fun z => V.str (sOf z))) := by walk_at "h"
    have sm : Same H (upd (upd (upd (upd H q1 (HO.lst ((spl t).map fun z => V.str (sOf z)))) q2 (HO.lst ((whole t).map fun z => V.str (sOf z)))) q3 (HO.lst (((whole t).take k).map fun z => V.str (sOf z)))) D (HO.lst (((whole t).take k).map fun z => V.str (sOf (z ++ [10]))))) := (((same_new hq1).trans (same_new hq2)).trans (same_new hq3)).trans (same_new hD)
    have hD1 : upd (upd (upd (upd H q1 (HO.lst ((spl t).map fun z => V.str (sOf z)))) q2 (HO.lst ((whole t).map fun z => V.str (sOf z)))) q3 (HO.lst (((whole t).take k).map fun z => V.str (sOf z)))) D (HO.lst (((whole t).take k).map fun z => V.str (sOf (z ++ [10])))) D = some (HO.lst (((whole t).take k).map fun z => V.str (sOf (z ++ [10])))) := upd_same
    have hpD : p ≠ D := ne_of_none (show upd (upd (upd H q1 (HO.lst ((spl t).map fun z => V.str (sOf z)))) q2 (HO.lst ((whole t).map fun z => V.str (sOf z)))) q3 (HO.lst (((whole t).take k).map fun z => V.str (sOf z))) p = some (HO.ins (CD K) dx (dkF cs n)) by walk_at "h") hD
    have hnD : H D = none := (((same_new hq1).trans (same_new hq2)).trans (same_new hq3)).free hD
    generalize upd (upd (upd (upd H q1 (HO.lst ((spl t).map fun z => V.str (sOf z)))) q2 (HO.lst ((whole t).map fun z => V.str (sOf z)))) q3 (HO.lst (((whole t).take k).map fun z => V.str (sOf z)))) D (HO.lst (((whole t).take k).map fun z => V.str (sOf (z ++ [10])))) = H1 at hp1 hq hq' sm hD1 ⊢
    clear hq1 hq2 hq3 hD
    walk_at "go"
    rw [List.length_map]
    refine g_qix (.inl (.of hq)) e1 ?_
    walk_at "go"
    have ll : ((spl t).getD ((whole t).take k).length []).length ≤ t.length := by
      rw [List.getD_eq_getElem?_getD]
      cases e : (spl t)[((whole t).take k).length]? with
      | none => simp
      | some z => exact spl_mem t z (List.mem_of_getElem? e)
    refine g_slS (sz_ok (by rw [sOf_len]; omega)) ?_
    rw [cut_to]
    walk_at "go"
    refine g_app hD1 (by rw [List.length_map, List.length_take]; omega) ?_
    have hp2 : upd H1 D (HO.lst ((((whole t).take k).map fun z => V.str (sOf (z ++ [10]))) ++ [V.str (sOf (((spl t).getD ((whole t).take k).length []).take r))])) p = some (HO.ins (CD K) dx (dkF cs n)) := by rw [upd_ne hpD]; exact hp1
    have ch : Chg p H (upd H1 D (HO.lst ((((whole t).take k).map fun z => V.str (sOf (z ++ [10]))) ++ [V.str (sOf (((spl t).getD ((whole t).take k).length []).take r))]))) := (sm_chg sm).putn hnD
    have hD2 : upd H1 D (HO.lst ((((whole t).take k).map fun z => V.str (sOf (z ++ [10]))) ++ [V.str (sOf (((spl t).getD ((whole t).take k).length []).take r))])) D = some (HO.lst ((((whole t).take k).map fun z => V.str (sOf (z ++ [10]))) ++ [V.str (sOf (((spl t).getD ((whole t).take k).length []).take r))])) := upd_same
    generalize upd H1 D (HO.lst ((((whole t).take k).map fun z => V.str (sOf (z ++ [10]))) ++ [V.str (sOf (((spl t).getD ((whole t).take k).length []).take r))])) = H2 at hp2 ch hD2 ⊢
    walk_at "go"
    refine g_slS (sz_ok (by rw [sOf_len]; omega)) ?_
    rw [cut_to]
    walk_at "go"
    have fl := fallP_len t k r
    have em : ((((whole t).take k).map (· ++ [10]) ++ [((spl t).getD ((whole t).take k).length []).take r]).map sOf).map V.str = (((whole t).take k).map fun z => V.str (sOf (z ++ [10]))) ++ [V.str (sOf (((spl t).getD ((whole t).take k).length []).take r))] := by
      rw [List.map_append, List.map_append, List.map_map, List.map_map]
      rfl
    have ef : (((whole t).take k).map (· ++ [10]) ++ [((spl t).getD ((whole t).take k).length []).take r]).flatten = fallP t k r := by
      rw [List.flatten_append]
      unfold fallP
      simp
    have es : ((((whole t).take k).map (· ++ [10]) ++ [((spl t).getD ((whole t).take k).length []).take r]).map sOf).map (fun x => x.length) = (((whole t).take k).map (· ++ [10]) ++ [((spl t).getD ((whole t).take k).length []).take r]).map List.length := by
      rw [List.map_map]
      exact List.map_congr_left fun z _ => sOf_len z
    refine ⟨_, D, (((whole t).take k).map (· ++ [10]) ++ [((spl t).getD ((whole t).take k).length []).take r]).map sOf, rfl, rfl, .inl (.of (by rw [em]; exact hD2)), ?_, ?_⟩
    · rw [es, ← List.length_flatten, ef, show (Str.ofString "").length = 0 from rfl, Nat.mul_zero]
      omega
    rw [show Str.ofString "" = sOf [] from rfl, join_e, ef]
    have ct : (cs.take n).length ≤ 900 := by rw [List.length_take]; omega
    refine ⟨_, _, rfl, rfl, sz_ok (by rw [sOf_len, sOf_len]; omega), ?_⟩
    rw [sOf_app]
    walk_at "go"
    refine ⟨p, cs.take n ++ fallP t k r, n, rfl, ⟨dx, upd_same⟩, by rw [List.length_append]; omega, fun H3 d3 c3 => ?_⟩
    walk_at "go"
    exact q H3 d3 ((ch.trans Chg.upd).trans c3)
theorem km_Disk_fall_0_torn_keep (T : Top K mg) : MKCal P w K mg base (He.ga K "Disk") "fall" 2 0 ["torn", "keep"] (fun vs zs => pick [(0, 0), (2, 1), (2, 0)] vs ([.int 0, .int 0] : List V) zs) (spFall K) := mkcal_mk (ps := P_Disk_fall) T.me_Disk_fall T.f_Disk_fall (ok_Disk_fall T) (fun F => mkbD F 1 ["torn", "keep"] [(0, 0), (2, 1), (2, 0)] (by simp) fun _ _ _ _ _ _ _ us its ws l1 l2 l3 => match us, its, ws, l1, l2, l3 with | [_], [_, _], [_, _], _, _, _ => ⟨_, rfl, rfl⟩)
theorem km_Disk_fall_1_ (T : Top K mg) : MKCal P w K mg base (He.ga K "Disk") "fall" 2 1 [] (fun vs zs => pick [(0, 0), (0, 1), (1, 1)] vs ([.int 0, .int 0] : List V) zs) (spFall K) := mkcal_mk (ps := P_Disk_fall) T.me_Disk_fall T.f_Disk_fall (ok_Disk_fall T) (fun F => mkbD F 2 [] [(0, 0), (0, 1), (1, 1)] (by simp) fun _ _ _ _ _ _ _ us its ws l1 l2 l3 => match us, its, ws, l1, l2, l3 with | [_, _], [_, _], [], _, _, _ => ⟨_, rfl, rfl⟩)
theorem km_Disk_fall_0_torn (T : Top K mg) : MKCal P w K mg base (He.ga K "Disk") "fall" 2 0 ["torn"] (fun vs zs => pick [(0, 0), (1, 0), (2, 0)] vs ([.int 0, .int 0] : List V) zs) (spFall K) := mkcal_mk (ps := P_Disk_fall) T.me_Disk_fall T.f_Disk_fall (ok_Disk_fall T) (fun F => mkbD F 1 ["torn"] [(0, 0), (1, 0), (2, 0)] (by simp) fun _ _ _ _ _ _ _ us its ws l1 l2 l3 => match us, its, ws, l1, l2, l3 with | [_], [_, _], [_], _, _, _ => ⟨_, rfl, rfl⟩)
theorem km_Disk_fall_0_ (T : Top K mg) : MKCal P w K mg base (He.ga K "Disk") "fall" 2 0 [] (fun vs zs => pick [(0, 0), (1, 0), (1, 1)] vs ([.int 0, .int 0] : List V) zs) (spFall K) := mkcal_mk (ps := P_Disk_fall) T.me_Disk_fall T.f_Disk_fall (ok_Disk_fall T) (fun F => mkbD F 1 [] [(0, 0), (1, 0), (1, 1)] (by simp) fun _ _ _ _ _ _ _ us its ws l1 l2 l3 => match us, its, ws, l1, l2, l3 with | [_], [_, _], [], _, _, _ => ⟨_, rfl, rfl⟩)
end

set_option Elab.async false
set_option linter.all false
set_option maxRecDepth 100000
set_option maxHeartbeats 4000000
open PySem PySem.Spec L2

local macro_rules | `(tactic| walk_at "s") => `(tactic| first
  | with_reducible refine' g_prop ?_
  | with_reducible refine' g_m1 ?_
  | with_reducible refine' g_m1R ?_
  | with_reducible refine' g_fmt ?_
  | with_reducible refine' g_jsC ?_
  | with_reducible refine' g_jsN ?_
  | with_reducible refine' g_mk ?_
  | with_reducible refine' g_methN ?_
  | with_reducible refine' g_iZm ?_
  | with_reducible refine' g_brk ?_
  | with_reducible refine' g_cont ?_
  | with_reducible refine' g_iStr ?_
  | with_reducible refine' g_strR ?_
  | with_reducible refine' g_min2 ?_
  | with_reducible refine' g_max2 ?_
  | with_reducible refine' g_intB ?_)

local macro_rules | `(tactic| walk_at "bag") => `(tactic| first
  | with_reducible assumption
  | ((with_reducible refine' bag_new ?k1 (by with_reducible assumption)); (case k1 => walk_at "bag"))
  | ((with_reducible refine' bag_sm ?k1 (by with_reducible assumption)); (case k1 => walk_at "bag")))
section
variable {P : Program} {w : World} {K : PySem.W.Frag} {mg : Str → Option Value} {base : Heap}
theorem chg_free {a D : Addr} {H H' : Hp} (c : Chg a H H') (n : D ≠ a) (h : H' D = none) : H D = none := by
  cases e : H D with
  | none => rfl
  | some o => rw [c D o n e] at h; cases h
def spSigns : Sp := fun vs H Q _ => ∃ (a l : Addr) (n : Int), vs = [.ref a, .int n] ∧ Bag H a l ∧ 1 ≤ n ∧ n ≤ 20 ∧ ∀ (ls : List Nat) (H' : Hp), (ls.length : Int) < n → Bag H' a l → Chg a H H' → Q (.str (sOf ls)) H'
theorem ok_signs (T : Top K mg) {f : Addr} {fd : FuncData} (F : FnP K "_law_signs" s__law_signs f fd) : FnOk P w K mg base CX0 3 f fd P__law_signs spSigns := by
  have C__law_of := c_of (P := P) (w := w) (base := base) T
  have C__law_draw := c_draw1 (P := P) (w := w) (base := base) T
  refine F.ok sc__law_signs (fun vs H Q E h => ?_) (fun cdv A outer s H vs Q E hr h => ?_)
  · obtain ⟨a, l, n, rfl, _⟩ := h
    rfl
  · obtain ⟨a, l, n, rfl, hB, h1, h2, q⟩ := h
    refine ⟨_, PSs.nox (pss_cons (ps_set (i := 2) sc__law_signs.nd rfl (by first | exact Or.inl rfl | exact Or.inr rfl) (pe_cal C__law_of (hr.mono (by first | decide | omega)) (by rfl) (pa_cons (pv 0) (pa_cons (pe_lst (pa_cons pe_str (pa_cons pe_str (pa_cons pe_str (pa_cons pe_str (pa_cons pe_str pa_nil)))))) pa_nil))))
    (pss_one (ps_ret (k_join (K := K) (by rfl) pe_str (pe_lc (own := [("_law_k", 4)]) (g := gName 4) (by rfl) sc__law_signs.nd (pi_range1 (by rfl) T.z_range (pa_cons (pe_cal C__law_draw (hr.mono (by first | decide | omega)) (by rfl) (pa_cons (pv 0) (pa_cons (pv 1) pa_nil))) pa_nil)) (blkOk_by (own := [("_law_k", 4)]) (N := N__law_signs) (sc := defScope s__law_signs) (by decide +kernel)) (fun _ _ _ _ _ => pg_name (i := 4) sc__law_signs.nd rfl (by first | exact Or.inl rfl | exact Or.inr rfl)) (fun _ _ _ _ _ => pts_nil) (fun _ _ _ _ _ => (pe_cal C__law_of (hr.mono (by first | decide | omega)) (by rfl) (pa_cons (pv 0) (pa_cons (pe_lc (own := [("_law_one", 3)]) (g := gName 3) (by rfl) sc__law_signs.nd (pi_str (pv 2)) (blkOk_rel (own := [("_law_one", 3)]) (N := N__law_signs) (sc := defScope s__law_signs) (by decide +kernel)) (fun _ _ _ _ _ => pg_name (i := 3) sc__law_signs.nd rfl (by first | exact Or.inl rfl | exact Or.inr rfl)) (fun _ _ _ _ _ => pts_nil) (fun _ _ _ _ _ => (pv 3))) pa_nil))))))))), ?_⟩
    try simp only [cxK]
    rw [show L2.start N__law_signs [.ref a, .int n] = [some (.ref a), some (.int n), none, none, none] from rfl]
    walk_at "go"
    rename_i t1 ht1
    refine g_of (by walk_at "bag") upd_same (ne_bag hB ht1) ⟨by show 1 ≤ 5; decide, by show 5 ≤ 1000000; decide⟩ fun x1 H1 hx1 B1 c1 => ?_
    have hx : ∃ cs : List Nat, x1 = .str (sOf cs) ∧ 1 ≤ cs.length ∧ cs.length ≤ 20 := by
      simp only [List.mem_cons, List.mem_nil_iff, or_false] at hx1
      rcases hx1 with rfl | rfl | rfl | rfl | rfl <;> exact ⟨_, by rw [sOf_cps], by decide, by decide⟩
    obtain ⟨cs, rfl, l1, l2⟩ := hx
    have ch1 : Chg a H H1 := (Chg.refl.lay ht1).trans c1
    walk_at "go"
    refine g_drawB B1 ⟨by omega, by omega⟩ fun r H2 ra rb B2 c2 => ?_
    have ch2 := ch1.trans c2
    walk_at "go"
    refine lcR (σ0 := [some (.ref a), some (.int n), some (.str (sOf cs)), none, none]) rfl fun D hD => ?_
    obtain ⟨naD, nlD⟩ := bag_apart B2 hD
    refine ⟨fun i H' => ∃ zs : List Nat, H' D = some (.lst (zs.map fun c => V.str (sOf [c]))) ∧ zs.length = i ∧ Bag H' a l ∧ Chg a H H', ⟨[], upd_same, rfl, bag_new B2 hD, ch2.lay hD⟩, ?_, ?_⟩
    · rintro i H3 hi ⟨zs, e1, lz, B3, c3⟩
      walk_at "go"
      refine lcS (cs := cs) (f := fun c => V.str (sOf [c])) (σ0 := [some (.ref a), some (.int n), some (.str (sOf cs)), none, some (.int (0 + (i : Int)))]) rfl (by omega) ?_ ?_
      · intro D2 acc c N hD2 hc hy
        walk_at "go"
        exact hy
      intro D2 hD2
      walk_at "go"
      refine g_of (bag_new B3 hD2) upd_same (ne_bag B3 hD2) ⟨by rw [List.length_map]; omega, by rw [List.length_map]; omega⟩ fun x4 H4 hx4 B4 c4 => ?_
      obtain ⟨c, _, rfl⟩ := List.mem_map.mp hx4
      have e2 : H4 D = some (.lst (zs.map fun c => V.str (sOf [c]))) := c4 _ _ naD (h_ne (ne_of_none e1 hD2) e1)
      refine g_turnD e2 (by rw [List.length_map]; omega) ⟨zs ++ [c], by rw [upd_same, List.map_append]; rfl, by simp [lz], bag_chg B4 naD nlD, ((c3.lay hD2).trans c4).putn (chg_free ch2 naD hD)⟩
    · rintro H3 ⟨zs, e1, lz, B3, c3⟩
      have em : ((zs.map fun c => [c]).map sOf).map V.str = zs.map fun c => V.str (sOf [c]) := by rw [List.map_map, List.map_map]; rfl
      have ef : (zs.map fun c => [c]).flatten = zs := by
        clear e1 em lz
        induction zs with
        | nil => rfl
        | cons x r ih => rw [List.map_cons, List.flatten_cons, ih]; rfl
      have es : (((zs.map fun c => [c]).map sOf).map (fun x => x.length)).sum = zs.length := by
        rw [List.map_map, show ((fun x : Str => x.length) ∘ sOf) = List.length from funext fun z => sOf_len z, ← List.length_flatten, ef]
      refine ⟨_, D, (zs.map fun c => [c]).map sOf, rfl, rfl, .inl (.of (by rw [em]; exact e1)), ?_, ?_⟩
      · rw [es, show (Str.ofString "").length = 0 from rfl, Nat.mul_zero]
        omega
      rw [show Str.ofString "" = sOf [] from rfl, join_e, ef]
      exact q zs H3 (by omega) B3 c3
theorem c_signs (T : Top K mg) : Cal P w K mg base "_law_signs" 3 P__law_signs spSigns := cal_mk T.f__law_signs (ok_signs T) (fun F => F.bindsN fun _ _ _ _ _ _ us hl => match us, hl with | [_, _], _ => rfl)
theorem g_signs {a l : Addr} {n : Int} {H : Hp} {Q : VK} {E : XK} (hB : Bag H a l) (h : 1 ≤ n ∧ n ≤ 20) (q : ∀ (ls : List Nat) (H' : Hp), (ls.length : Int) < n → Bag H' a l → Chg a H H' → Q (.str (sOf ls)) H') : spSigns [.ref a, .int n] H Q E := ⟨a, l, n, rfl, hB, h.1, h.2, q⟩
def spStart : Sp := fun vs H Q _ => ∃ (a l : Addr), vs = [.ref a] ∧ Bag H a l ∧ ∀ (cs : List Nat) (H' : Hp), cs.length ≤ 30 → Bag H' a l → Chg a H H' → Q (.str (sOf cs)) H'
theorem ok_start (T : Top K mg) {f : Addr} {fd : FuncData} (F : FnP K "_law_start" s__law_start f fd) : FnOk P w K mg base CX0 4 f fd P__law_start spStart := by
  have C__law_of := c_of (P := P) (w := w) (base := base) T
  have C__law_draw := c_draw1 (P := P) (w := w) (base := base) T
  have C__law_signs := c_signs (P := P) (w := w) (base := base) T
  refine F.ok sc__law_start (fun vs H Q E h => ?_) (fun cdv A outer s H vs Q E hr h => ?_)
  · obtain ⟨a, l, rfl, _⟩ := h
    rfl
  · obtain ⟨a, l, rfl, hB, q⟩ := h
    refine ⟨_, PSs.nox (pss_cons (ps_setLc (i := 1) (own := [("_law_k", 2)]) (g := gName 2) (by rfl) sc__law_start.nd rfl rfl (sw_true rfl rfl rfl (by decide +kernel)) (pi_range1 (by rfl) T.z_range (pa_cons (pe_cal C__law_draw (hr.mono (by first | decide | omega)) (by rfl) (pa_cons (pv 0) (pa_cons pe_int pa_nil))) pa_nil)) (blkOk_by (own := [("_law_k", 2)]) (N := N__law_start) (sc := defScope s__law_start) (by decide +kernel)) (fun _ _ _ _ _ => pg_name (i := 2) sc__law_start.nd rfl (by first | exact Or.inl rfl | exact Or.inr rfl)) (fun _ _ _ _ _ => pts_nil) (fun _ _ _ _ _ => (pe_cal C__law_signs (hr.mono (by first | decide | omega)) (by rfl) (pa_cons (pv 0) (pa_cons pe_int pa_nil)))))
    (pss_one (ps_ret (pe_op op_add_str (k_join (K := K) (by rfl) pe_str (pv 1)) (pe_cal C__law_of (hr.mono (by first | decide | omega)) (by rfl) (pa_cons (pv 0) (pa_cons (pe_lst (pa_cons pe_str (pa_cons pe_str (pa_cons pe_str (pa_cons pe_str (pa_cons pe_str pa_nil)))))) pa_nil))))))), ?_⟩
    try simp only [cxK]
    rw [show L2.start N__law_start [.ref a] = [some (.ref a), none, none] from rfl]
    walk_at "go"
    refine g_drawB hB ⟨by omega, by omega⟩ fun r H2 ra rb B2 c2 => ?_
    walk_at "go"
    refine lcR (σ0 := [some (.ref a), none, none]) rfl fun D hD => ?_
    obtain ⟨naD, nlD⟩ := bag_apart B2 hD
    refine ⟨fun i H' => ∃ zs : List (List Nat), H' D = some (.lst (zs.map fun c => V.str (sOf c))) ∧ zs.length = i ∧ (∀ z ∈ zs, z.length ≤ 4) ∧ Bag H' a l ∧ Chg a H H', ⟨[], upd_same, rfl, (fun z h => by cases h), bag_new B2 hD, c2.lay hD⟩, ?_, ?_⟩
    · rintro i H3 hi ⟨zs, e1, lz, hz, B3, c3⟩
      walk_at "go"
      refine g_signs B3 ⟨by decide, by decide⟩ fun ls H4 ll B4 c4 => ?_
      refine g_turnD (c4 _ _ naD e1) (by rw [List.length_map]; omega) ⟨zs ++ [ls], by rw [upd_same, List.map_append]; rfl, by simp [lz], ?_, bag_chg B4 naD nlD, (c3.trans c4).putn (chg_free c2 naD hD)⟩
      intro z hz2
      rcases List.mem_append.mp hz2 with h | h
      · exact hz z h
      · rw [List.mem_singleton.mp h]; omega
    · rintro H3 ⟨zs, e1, lz, hz, B3, c3⟩
      walk_at "go"
      have em : (zs.map sOf).map V.str = zs.map fun c => V.str (sOf c) := by rw [List.map_map]; rfl
      have es : ((zs.map sOf).map (fun x => x.length)).sum ≤ 12 := by
        refine Nat.le_trans (sum_le (b := 4) fun x hx => ?_) (by rw [List.length_map, List.length_map]; omega)
        rw [List.map_map] at hx
        obtain ⟨z, hz1, rfl⟩ := List.mem_map.mp hx
        show (sOf z).length ≤ 4
        rw [sOf_len]
        exact hz z hz1
      have n1 : (Str.ofString "\n").length = 1 := rfl
      have jl := join_len (Str.ofString "\n") (zs.map sOf)
      rw [n1, List.length_map] at jl
      refine ⟨_, D, zs.map sOf, rfl, rfl, .inl (.of (by rw [em]; exact e1)), by rw [n1, List.length_map]; omega, ?_⟩
      generalize Txt.join (Str.ofString "\n") (zs.map sOf) = js0 at jl ⊢
      obtain ⟨js, rfl⟩ : ∃ z, js0 = sOf z := ⟨_, (sOf_cps js0).symm⟩
      rw [sOf_len] at jl
      walk_at "go"
      rename_i t2 ht2
      refine g_of (bag_new B3 ht2) upd_same (ne_bag B3 ht2) ⟨by show 1 ≤ 5; decide, by show 5 ≤ 1000000; decide⟩ fun x5 H5 hx5 B5 c5 => ?_
      have hx : ∃ ds : List Nat, x5 = .str (sOf ds) ∧ ds.length ≤ 3 := by
        simp only [List.mem_cons, List.mem_nil_iff, or_false] at hx5
        rcases hx5 with rfl | rfl | rfl | rfl | rfl <;> exact ⟨_, by rw [sOf_cps], by decide⟩
      obtain ⟨ds, rfl, ld⟩ := hx
      have jl2 : js.length ≤ 15 := by omega
      refine ⟨_, _, rfl, rfl, sz_ok (by rw [sOf_len, sOf_len]; omega), ?_⟩
      walk_at "go"
      rw [sOf_app]
      exact q _ _ (by rw [List.length_append]; omega) B5 ((c3.lay ht2).trans c5)
theorem c_start (T : Top K mg) : Cal P w K mg base "_law_start" 4 P__law_start spStart := cal_mk T.f__law_start (ok_start T) (fun F => F.bindsN fun _ _ _ _ _ _ us hl => match us, hl with | [_], _ => rfl)
/-! what a fall leaves, sign by sign -/
theorem fallF_nil (t : List Nat) (k r : Nat) (h : t.head? = some 10 ∨ r = 0) : fallF t 0 r = [] := by
  cases t with
  | nil => rfl
  | cons x t =>
    rw [fallF]
    rcases h with h | h
    · rw [if_pos (.inl (Option.some.inj h))]
    · rw [if_pos (.inr h)]
def spFallen : Sp := fun vs H Q _ => ∃ (cs : List Nat) (n k r : Nat), vs = [.str (sOf cs), .int n, .int k, .int r] ∧ cs.length ≤ 2000 ∧ Q (.str (sOf (cs.take n ++ fallF (cs.drop n) k r))) H
theorem ok_fallen (T : Top K mg) {f : Addr} {fd : FuncData} (F : FnP K "_law_fallen" s__law_fallen f fd) : FnOk P w K mg base CX0 1 f fd P__law_fallen spFallen := by
  refine F.ok sc__law_fallen (fun vs H Q E h => ?_) (fun cdv A outer s H vs Q E hr h => ?_)
  · obtain ⟨cs, n, k, r, rfl, _⟩ := h
    rfl
  · obtain ⟨cs, n, k, r, rfl, hl, q⟩ := h
    refine ⟨_, PSs.nox (pss_cons (ps_par3 (i := 4) (j := 5) (l := 6) (by rfl) sc__law_fallen.nd rfl rfl rfl (by decide) (by decide) (by decide) rfl rfl rfl (pa_cons (pe_slice sl_str (pv 0) po_none (po_some (pv 1))) (pa_cons pe_int (pa_cons pe_int pa_nil))) (by rfl))
    (pss_cons (ps_for PassesOwn.never rfl (pi_str (pe_slice sl_str (pv 0) (po_some (pv 1)) po_none)) (pg_name (i := 7) sc__law_fallen.nd rfl (by first | exact Or.inl rfl | exact Or.inr rfl))
    (pss_one (ps_if (pt_cmpR op_lt (pv 5) (pv 2) (nomark _))
    (pss_cons (ps_set (i := 4) sc__law_fallen.nd rfl (by first | exact Or.inl rfl | exact Or.inr rfl) (pe_op op_add_str (pv 4) (pv 7)))
    (pss_one (ps_set (i := 5) sc__law_fallen.nd rfl (by first | exact Or.inl rfl | exact Or.inr rfl) (pe_op op_add (pv 5) (pe_callTy c_intB (by rfl) T.z_int (by decide +kernel) (pa_cons (pe_cmpR op_eq (pv 7) pe_str (nomark _)) pa_nil))))))
    (pss_one (ps_if (PW.pt (pw_or (pt_cmpR op_eq (pv 7) pe_str (nomark _)) (pw_or1 (pt_cmpR op_eq (pv 6) (pv 3) (nomark _)))))
    (pss_one ps_break)
    (pss_cons (ps_set (i := 4) sc__law_fallen.nd rfl (by first | exact Or.inl rfl | exact Or.inr rfl) (pe_op op_add_str (pv 4) (pv 7)))
    (pss_one (ps_set (i := 6) sc__law_fallen.nd rfl (by first | exact Or.inl rfl | exact Or.inr rfl) (pe_op op_add (pv 6) pe_int)))))))))
    (pss_one (ps_ret (pv 4))))), ?_⟩
    try simp only [cxK]
    rw [show L2.start N__law_fallen [.str (sOf cs), .int n, .int k, .int r] = [some (.str (sOf cs)), some (.int n), some (.int k), some (.int r), none, none, none, none] from rfl]
    walk_at "go"
    refine g_slS (sz_ok (by rw [sOf_len]; omega)) ?_
    rw [cut_to]
    walk_at "go"
    refine g_slS (sz_ok (by rw [sOf_len]; omega)) ?_
    rw [cut_from]
    walk_at "go"
    have tn : (cs.take n).length ≤ 2000 := by rw [List.length_take]; omega
    have tl : (cs.drop n).length ≤ 2000 := by rw [List.length_drop]; omega
    generalize cs.drop n = t at tl q ⊢
    refine forS (cs := t) ⟨fun i σ' H' => H' = H ∧ i ≤ t.length ∧ ∃ (f : List Nat) (li si : Nat) (y : Option V), σ' = [some (.str (sOf cs)), some (.int n), some (.int k), some (.int r), some (.str (sOf f)), some (.int li), some (.int si), y] ∧ li ≤ k ∧ si ≤ r ∧
      cs.take n ++ fallF t k r = f ++ fallF (t.drop i) (k - li) (r - si) ∧ f.length ≤ 2000 + i, ⟨rfl, Nat.zero_le _, cs.take n, 0, 0, none, rfl, Nat.zero_le _, Nat.zero_le _, rfl, by omega⟩, ?_, ?_⟩
    · rintro i c σ' H' hc ⟨rfl, hi, f, li, si, y, rfl, h1, h2, heq, hf⟩
      have lt : i < t.length := (List.getElem?_eq_some_iff.mp hc).1
      have ed : t.drop i = c :: t.drop (i + 1) := by
        rw [List.drop_eq_getElem_cons lt]
        congr 1
        rw [List.getElem?_eq_getElem lt] at hc
        exact Option.some.inj hc
      rw [ed] at heq
      have nl : (sOf [c] = Str.ofString "\n") ↔ c = 10 := ⟨fun z => by
        have := sOf_inj (show sOf [c] = sOf [10] from z)
        simpa using this, fun z => by subst z; rfl⟩
      walk_at "go"
      refine g_iteD (fun h3 => ?_) (fun h3 => ?_)
      · have h3' : li < k := by omega
        walk_at "go"
        refine ⟨_, _, rfl, rfl, sz_ok (by rw [sOf_len, sOf_len]; simp; omega), ?_⟩
        rw [sOf_app]
        walk_at "go"
        refine ⟨rfl, lt, f ++ [c], li + (if c = 10 then 1 else 0), si, some (.str (sOf [c])), ?_, ?_, h2, ?_, by rw [List.length_append]; simp; omega⟩
        · by_cases z : c = 10
          · rw [if_pos z, if_pos (nl.mpr z)]; rfl
          · rw [if_neg z, if_neg (fun h => z (nl.mp h))]; rfl
        · split <;> omega
        · rw [heq, show k - li = (k - li - 1) + 1 by omega, fallF]
          by_cases z : c = 10
          · rw [if_pos z, if_pos z, show k - (li + 1) = k - li - 1 by omega]; simp
          · rw [if_neg z, if_neg z, show k - (li + 0) = k - li - 1 + 1 by omega]; simp
      · have h3' : k - li = 0 := by omega
        rw [h3', fallF] at heq
        walk_at "go"
        refine g_iteD (fun h4 => ?_) (fun h4 => ?_)
        · rw [if_pos (.inl (nl.mp h4)), List.append_nil] at heq
          walk_at "go"
          rw [← heq]
          exact q
        · walk_at "go"
          refine g_iteD (fun h5 => ?_) (fun h5 => ?_)
          · rw [if_pos (.inr (by omega)), List.append_nil] at heq
            walk_at "go"
            rw [← heq]
            exact q
          · have h6 : ¬ (c = 10 ∨ r - si = 0) := by
              rintro (z | z)
              · exact h4 (nl.mpr z)
              · exact h5 (by omega)
            rw [if_neg h6] at heq
            walk_at "go"
            refine ⟨_, _, rfl, rfl, sz_ok (by rw [sOf_len, sOf_len]; simp; omega), ?_⟩
            rw [sOf_app]
            walk_at "go"
            refine ⟨rfl, lt, f ++ [c], li, si + 1, some (.str (sOf [c])), rfl, h1, by omega, ?_, by rw [List.length_append]; simp; omega⟩
            rw [heq, h3', show r - (si + 1) = r - si - 1 by omega]
            simp
    · rintro σ' H' ⟨rfl, hi, f, li, si, y, rfl, h1, h2, heq, hf⟩
      rw [List.drop_length] at heq
      walk_at "go"
      have e : fallF [] (k - li) (r - si) = [] := by unfold fallF; rfl
      rw [e, List.append_nil] at heq
      rw [← heq]
      exact q
theorem c_fallen (T : Top K mg) : Cal P w K mg base "_law_fallen" 1 P__law_fallen spFallen := cal_mk T.f__law_fallen (ok_fallen T) (fun F => F.bindsN fun _ _ _ _ _ _ us hl => match us, hl with | [_, _, _, _], _ => rfl)
def spWhole : Sp := fun vs H Q _ => ∃ (cs : List Nat), vs = [.str (sOf cs)] ∧ cs.length ≤ 900 ∧ ∀ (q : Addr) (H' : Hp), H q = none → Same H H' → H' q = some (.lst ((whole cs).map fun z => V.str (sOf z))) → Q (.ref q) H'
theorem g_whole {cs : List Nat} {H : Hp} {Q : VK} {E : XK} (h : cs.length ≤ 900) (q : ∀ (q : Addr) (H' : Hp), H q = none → Same H H' → H' q = some (.lst ((whole cs).map fun z => V.str (sOf z))) → Q (.ref q) H') : spWhole [.str (sOf cs)] H Q E := ⟨cs, rfl, h, q⟩
theorem ok_whole (T : Top K mg) {f : Addr} {fd : FuncData} (F : FnP K "_law_whole_lines" s__law_whole_lines f fd) : FnOk P w K mg base CX0 1 f fd P__law_whole_lines spWhole := by
  refine F.ok sc__law_whole_lines (fun vs H Q E h => ?_) (fun cdv A outer s H vs Q E hr h => ?_)
  · obtain ⟨cs, rfl, _⟩ := h
    rfl
  · obtain ⟨cs, rfl, hl, q⟩ := h
    refine ⟨_, PSs.nox (pss_cons (ps_par (i := 1) (j := 2) (by rfl) sc__law_whole_lines.nd rfl rfl (by decide) rfl rfl (pa_cons (pe_lst pa_nil) (pa_cons pe_str pa_nil)) (by rfl))
    (pss_cons (ps_for PassesOwn.never rfl (pi_str (pv 0)) (pg_name (i := 3) sc__law_whole_lines.nd rfl (by first | exact Or.inl rfl | exact Or.inr rfl))
    (pss_one (ps_if (pt_cmpR op_eq (pv 3) pe_str (nomark _))
    (pss_cons (ps_expr (pe_bm PySem.F.plainAttrs_list PySem.F.slot_list_append PySem.F.type_list_append mt_append (pv 1) (pa_cons (pv 2) pa_nil)))
    (pss_one (ps_set (i := 2) sc__law_whole_lines.nd rfl (by first | exact Or.inl rfl | exact Or.inr rfl) pe_str)))
    (pss_one (ps_set (i := 2) sc__law_whole_lines.nd rfl (by first | exact Or.inl rfl | exact Or.inr rfl) (pe_op op_add_str (pv 2) (pv 3)))))))
    (pss_one (ps_ret (pv 1))))), ?_⟩
    try simp only [cxK]
    rw [show L2.start N__law_whole_lines [.str (sOf cs)] = [some (.str (sOf cs)), none, none, none] from rfl]
    walk_at "go"
    rename_i D hD
    refine forS (cs := cs) ⟨fun i σ' H' => ∃ (y : Option V), σ' = [some (.str (sOf cs)), some (.ref D), some (.str (sOf ((spl (cs.take i)).getLastD []))), y] ∧ H' = upd H D (.lst ((whole (cs.take i)).map fun z => V.str (sOf z))), ⟨none, rfl, rfl⟩, ?_, ?_⟩
    · rintro i c σ' H' hc ⟨y, rfl, rfl⟩
      have lt : i < cs.length := (List.getElem?_eq_some_iff.mp hc).1
      have et : cs.take (i + 1) = cs.take i ++ [c] := by rw [List.take_add_one, hc]; rfl
      have es := spl_snoc c (cs.take i)
      rw [← et] at es
      have ne := spl_ne (cs.take i)
      have nl : (sOf [c] = Str.ofString "\n") ↔ c = 10 := ⟨fun z => by
        have := sOf_inj (show sOf [c] = sOf [10] from z)
        simpa using this, fun z => by subst z; rfl⟩
      have sl := spl_len (cs.take i)
      have tl : (cs.take i).length ≤ 900 := by rw [List.length_take]; omega
      walk_at "go"
      refine g_iteD (fun h3 => ?_) (fun h3 => ?_)
      · rw [if_pos (nl.mp h3)] at es
        walk_at "go"
        refine g_app upd_same (by rw [List.length_map]; unfold whole; rw [List.length_dropLast]; omega) ?_
        walk_at "go"
        refine ⟨some (.str (sOf [c])), ?_, ?_⟩
        · rw [es]; simp; rfl
        · rw [upd_upd]
          unfold whole
          rw [es, List.dropLast_concat]
          have e : (spl (cs.take i)).dropLast ++ [(spl (cs.take i)).getLastD []] = spl (cs.take i) := by
            rw [List.getLastD_eq_getLast?, List.getLast?_eq_some_getLast ne]
            exact List.dropLast_concat_getLast ne
          conv => rhs; rw [← e]
          rw [List.map_append]
          rfl
      · rw [if_neg (fun z => h3 (nl.mpr z))] at es
        walk_at "go"
        have ll : ((spl (cs.take i)).getLastD []).length ≤ 900 := by
          rw [List.getLastD_eq_getLast?, List.getLast?_eq_some_getLast ne]
          exact Nat.le_trans (spl_mem _ _ (List.getLast_mem ne)) tl
        refine ⟨_, _, rfl, rfl, sz_ok (by rw [sOf_len, sOf_len, List.length_singleton]; omega), ?_⟩
        rw [sOf_app]
        walk_at "go"
        refine ⟨some (.str (sOf [c])), ?_, ?_⟩
        · rw [es, List.getLastD_concat]
        · unfold whole
          rw [es, List.dropLast_concat]
    · rintro σ' H' ⟨y, rfl, rfl⟩
      rw [List.take_length]
      walk_at "go"
      exact q D _ hD (same_new hD) upd_same
theorem c_whole (T : Top K mg) : Cal P w K mg base "_law_whole_lines" 1 P__law_whole_lines spWhole := cal_mk T.f__law_whole_lines (ok_whole T) (fun F => F.bindsN fun _ _ _ _ _ _ us hl => match us, hl with | [_], _ => rfl)
end

set_option Elab.async false
set_option linter.all false
set_option maxRecDepth 100000
set_option maxHeartbeats 4000000
open PySem PySem.Spec L2

local macro_rules | `(tactic| walk_at "s") => `(tactic| first
  | with_reducible refine' g_prop ?_
  | with_reducible refine' g_m1 ?_
  | with_reducible refine' g_m1R ?_
  | with_reducible refine' g_fmt ?_
  | with_reducible refine' g_jsC ?_
  | with_reducible refine' g_jsN ?_
  | with_reducible refine' g_mk ?_
  | with_reducible refine' g_methN ?_
  | with_reducible refine' g_iZm ?_
  | ((with_reducible refine' g_gLst ?k1 ?k2 ?_); (case k1 => walk_at "l"); (case k2 => rfl))
  | ((with_reducible refine' g_methN2 ?k1 ?k2 ?_); (case k1 => walk_at "h"); (case k2 => rfl))
  | ((with_reducible refine' g_methN3 ?k1 ?k2 ?k3 ?_); (case k1 => rfl); (case k2 => rfl); (case k3 => rfl))
  | with_reducible refine' g_brk ?_
  | with_reducible refine' g_cont ?_
  | with_reducible refine' g_iStr ?_
  | with_reducible refine' g_strR ?_
  | with_reducible refine' g_min2 ?_
  | with_reducible refine' g_max2 ?_
  | with_reducible refine' g_intB ?_)

section
variable {P : Program} {w : World} {K : PySem.W.Frag} {mg : Str → Option Value} {base : Heap}
theorem whole_len (cs : List Nat) : (whole cs).length ≤ cs.length := by
  have := spl_len cs
  unfold whole
  rw [List.length_dropLast]
  omega
theorem dpAll_strs {H : Hp} : ∀ zs : List (List Nat), DpAll K H (zs.map fun z => V.str (sOf z)) (zs.map fun z => PyData.str (sOf z))
  | [] => .nil
  | _ :: r => .cons (.str _) (dpAll_strs r)
theorem depth_strs : ∀ zs : List (List Nat), PyData.depthAll (zs.map fun z => PyData.str (sOf z)) = 0
  | [] => rfl
  | z :: r => by
    show max (PyData.depth (.str (sOf z))) (PyData.depthAll (r.map fun z => PyData.str (sOf z))) = 0
    rw [depth_strs r]
    rfl
theorem small_strs : ∀ zs : List (List Nat), smallAll (zs.map fun z => PyData.str (sOf z)) = true
  | [] => rfl
  | z :: r => by
    show (smallD (.str (sOf z)) && smallAll (r.map fun z => PyData.str (sOf z))) = true
    rw [small_strs r]
    rfl
def spDkL (K : PySem.W.Frag) : Sp := fun vs H Q _ => ∃ (p st : Addr) (cs : List Nat) (n : Nat), vs = [.ref p, .ref st] ∧ Dk K H p cs n ∧ H st = some (.lst [.str (sOf cs), .int n]) ∧ cs.length ≤ 900 ∧ ∀ H', Same H H' → Q (.bl true) H'
theorem g_dkL {p st : Addr} {cs : List Nat} {n : Nat} {H : Hp} {Q : VK} {E : XK} (h1 : Dk K H p cs n) (h2 : H st = some (.lst [.str (sOf cs), .int n])) (h3 : cs.length ≤ 900) (q : ∀ H', Same H H' → Q (.bl true) H') : spDkL K [.ref p, .ref st] H Q E := ⟨p, st, cs, n, rfl, h1, h2, h3, q⟩
theorem ok_dkL (T : Top K mg) {f : Addr} {fd : FuncData} (F : FnP K "_law_disk_like" s__law_disk_like f fd) : FnOk P w K mg base CX0 5 f fd P__law_disk_like (spDkL K) := by
  have cl_Disk := T.cl_Disk; have na_Disk__content := T.na_Disk__content; have na_Disk__synced := T.na_Disk__synced
  have C__law_whole_lines := c_whole (P := P) (w := w) (base := base) T
  have C__law_like := c_like (P := P) (w := w) (base := base) T 2
  have PC_Disk_content := pc_content (P := P) (w := w) (base := base) T
  have PC_Disk_synced := pc_synced (P := P) (w := w) (base := base) T
  have MC_Disk_lines := mc_lines (P := P) (w := w) (base := base) T
  have MC_Disk___len__ := mc_len (P := P) (w := w) (base := base) T
  have MC_Disk___repr__ := mc_repr (P := P) (w := w) (base := base) T
  have MC_Disk___bool__ := mc_bool (P := P) (w := w) (base := base) T
  refine F.ok sc__law_disk_like (fun vs H Q E h => ?_) (fun cdv A outer s H vs Q E hr h => ?_)
  · obtain ⟨p, st, cs, n, rfl, _⟩ := h
    rfl
  · obtain ⟨p, st, cs, n, rfl, hd, hs, hl, q⟩ := h
    refine ⟨_, PSs.nox (pss_cons (ps_set (i := 2) sc__law_disk_like.nd rfl (by first | exact Or.inl rfl | exact Or.inr rfl) (pe_cal C__law_whole_lines (hr.mono (by first | decide | omega)) (by rfl) (pa_cons (pe_ix (k_ix (K := K) (by rfl)) (pv 1) pe_int (fun _ _ => rfl)) pa_nil)))
    (pss_cons (ps_if (pt_not (pt_val (pe_cal C__law_like (hr.mono (by first | decide | omega)) (by rfl) (pa_cons (pe_lst (pa_cons (pe_propc (pv 0) T.cl_Disk PC_Disk_content (hr.mono (by first | decide | omega)) rfl) (pa_cons (pe_propc (pv 0) T.cl_Disk PC_Disk_synced (hr.mono (by first | decide | omega)) rfl) (pa_cons (pe_mcal0 (pv 0) T.cl_Disk MC_Disk_lines (hr.mono (by first | decide | omega))) (pa_cons (pe_callB (call_ownLen MC_Disk___len__ (hr.mono (by first | decide | omega))) (by rfl) T.z_len (by decide +kernel) (pa_cons (pv 0) pa_nil)) pa_nil))))) (pa_cons (pe_lst (pa_cons (pe_ix (k_ix (K := K) (by rfl)) (pv 1) pe_int (fun _ _ => rfl)) (pa_cons (pe_ix (k_ix (K := K) (by rfl)) (pv 1) pe_int (fun _ _ => rfl)) (pa_cons (pv 2) (pa_cons (pe_callB (k_len (K := K) (by rfl)) (by rfl) T.z_len (by decide +kernel) (pa_cons (pv 2) pa_nil)) pa_nil))))) pa_nil)))))
    (pss_one (ps_ret pe_bl))
    pss_nil)
    (pss_one (ps_ret (pe_and (pe_cmpR op_eq (pe_callB (call_ownRepr MC_Disk___repr__ (hr.mono (by first | decide | omega))) (by rfl) T.z_repr (by decide +kernel) (pa_cons (pv 0) pa_nil)) (pe_op op_add_str (pe_op op_add_str pe_str (pe_callTy call_str_int (by rfl) T.z_str (by decide +kernel) (pa_cons (pe_callB (k_len (K := K) (by rfl)) (by rfl) T.z_len (by decide +kernel) (pa_cons (pv 2) pa_nil)) pa_nil))) pe_str) (nomark _)) (pe_one (pe_callTy (call_ownBool MC_Disk___bool__ (hr.mono (by first | decide | omega))) (by rfl) T.z_bool (by decide +kernel) (pa_cons (pv 0) pa_nil)))))))), ?_⟩
    try simp only [cxK]
    clear C__law_whole_lines C__law_like PC_Disk_content PC_Disk_synced MC_Disk_lines MC_Disk___len__ MC_Disk___repr__ MC_Disk___bool__ F T
    rw [show L2.start N__law_disk_like [.ref p, .ref st] = [some (.ref p), some (.ref st), none] from rfl]
    have wl := whole_len cs
    walk_at "go"
    refine g_whole hl fun q1 H1 f1 s1 e1 => ?_
    have hd1 := hd.sm s1
    have hs1 := s1 _ _ hs
    obtain ⟨dx, hp1⟩ := id hd1
    walk_at "go"
    refine g_propR hp1 ⟨p, cs, n, rfl, hd1, ?_⟩
    walk_at "go"
    refine g_propR hp1 ⟨p, cs, n, rfl, hd1, ?_⟩
    walk_at "go"
    refine ⟨p, cs, n, rfl, hd1, by omega, fun q2 H2 f2 s2 e2 => ?_⟩
    walk_at "go"
    refine g_ownLen (s2 _ _ hp1) ⟨p, cs, n, rfl, hd1.sm s2, by omega, fun H3 s3 => ⟨_, rfl, by omega, by omega, ?_⟩⟩
    have s13 := s2.trans s3
    have hs3 := s13 _ _ hs1
    have e13 := s13 _ _ e1
    have e23 := s3 _ _ e2
    have hd3 := hd1.sm s13
    have t3 := s1.trans s13
    clear hs1 hs e1 e2 hd1 hp1 f1 f2 s1 s2 s3 s13 hd
    walk_at "go"
    rename_i u1 hu1 u2 hu2
    rw [List.length_map] at *
    have sn : Same H3 (upd (upd H3 u1 (HO.lst [V.str (sOf cs), V.int n, V.ref q2, V.int ((whole cs).length : Nat)])) u2 (HO.lst [V.str (sOf cs), V.int n, V.ref q1, V.int ((whole cs).length : Nat)])) := (same_new hu1).trans (same_new hu2)
    have d1 : Dp K (upd (upd H3 u1 (HO.lst [V.str (sOf cs), V.int n, V.ref q2, V.int ((whole cs).length : Nat)])) u2 (HO.lst [V.str (sOf cs), V.int n, V.ref q1, V.int ((whole cs).length : Nat)])) (.ref u1) (.list [.str (sOf cs), .int n, .list ((whole cs).map fun z => PyData.str (sOf z)), .int ((whole cs).length : Nat)]) :=
      .lst (.of (h_ne (ne_of_none upd_same hu2) upd_same)) (.cons (.str _) (.cons (.int _) (.cons (.lst (.of (sn _ _ e23)) (dpAll_strs _)) (.cons (.int _) .nil))))
    have d2 : Dp K (upd (upd H3 u1 (HO.lst [V.str (sOf cs), V.int n, V.ref q2, V.int ((whole cs).length : Nat)])) u2 (HO.lst [V.str (sOf cs), V.int n, V.ref q1, V.int ((whole cs).length : Nat)])) (.ref u2) (.list [.str (sOf cs), .int n, .list ((whole cs).map fun z => PyData.str (sOf z)), .int ((whole cs).length : Nat)]) :=
      .lst (.of upd_same) (.cons (.str _) (.cons (.int _) (.cons (.lst (.of (sn _ _ e13)) (dpAll_strs _)) (.cons (.int _) .nil))))
    refine g_likeD d1 d2 (by show max 0 (max 0 (max (PyData.depthAll ((whole cs).map fun z => PyData.str (sOf z)) + 1) (max 0 0))) + 1 ≤ 2; rw [depth_strs]; decide) (by
      show (decide (4 ≤ 1000) && (true && (true && ((decide (((whole cs).map fun z => PyData.str (sOf z)).length ≤ 1000) && smallAll ((whole cs).map fun z => PyData.str (sOf z))) && (true && true))))) = true
      rw [small_strs, List.length_map, decide_eq_true (show (whole cs).length ≤ 1000 by omega)]
      rfl) fun H4 s4 => ?_
    have e14 := s4 _ _ (sn _ _ e13)
    obtain ⟨dx4, hp4⟩ := (hd3.sm sn).sm s4
    have t4 := (t3.trans sn).trans s4
    clear d1 d2 e13 e23 hs3 t3 sn s4 hu1 hu2 hd3
    walk_at "go"
    refine g_ownRepr hp4 ⟨p, cs, n, rfl, ⟨dx4, hp4⟩, by omega, fun H5 s5 => ⟨_, rfl, ?_⟩⟩
    have e15 := s5 _ _ e14
    have hp5 := s5 _ _ hp4
    have tl : (Str.ofString (toString ((whole cs).length : Int))).length ≤ 10 := nTxt_len (n := (whole cs).length) (by omega)
    have k5 : (Str.ofString "Disk(").length = 5 := rfl
    have k7 : (Str.ofString " lines)").length = 7 := rfl
    walk_at "go"
    rw [List.length_map]
    refine ⟨_, rfl, log_ok (by omega), ?_⟩
    walk_at "go"
    refine ⟨_, _, rfl, rfl, sz_ok (by omega), ?_⟩
    walk_at "go"
    refine ⟨_, _, rfl, rfl, sz_ok (by rw [str_app_len]; omega), ?_⟩
    walk_at "go"
    refine g_iteY rfl ?_
    walk_at "go"
    refine g_ownBool hp5 ⟨p, rfl, _, rfl, ?_⟩
    exact q _ (t4.trans s5)
theorem c_dkL (T : Top K mg) : Cal P w K mg base "_law_disk_like" 5 P__law_disk_like (spDkL K) := cal_mk T.f__law_disk_like (ok_dkL T) (fun F => F.bindsN fun _ _ _ _ _ _ us hl => match us, hl with | [_, _], _ => rfl)
/-! a deed -/
theorem kp_take : ∀ cs : List Nat, kp (cs.take (kp cs)) = kp cs
  | [] => rfl
  | x :: t => by
    have ih := kp_take t
    by_cases h : 0 < kp t
    · have e : kp (x :: t) = kp t + 1 := by rw [kp, if_pos h]
      rw [e, List.take_succ_cons, kp, ih, if_pos h]
    · by_cases hx : x = 10
      · have e : kp (x :: t) = 1 := by rw [kp, if_neg h, if_pos hx]
        rw [e, List.take_succ_cons, List.take_zero, kp]
        simp [kp, hx]
      · have e : kp (x :: t) = 0 := by rw [kp, if_neg h, if_neg hx]
        rw [e]
        rfl
theorem nl_take (cs : List Nat) : Nl (cs.take (kp cs)) := by
  have h := kp_le cs
  unfold Nl
  rw [kp_take, List.length_take]
  omega
theorem nl_drop {t : List Nat} (h : Nl t) : ∀ m, Nl (t.drop m)
  | 0 => h
  | m + 1 => by
    have ih := nl_drop h m
    cases e : t.drop m with
    | nil =>
      have : t.drop (m + 1) = [] := by
        rw [List.drop_eq_nil_iff] at e ⊢
        omega
      rw [this]
      rfl
    | cons x u =>
      rw [e] at ih
      have e2 : t.drop (m + 1) = u := by
        have z : t.drop (m + 1) = (t.drop m).drop 1 := by rw [List.drop_drop]
        rw [z, e]
        rfl
      rw [e2]
      exact nl_tail ih
theorem nl_snoc : ∀ u : List Nat, Nl (u ++ [10])
  | [] => rfl
  | x :: u => by
    have ih := nl_snoc u
    unfold Nl at *
    rw [List.cons_append, kp, ih, if_pos (by simp)]
    simp
theorem fallF_len : ∀ (t : List Nat) (k r : Nat), (fallF t k r).length ≤ t.length
  | [], k, r => Nat.le_of_eq (by rw [fallF])
  | x :: t, 0, r => by
    have := fallF_len t 0 (r - 1)
    rw [fallF]
    split <;> simp <;> omega
  | x :: t, k + 1, r => by
    have := fallF_len t (if x = 10 then k else k + 1) r
    rw [fallF]
    simp
    exact this
theorem fall_none (t : List Nat) : fallP t 0 0 = [] := by unfold fallP; simp
/-- the bag, a disk, and what the law knows of it -/
structure Ls (K : PySem.W.Frag) (H : Hp) (a l p st : Addr) (cs : List Nat) (n : Nat) : Prop where
  bag : Bag H a l
  dk : Dk K H p cs n
  st : H st = some (.lst [.str (sOf cs), .int n])
  le : n ≤ cs.length
  nl : Nl (cs.drop n)
def Chg3 (a p st : Addr) (H H' : Hp) : Prop := ∀ b o, b ≠ a → b ≠ p → b ≠ st → H b = some o → H' b = some o
theorem Ls.ne {H : Hp} {a l p st : Addr} {cs : List Nat} {n : Nat} (h : Ls K H a l p st cs n) : p ≠ a ∧ p ≠ l ∧ st ≠ p ∧ st ≠ a ∧ st ≠ l := by
  obtain ⟨dx, hp⟩ := h.dk
  obtain ⟨ns, i, g, m, c, hB, hl, _⟩ := h.bag
  have hs := h.st
  refine ⟨fun z => ?_, fun z => ?_, fun z => ?_, fun z => ?_, fun z => ?_⟩
  · rw [z, hB] at hp; cases hp
  · rw [z, hl] at hp; cases hp
  · rw [z, hp] at hs; cases hs
  · rw [z, hB] at hs; cases hs
  · rw [z, hl] at hs
    injection hs with hs
    injection hs with hs
    cases ns with
    | nil => cases hs
    | cons x r => cases hs
theorem Ls.chg {H H' : Hp} {a l p st : Addr} {cs : List Nat} {n : Nat} (h : Ls K H a l p st cs n) (B : Bag H' a l) (c : Chg a H H') : Ls K H' a l p st cs n := by
  obtain ⟨npa, _, _, nsa, _⟩ := h.ne
  exact ⟨B, h.dk.chg npa c, c _ _ nsa h.st, h.le, h.nl⟩
theorem Ls.sm {H H' : Hp} {a l p st : Addr} {cs : List Nat} {n : Nat} (h : Ls K H a l p st cs n) (s : Same H H') : Ls K H' a l p st cs n := h.chg (bag_sm h.bag s) (sm_chg s)
theorem Ls.fin {H : Hp} {a l p st : Addr} {cs : List Nat} {n : Nat} (B : Bag H a l) (d : Dk K H p cs n) (nsp : st ≠ p) (nsa : st ≠ a) (nsl : st ≠ l) (le : n ≤ cs.length) (nl : Nl (cs.drop n)) : Ls K (upd H st (.lst [.str (sOf cs), .int n])) a l p st cs n := by
  obtain ⟨dx, hp⟩ := d
  exact ⟨bag_chg B nsa nsl, ⟨dx, by rw [upd_ne (Ne.symm nsp)]; exact hp⟩, upd_same, le, nl⟩
theorem bag_p {H H' : Hp} {a l p : Addr} (h : Bag H a l) (n1 : p ≠ a) (n2 : p ≠ l) (c : Chg p H H') : Bag H' a l := by
  obtain ⟨ns, i, g, m, k, hB, hl, r⟩ := h
  exact ⟨ns, i, g, m, k, c _ _ (Ne.symm n1) hB, c _ _ (Ne.symm n2) hl, r⟩
theorem Chg3.refl {a p st : Addr} {H : Hp} : Chg3 a p st H H := fun _ _ _ _ _ h => h
theorem Chg3.a {a p st : Addr} {H H1 H2 : Hp} (h : Chg3 a p st H H1) (c : Chg a H1 H2) : Chg3 a p st H H2 := fun b o n1 n2 n3 e => c b o n1 (h b o n1 n2 n3 e)
theorem Chg3.p {a p st : Addr} {H H1 H2 : Hp} (h : Chg3 a p st H H1) (c : Chg p H1 H2) : Chg3 a p st H H2 := fun b o n1 n2 n3 e => c b o n2 (h b o n1 n2 n3 e)
theorem Chg3.st {a p st : Addr} {H H1 : Hp} {o : HO} (h : Chg3 a p st H H1) : Chg3 a p st H (upd H1 st o) := fun b u n1 n2 n3 e => by rw [upd_ne n3]; exact h b u n1 n2 n3 e
theorem Chg3.sm {a p st : Addr} {H H1 H2 : Hp} (h : Chg3 a p st H H1) (c : Same H1 H2) : Chg3 a p st H H2 := fun b o n1 n2 n3 e => c b o (h b o n1 n2 n3 e)
def spDeed (K : PySem.W.Frag) : Sp := fun vs H Q _ => ∃ (a l p st : Addr) (cs : List Nat) (n : Nat), vs = [.ref a, .ref p, .ref st] ∧ Ls K H a l p st cs n ∧ cs.length ≤ 800 ∧
  ∀ (cs' : List Nat) (n' : Nat) (H' : Hp), Ls K H' a l p st cs' n' → cs'.length ≤ cs.length + 7 → Chg3 a p st H H' → Q .non H'
theorem g_deed {a l p st : Addr} {cs : List Nat} {n : Nat} {H : Hp} {Q : VK} {E : XK} (h : Ls K H a l p st cs n) (hl : cs.length ≤ 800)
    (q : ∀ (cs' : List Nat) (n' : Nat) (H' : Hp), Ls K H' a l p st cs' n' → cs'.length ≤ cs.length + 7 → Chg3 a p st H H' → Q .non H') : spDeed K [.ref a, .ref p, .ref st] H Q E := ⟨a, l, p, st, cs, n, rfl, h, hl, q⟩
theorem ok_deed (T : Top K mg) {f : Addr} {fd : FuncData} (F : FnP K "_law_disk_deed" s__law_disk_deed f fd) : FnOk P w K mg base CX0 5 f fd P__law_disk_deed (spDeed K) := by
  have cl_Disk := T.cl_Disk; have na_Disk__content := T.na_Disk__content; have na_Disk__synced := T.na_Disk__synced
  have C__law_draw := c_draw1 (P := P) (w := w) (base := base) T
  have C__law_of := c_of (P := P) (w := w) (base := base) T
  have C__law_signs := c_signs (P := P) (w := w) (base := base) T
  have C__law_fallen := c_fallen (P := P) (w := w) (base := base) T
  have C__law_whole_lines := c_whole (P := P) (w := w) (base := base) T
  have MC_Disk_write := mc_write (P := P) (w := w) (base := base) T
  have MC_Disk_sync := mc_sync (P := P) (w := w) (base := base) T
  have MC_Disk_trim := mc_trim (P := P) (w := w) (base := base) T
  have KM_Disk_fall_0_torn_keep := km_Disk_fall_0_torn_keep (P := P) (w := w) (base := base) T
  have KM_Disk_fall_1_ := km_Disk_fall_1_ (P := P) (w := w) (base := base) T
  have KM_Disk_fall_0_torn := km_Disk_fall_0_torn (P := P) (w := w) (base := base) T
  have KM_Disk_fall_0_ := km_Disk_fall_0_ (P := P) (w := w) (base := base) T
  refine F.ok sc__law_disk_deed (fun vs H Q E h => ?_) (fun cdv A outer s H vs Q E hr h => ?_)
  · obtain ⟨a, l, p, st, cs, n, rfl, _⟩ := h
    rfl
  · obtain ⟨a, l, p, st, cs, n, rfl, L, hl, q⟩ := h
    refine ⟨_, PSs.nox (pss_cons (ps_par3 (i := 3) (j := 4) (l := 5) (by rfl) sc__law_disk_deed.nd rfl rfl rfl (by decide) (by decide) (by decide) rfl rfl rfl (pa_cons (pe_cal C__law_draw (hr.mono (by first | decide | omega)) (by rfl) (pa_cons (pv 0) (pa_cons pe_int pa_nil))) (pa_cons (pe_cal C__law_of (hr.mono (by first | decide | omega)) (by rfl) (pa_cons (pv 0) (pa_cons (pe_lst (pa_cons pe_int (pa_cons pe_int (pa_cons pe_int (pa_cons pe_int (pa_cons pe_int (pa_cons pe_int (pa_cons pe_int pa_nil)))))))) pa_nil))) (pa_cons (pe_cal C__law_draw (hr.mono (by first | decide | omega)) (by rfl) (pa_cons (pv 0) (pa_cons pe_int pa_nil))) pa_nil))) (by rfl))
    (pss_cons (ps_asg (pv 2) (k_pgl (K := K) (n := 2) (by rfl) (by rfl) (pgs_cons (pg_name (i := 6) sc__law_disk_deed.nd rfl (by first | exact Or.inl rfl | exact Or.inr rfl)) (pgs_cons (pg_name (i := 7) sc__law_disk_deed.nd rfl (by first | exact Or.inl rfl | exact Or.inr rfl)) pgs_nil)) (by rfl) (by rfl)))
    (pss_one (ps_if (pt_cmpR op_lt (pv 3) pe_int (nomark _))
    (pss_cons (ps_set (i := 8) sc__law_disk_deed.nd rfl (by first | exact Or.inl rfl | exact Or.inr rfl) (pe_cal C__law_signs (hr.mono (by first | decide | omega)) (by rfl) (pa_cons (pv 0) (pa_cons pe_int pa_nil))))
    (pss_cons (ps_expr (pe_mcal (pv 1) T.cl_Disk MC_Disk_write (hr.mono (by first | decide | omega)) (pa_cons (pv 8) pa_nil)))
    (pss_one (ps_asg (pe_op op_add_str (pe_op op_add_str (pv 6) (pv 8)) pe_str) (pg_sub (pv 2) pe_int set_list)))))
    (pss_one (ps_if (pt_cmpR op_lt (pv 3) pe_int (nomark _))
    (pss_cons (ps_expr (pe_mcal0 (pv 1) T.cl_Disk MC_Disk_sync (hr.mono (by first | decide | omega))))
    (pss_one (ps_asg (pe_callB call_len_str (by rfl) T.z_len (by decide +kernel) (pa_cons (pv 6) pa_nil)) (pg_sub (pv 2) pe_int set_list))))
    (pss_one (ps_if (pt_cmpR op_lt (pv 3) pe_int (nomark _))
    (C8.pss_cut (ps_if (pt_cmpR op_eq (pv 3) pe_int (nomark _))
    (pss_one (ps_expr (pe_mkcal0 (pv 1) T.cl_Disk KM_Disk_fall_0_torn_keep (hr.mono (by first | decide | omega)) (pk_cons (pv 5) (pk_cons (pv 4) pk_nil)))))
    (pss_one (ps_if (pt_cmpR op_eq (pv 3) pe_int (nomark _))
    (pss_cons (ps_set (i := 5) sc__law_disk_deed.nd rfl (by first | exact Or.inl rfl | exact Or.inr rfl) pe_int)
    (pss_one (ps_expr (pe_mkcal (pv 1) T.cl_Disk KM_Disk_fall_1_ (hr.mono (by first | decide | omega)) (pa_cons (pv 4) pa_nil) pk_nil))))
    (pss_cons (ps_set (i := 4) sc__law_disk_deed.nd rfl (by first | exact Or.inl rfl | exact Or.inr rfl) pe_int)
    (pss_one (ps_expr (pe_mkcal0 (pv 1) T.cl_Disk KM_Disk_fall_0_torn (hr.mono (by first | decide | omega)) (pk_cons (pv 5) pk_nil))))))))
    (pss_cons (ps_asg (pe_cal C__law_fallen (hr.mono (by first | decide | omega)) (by rfl) (pa_cons (pv 6) (pa_cons (pv 7) (pa_cons (pv 4) (pa_cons (pv 5) pa_nil))))) (pg_sub (pv 2) pe_int set_list))
    (pss_one (ps_asg (pe_callB call_len_str (by rfl) T.z_len (by decide +kernel) (pa_cons (pe_ix (k_ix (K := K) (by rfl)) (pv 2) pe_int (fun _ _ => rfl)) pa_nil)) (pg_sub (pv 2) pe_int set_list)))))
    (pss_one (ps_if (pt_cmpR op_eq (pv 3) pe_int (nomark _))
    (pss_cons (ps_expr (pe_mcal0 (pv 1) T.cl_Disk MC_Disk_trim (hr.mono (by first | decide | omega))))
    (pss_cons (ps_asg (k_join (K := K) (by rfl) pe_str (pe_lc (own := [("_law_one", 8)]) (g := gName 8) (by rfl) sc__law_disk_deed.nd (k_pil (K := K) (by rfl) (pe_cal C__law_whole_lines (hr.mono (by first | decide | omega)) (by rfl) (pa_cons (pv 6) pa_nil))) (blkOk_by (own := [("_law_one", 8)]) (N := N__law_disk_deed) (sc := defScope s__law_disk_deed) (by decide +kernel)) (fun _ _ _ _ _ => pg_name (i := 8) sc__law_disk_deed.nd rfl (by first | exact Or.inl rfl | exact Or.inr rfl)) (fun _ _ _ _ _ => pts_nil) (fun _ _ _ _ _ => (pe_op op_add_str (pv 8) pe_str)))) (pg_sub (pv 2) pe_int set_list))
    (pss_one (ps_asg (pe_callB (c_min2 (by rfl)) (by rfl) T.z_min (by decide +kernel) (pa_cons (pe_callTy c_int (by rfl) T.z_int (by decide +kernel) (pa_cons (pv 7) pa_nil)) (pa_cons (pe_callB call_len_str (by rfl) T.z_len (by decide +kernel) (pa_cons (pe_ix (k_ix (K := K) (by rfl)) (pv 2) pe_int (fun _ _ => rfl)) pa_nil)) pa_nil))) (pg_sub (pv 2) pe_int set_list)))))
    (pss_cons (ps_expr (pe_mkcal0 (pv 1) T.cl_Disk KM_Disk_fall_0_ (hr.mono (by first | decide | omega)) pk_nil))
    (pss_cons (ps_asg (pe_slice sl_str (pv 6) po_none (po_some (pv 7))) (pg_sub (pv 2) pe_int set_list))
    (pss_one (ps_asg (pe_callTy c_int (by rfl) T.z_int (by decide +kernel) (pa_cons (pv 7) pa_nil)) (pg_sub (pv 2) pe_int set_list))))))))))))))), ?_⟩
    try simp only [cxK]
    clear C__law_draw C__law_of C__law_signs C__law_fallen C__law_whole_lines MC_Disk_write MC_Disk_sync MC_Disk_trim KM_Disk_fall_0_torn_keep KM_Disk_fall_1_ KM_Disk_fall_0_torn KM_Disk_fall_0_ F T
    rw [show L2.start N__law_disk_deed [.ref a, .ref p, .ref st] = [some (.ref a), some (.ref p), some (.ref st), none, none, none, none, none, none] from rfl]
    obtain ⟨npa, npl, nsp, nsa, nsl⟩ := L.ne
    walk_at "go"
    refine g_drawB L.bag ⟨by omega, by omega⟩ fun rd H1 rda rdb B1 c1 => ?_
    have L1 := L.chg B1 c1
    have x1 : Chg3 a p st H H1 := Chg3.refl.a c1
    clear c1 B1
    walk_at "go"
    rename_i tl htl
    refine g_of (bag_new L1.bag htl) upd_same (ne_bag L1.bag htl) ⟨by show 1 ≤ 7; decide, by show 7 ≤ 1000000; decide⟩ fun xm H2 hxm B2 c2 => ?_
    have hm : ∃ m : Nat, xm = .int m := by
      simp only [List.mem_cons, List.mem_nil_iff, or_false] at hxm
      rcases hxm with rfl | rfl | rfl | rfl | rfl | rfl | rfl
      · exact ⟨0, rfl⟩
      · exact ⟨1, rfl⟩
      · exact ⟨2, rfl⟩
      · exact ⟨0, rfl⟩
      · exact ⟨1, rfl⟩
      · exact ⟨7, rfl⟩
      · exact ⟨999999999, rfl⟩
    obtain ⟨m, rfl⟩ := hm
    have L2 := (L1.sm (same_new htl)).chg B2 c2
    have x2 := (x1.sm (same_new htl)).a c2
    clear hxm c2 B2 htl x1 L1
    walk_at "go"
    refine g_drawB L2.bag ⟨by omega, by omega⟩ fun rr H3 rra rrb B3 c3 => ?_
    have L3 := L2.chg B3 c3
    have x3 := x2.a c3
    obtain ⟨r, rfl⟩ : ∃ r : Nat, rr = (r : Int) := ⟨rr.toNat, by omega⟩
    clear c3 B3 x2 L2
    have es := L3.st
    obtain ⟨dx, hp⟩ := L3.dk
    walk_at "go"
    refine g_iteD (fun h1 => ?_) (fun h1 => ?_)
    · walk_at "go"
      refine g_signs L3.bag ⟨by decide, by decide⟩ fun ls H4 ll B4 c4 => ?_
      have L4 := L3.chg B4 c4
      have x4 := x3.a c4
      clear hp es
      obtain ⟨dx, hp⟩ := L4.dk
      walk_at "go"
      refine ⟨p, cs, ls, n, rfl, L4.dk, by omega, fun H5 d5 c5 => ?_⟩
      have es := c5 _ _ nsp L4.st
      walk_at "go"
      refine ⟨_, _, rfl, rfl, sz_ok (by rw [sOf_len, sOf_len]; omega), ?_⟩
      rw [sOf_app]
      walk_at "go"
      refine ⟨_, _, rfl, rfl, sz_ok (by rw [sOf_len, List.length_append]; have : (Str.ofString "\n").length = 1 := rfl; omega), ?_⟩
      rw [show Str.ofString "\n" = sOf [10] from rfl, sOf_app]
      walk_at "go"
      refine q _ _ _ (.fin (bag_p L4.bag npa npl c5) d5 nsp nsa nsl (by have := L.le; rw [List.length_append, List.length_append]; omega) ?_) (by rw [List.length_append, List.length_append]; simp; omega) (x4.p c5).st
      rw [List.drop_append_of_le_length (by have := L.le; rw [List.length_append]; omega)]
      exact nl_snoc _
    · walk_at "go"
      refine g_iteD (fun h2 => ?_) (fun h2 => ?_)
      · walk_at "go"
        refine ⟨p, cs, n, rfl, L3.dk, by omega, fun H5 d5 c5 => ?_⟩
        have es := c5 _ _ nsp L3.st
        walk_at "go"
        refine ⟨_, rfl, sz_ok (by rw [sOf_len]; omega), ?_⟩
        rw [sOf_len]
        walk_at "go"
        refine q _ _ _ (.fin (bag_p L3.bag npa npl c5) d5 nsp nsa nsl (Nat.le_refl _) (by rw [List.drop_length]; rfl)) (by omega) (x3.p c5).st
      · walk_at "go"
        refine g_iteD (fun h3 => ?_) (fun h3 => ?_)
        · have nl := L3.nl
          have le := L3.le
          refine g_cut (fun σ' H' => ∃ (m' r' : Nat), σ' = [some (.ref a), some (.ref p), some (.ref st), some (.int rd), some (.int m'), some (.int r'), some (.str (sOf cs)), some (.int n), none] ∧
            Dk K H' p (cs.take n ++ fallP (cs.drop n) m' r') (cs.take n ++ fallP (cs.drop n) m' r').length ∧ Chg p H3 H') ?_ ?_
          · walk_at "go"
            refine g_iteD (fun h4 => ?_) (fun h4 => ?_)
            · walk_at "go"
              refine ⟨p, cs, n, m, r, rfl, L3.dk, le, by omega, fun H5 d5 c5 => ?_⟩
              walk_at "go"
              exact ⟨m, r, rfl, d5, c5⟩
            · walk_at "go"
              refine g_iteD (fun h5 => ?_) (fun h5 => ?_)
              · walk_at "go"
                refine ⟨p, cs, n, m, 0, rfl, L3.dk, le, by omega, fun H5 d5 c5 => ?_⟩
                walk_at "go"
                exact ⟨m, 0, rfl, d5, c5⟩
              · walk_at "go"
                refine ⟨p, cs, n, 0, r, rfl, L3.dk, le, by omega, fun H5 d5 c5 => ?_⟩
                walk_at "go"
                exact ⟨0, r, rfl, d5, c5⟩
          · rintro σ' H5 ⟨m', r', rfl, d5, c5⟩
            rw [fall_eq _ _ _ nl] at d5
            have es := c5 _ _ nsp L3.st
            have fl := fallF_len (cs.drop n) m' r'
            rw [List.length_drop] at fl
            have tk : (cs.take n).length = n := by rw [List.length_take]; omega
            walk_at "go"
            refine ⟨cs, n, m', r', rfl, by omega, ?_⟩
            walk_at "go"
            refine ⟨_, rfl, sz_ok (by rw [sOf_len, List.length_append]; omega), ?_⟩
            rw [sOf_len]
            walk_at "go"
            rw [upd_upd]
            refine q _ _ _ (.fin (bag_p L3.bag npa npl c5) d5 nsp nsa nsl (Nat.le_refl _) (by rw [List.drop_length]; rfl)) (by rw [List.length_append]; omega) (x3.p c5).st
        · walk_at "go"
          refine g_iteD (fun h4 => ?_) (fun h4 => ?_)
          · walk_at "go"
            refine ⟨p, cs, n, rfl, L3.dk, by omega, fun H5 d5 c5 => ?_⟩
            have es := c5 _ _ nsp L3.st
            walk_at "go"
            refine g_whole (by omega) fun q1 H6 f6 s6 e6 => ?_
            walk_at "go"
            have wl := whole_len cs
            refine lcMap (S := whole cs) (g0 := fun z => V.str (sOf z)) (f := fun z => V.str (sOf (z ++ [10]))) (σ0 := [some (.ref a), some (.ref p), some (.ref st), some (.int rd), some (.int m), some (.int r), some (.str (sOf cs)), some (.int n), none]) rfl (.of e6) (by omega) ?_ ?_
            · intro D acc z N hD hz hy
              have zl := whole_mem hz
              walk_at "go"
              refine ⟨_, _, rfl, rfl, sz_ok (by rw [sOf_len]; have : (Str.ofString "\n").length = 1 := rfl; omega), ?_⟩
              rw [show Str.ofString "\n" = sOf [10] from rfl, sOf_app]
              exact hy
            intro D hD
            have hk := kp_le cs
            have em : (((whole cs).map (· ++ [10])).map sOf).map V.str = (whole cs).map fun z => V.str (sOf (z ++ [10])) := by rw [List.map_map, List.map_map]; rfl
            have es2 : ((((whole cs).map (· ++ [10])).map sOf).map (fun x => x.length)).sum = kp cs := by
              rw [List.map_map, show ((fun x : Str => x.length) ∘ sOf) = List.length from funext fun z => sOf_len z, ← List.length_flatten, trim_kp, List.length_take]
              omega
            refine ⟨_, D, ((whole cs).map (· ++ [10])).map sOf, rfl, rfl, .inl (.of (by rw [em]; exact upd_same)), ?_, ?_⟩
            · rw [es2, show (Str.ofString "").length = 0 from rfl, Nat.mul_zero]
              omega
            rw [show Str.ofString "" = sOf [] from rfl, join_e, trim_kp]
            have es7 : (upd H6 D (.lst ((whole cs).map fun z => V.str (sOf (z ++ [10]))))) st = some (.lst [.str (sOf cs), .int n]) := h_ne (ne_of_none (s6 _ _ es) hD) (s6 _ _ es)
            have s7 : Same H5 (upd H6 D (.lst ((whole cs).map fun z => V.str (sOf (z ++ [10]))))) := s6.trans (same_new hD)
            generalize upd H6 D (.lst ((whole cs).map fun z => V.str (sOf (z ++ [10])))) = H7 at es7 s7 ⊢
            clear es e6 s6 hD f6
            walk_at "go"
            refine ⟨_, rfl, sz_ok (by rw [sOf_len, List.length_take]; omega), ?_⟩
            walk_at "go"
            have e1 : (if ((sOf (cs.take (kp cs))).length : Int) < (n : Int) then ((sOf (cs.take (kp cs))).length : Int) else (n : Int)) = ((min n (kp cs) : Nat) : Int) := by
              rw [sOf_len, List.length_take]
              split <;> omega
            rw [e1, upd_upd]
            refine q _ _ _ (.fin (bag_sm (bag_p L3.bag npa npl c5) s7) (d5.sm s7) nsp nsa nsl (by rw [List.length_take]; omega) (nl_drop (nl_take cs) _)) (by rw [List.length_take]; omega) ((x3.p c5).sm s7).st
          · have nl := L3.nl
            have le := L3.le
            walk_at "go"
            refine ⟨p, cs, n, 0, 0, rfl, L3.dk, le, by omega, fun H5 d5 c5 => ?_⟩
            rw [fall_none, List.append_nil] at d5
            have es := c5 _ _ nsp L3.st
            have tk : (cs.take n).length = n := by rw [List.length_take]; omega
            walk_at "go"
            refine g_slS (sz_ok (by rw [sOf_len]; omega)) ?_
            rw [cut_to]
            walk_at "go"
            rw [upd_upd]
            rw [tk] at d5
            refine q _ _ _ (.fin (bag_p L3.bag npa npl c5) d5 nsp nsa nsl (by omega) (by rw [List.drop_eq_nil_of_le (by omega)]; rfl)) (by omega) (x3.p c5).st
theorem c_deed (T : Top K mg) : Cal P w K mg base "_law_disk_deed" 5 P__law_disk_deed (spDeed K) := cal_mk T.f__law_disk_deed (ok_deed T) (fun F => F.bindsN fun _ _ _ _ _ _ us hl => match us, hl with | [_, _, _], _ => rfl)
end

set_option Elab.async false
set_option linter.all false
set_option maxRecDepth 100000
set_option maxHeartbeats 4000000
open PySem PySem.Spec L2


section
variable {P : Program} {w : World} {K : PySem.W.Frag} {mg : Str → Option Value} {base : Heap}
theorem Ls.other {H H' : Hp} {a l p st p2 st2 : Addr} {cs cs2 : List Nat} {n n2 : Nat} (h : Ls K H a l p st cs n) (h2 : Ls K H a l p2 st2 cs2 n2) (B : Bag H' a l) (c : Chg3 a p2 st2 H H') (np : p ≠ p2) (ns : st ≠ st2) : Ls K H' a l p st cs n := by
  obtain ⟨npa, _, _, nsa, _⟩ := h.ne
  obtain ⟨dx, hp⟩ := h.dk
  obtain ⟨dx2, hp2⟩ := h2.dk
  have e2 := h2.st
  have e1 := h.st
  have n1 : p ≠ st2 := fun z => by rw [z, e2] at hp; cases hp
  have n2 : st ≠ p2 := fun z => by rw [z, hp2] at e1; cases e1
  exact ⟨B, ⟨dx, c _ _ npa np n1 hp⟩, c _ _ nsa n2 ns e1, h.le, h.nl⟩
theorem Ls.ap {H H' : Hp} {a l p st x : Addr} {cs : List Nat} {n : Nat} (h : Ls K H a l p st cs n) (c : Chg x H H') (n1 : x ≠ a) (n2 : x ≠ l) (n3 : p ≠ x) (n4 : st ≠ x) : Ls K H' a l p st cs n :=
  ⟨bag_p h.bag n1 n2 c, h.dk.chg n3 c, c _ _ n4 h.st, h.le, h.nl⟩
def spLaw (K : PySem.W.Frag) : Sp := fun vs H Q _ => ∃ (a : Addr) (ns : List Int), vs = [.ref a] ∧ SqL K H a (ns.map V.int) ∧ ns.length ≤ 63 ∧ ∀ H', Q (.bl true) H'
theorem ok_law (T : Top K mg) {f : Addr} {fd : FuncData} (F : FnP K "law" s_law f fd) : FnOk P w K mg base CX0 8 f fd P_law (spLaw K) := by
  have cl_Disk := T.cl_Disk; have na_Disk__content := T.na_Disk__content; have na_Disk__synced := T.na_Disk__synced
  have C__law_bag := c_bag (P := P) (w := w) (base := base) T
  have C__law_draw := c_draw1 (P := P) (w := w) (base := base) T
  have C__law_start := c_start (P := P) (w := w) (base := base) T
  have C__law_disk_like := c_dkL (P := P) (w := w) (base := base) T
  have C__law_disk_deed := c_deed (P := P) (w := w) (base := base) T
  have KK_Disk_0_content := kk_Disk_0_content (P := P) (w := w) (base := base) T
  have KK_Disk_0_ := kk_Disk_0_ (P := P) (w := w) (base := base) T
  have KK_Disk_1_ := kk_Disk_1_ (P := P) (w := w) (base := base) T
  have KM_Disk_write_0_line := km_Disk_write_0_line (P := P) (w := w) (base := base) T
  have MC_Disk_write := mc_write (P := P) (w := w) (base := base) T
  have MC_Disk_sync := mc_sync (P := P) (w := w) (base := base) T
  have MC_Disk_trim := mc_trim (P := P) (w := w) (base := base) T
  have MC_Disk_lines := mc_lines (P := P) (w := w) (base := base) T
  have MC_Disk_twin := mc_twin (P := P) (w := w) (base := base) T
  have KM_Disk_fall_0_ := km_Disk_fall_0_ (P := P) (w := w) (base := base) T
  refine F.ok sc_law (fun vs H Q E h => ?_) (fun cdv A outer s H vs Q E hr h => ?_)
  · obtain ⟨a, ns, rfl, _⟩ := h
    rfl
  · obtain ⟨s0, ns, rfl, hS, hlen, q⟩ := h
    refine ⟨_, PSs.nox (pss_cons (ps_set (i := 1) sc_law.nd rfl (by first | exact Or.inl rfl | exact Or.inr rfl) (pe_cal C__law_bag (hr.mono (by first | decide | omega)) (by rfl) (pa_cons (pv 0) pa_nil)))
    (pss_cons (ps_set (i := 2) sc_law.nd rfl (by first | exact Or.inl rfl | exact Or.inr rfl) (pe_cal C__law_start (hr.mono (by first | decide | omega)) (by rfl) (pa_cons (pv 1) pa_nil)))
    (pss_cons (ps_par (i := 3) (j := 4) (by rfl) sc_law.nd rfl rfl (by decide) rfl rfl (pa_cons (pe_mkk0 T.g_Disk KK_Disk_0_content (hr.mono (by first | decide | omega)) (by rfl) (pk_cons (pv 2) pk_nil)) (pa_cons (pe_lst (pa_cons (pv 2) (pa_cons (pe_callB call_len_str (by rfl) T.z_len (by decide +kernel) (pa_cons (pv 2) pa_nil)) pa_nil))) pa_nil)) (by rfl))
    (pss_cons (ps_if (PW.pt (pw_or (pt_not (pt_val (pe_cal C__law_disk_like (hr.mono (by first | decide | omega)) (by rfl) (pa_cons (pe_mkk0 T.g_Disk KK_Disk_0_ (hr.mono (by first | decide | omega)) (by rfl) pk_nil) (pa_cons (pe_lst (pa_cons pe_str (pa_cons pe_int pa_nil))) pa_nil))))) (pw_or1 (pt_not (pt_val (pe_cal C__law_disk_like (hr.mono (by first | decide | omega)) (by rfl) (pa_cons (pv 3) (pa_cons (pv 4) pa_nil))))))))
    (pss_one (ps_ret pe_bl))
    pss_nil)
    (pss_cons (ps_if (pt_cmpR op_notN (pe_mkcal0 (pv 3) T.cl_Disk KM_Disk_write_0_line (hr.mono (by first | decide | omega)) (pk_cons pe_str pk_nil)) pe_non (nomark _))
    (pss_one (ps_ret pe_bl))
    pss_nil)
    (pss_cons (ps_asg (pe_op op_add_str (pv 2) pe_str) (pg_sub (pv 4) pe_int set_list))
    (pss_cons (ps_if (PW.pt (pw_or (pt_cmpR op_notN (pe_mcal0 (pv 3) T.cl_Disk MC_Disk_sync (hr.mono (by first | decide | omega))) pe_non (nomark _)) (pw_or (pt_cmpR op_notN (pe_mkcal0 (pv 3) T.cl_Disk KM_Disk_fall_0_ (hr.mono (by first | decide | omega)) pk_nil) pe_non (nomark _)) (pw_or1 (pt_cmpR op_notN (pe_mcal0 (pv 3) T.cl_Disk MC_Disk_trim (hr.mono (by first | decide | omega))) pe_non (nomark _))))))
    (pss_one (ps_ret pe_bl))
    pss_nil)
    (pss_cons (ps_set (i := 4) sc_law.nd rfl (by first | exact Or.inl rfl | exact Or.inr rfl) (pe_lst (pa_cons (pe_ix (k_ix (K := K) (by rfl)) (pv 4) pe_int (fun _ _ => rfl)) (pa_cons (pe_callB call_len_str (by rfl) T.z_len (by decide +kernel) (pa_cons (pe_ix (k_ix (K := K) (by rfl)) (pv 4) pe_int (fun _ _ => rfl)) pa_nil)) pa_nil))))
    (pss_cons (ps_for PassesOwn.never rfl (pi_range1 (by rfl) T.z_range (pa_cons (pe_op op_add pe_int (pe_cal C__law_draw (hr.mono (by first | decide | omega)) (by rfl) (pa_cons (pv 1) (pa_cons pe_int pa_nil)))) pa_nil)) (pg_name (i := 5) sc_law.nd rfl (by first | exact Or.inl rfl | exact Or.inr rfl))
    (pss_cons (ps_expr (pe_cal C__law_disk_deed (hr.mono (by first | decide | omega)) (by rfl) (pa_cons (pv 1) (pa_cons (pv 3) (pa_cons (pv 4) pa_nil)))))
    (pss_one (ps_if (PW.pt (pw_and (pt_cmpR op_gt (pe_cal C__law_draw (hr.mono (by first | decide | omega)) (by rfl) (pa_cons (pv 1) (pa_cons pe_int pa_nil))) pe_int (nomark _)) (pw_and1 (pt_not (pt_val (pe_cal C__law_disk_like (hr.mono (by first | decide | omega)) (by rfl) (pa_cons (pv 3) (pa_cons (pv 4) pa_nil))))))))
    (pss_one (ps_ret pe_bl))
    pss_nil))))
    (pss_cons (ps_expr (pe_bm PySem.F.plainAttrs_list PySem.F.slot_list_append PySem.F.type_list_append mt_append (pe_mcal0 (pv 3) T.cl_Disk MC_Disk_lines (hr.mono (by first | decide | omega))) (pa_cons pe_str pa_nil)))
    (pss_cons (ps_par (i := 6) (j := 7) (by rfl) sc_law.nd rfl rfl (by decide) rfl rfl (pa_cons (pe_mcal0 (pv 3) T.cl_Disk MC_Disk_twin (hr.mono (by first | decide | omega))) (pa_cons (pe_callTy (k_list (K := K) (by rfl)) (by rfl) T.z_list (by decide +kernel) (pa_cons (pv 4) pa_nil)) pa_nil)) (by rfl))
    (pss_cons (ps_for PassesOwn.never rfl (pi_range1 (by rfl) T.z_range (pa_cons pe_int pa_nil)) (pg_name (i := 5) sc_law.nd rfl (by first | exact Or.inl rfl | exact Or.inr rfl))
    (pss_cons (ps_expr (pe_cal C__law_disk_deed (hr.mono (by first | decide | omega)) (by rfl) (pa_cons (pv 1) (pa_cons (pv 6) (pa_cons (pv 7) pa_nil)))))
    (pss_cons (ps_expr (pe_cal C__law_disk_deed (hr.mono (by first | decide | omega)) (by rfl) (pa_cons (pv 1) (pa_cons (pv 3) (pa_cons (pv 4) pa_nil)))))
    (pss_one (ps_if (PW.pt (pw_or (pt_not (pt_val (pe_cal C__law_disk_like (hr.mono (by first | decide | omega)) (by rfl) (pa_cons (pv 6) (pa_cons (pv 7) pa_nil))))) (pw_or1 (pt_not (pt_val (pe_cal C__law_disk_like (hr.mono (by first | decide | omega)) (by rfl) (pa_cons (pv 3) (pa_cons (pv 4) pa_nil))))))))
    (pss_one (ps_ret pe_bl))
    pss_nil)))))
    (pss_cons (ps_set (i := 8) sc_law.nd rfl (by first | exact Or.inl rfl | exact Or.inr rfl) (pe_mkk T.g_Disk KK_Disk_1_ (hr.mono (by first | decide | omega)) (by rfl) (pa_cons (pe_ix (k_ix (K := K) (by rfl)) (pv 4) pe_int (fun _ _ => rfl)) pa_nil) pk_nil))
    (pss_cons (ps_expr (pe_mcal (pv 8) T.cl_Disk MC_Disk_write (hr.mono (by first | decide | omega)) (pa_cons pe_str pa_nil)))
    (pss_cons (ps_expr (pe_mkcal0 (pv 8) T.cl_Disk KM_Disk_fall_0_ (hr.mono (by first | decide | omega)) pk_nil))
    (pss_one (ps_ret (pe_and (pe_cal C__law_disk_like (hr.mono (by first | decide | omega)) (by rfl) (pa_cons (pv 8) (pa_cons (pe_lst (pa_cons (pe_ix (k_ix (K := K) (by rfl)) (pv 4) pe_int (fun _ _ => rfl)) (pa_cons (pe_callB call_len_str (by rfl) T.z_len (by decide +kernel) (pa_cons (pe_ix (k_ix (K := K) (by rfl)) (pv 4) pe_int (fun _ _ => rfl)) pa_nil)) pa_nil))) pa_nil))) (pe_one (pe_cal C__law_disk_like (hr.mono (by first | decide | omega)) (by rfl) (pa_cons (pv 3) (pa_cons (pv 4) pa_nil)))))))))))))))))))))), ?_⟩
    try simp only [cxK]
    clear C__law_bag C__law_draw C__law_start C__law_disk_like C__law_disk_deed KK_Disk_0_content KK_Disk_0_ KK_Disk_1_ KM_Disk_write_0_line MC_Disk_write MC_Disk_sync MC_Disk_trim MC_Disk_lines MC_Disk_twin KM_Disk_fall_0_ F T
    rw [show L2.start N_law [V.ref s0] = [some (.ref s0), none, none, none, none, none, none, none, none] from rfl]
    walk_at "go"
    refine ⟨s0, ns, rfl, hS, fun a l H1 B1 hp s1 => ?_⟩
    walk_at "go"
    refine ⟨a, l, rfl, B1, fun cs H2 hcs B2 c2 => ?_⟩
    walk_at "go"
    refine g_mkR (ws := [.str (sOf cs)]) rfl rfl (fun _ => rfl) fun p dx h1 h2 n12 => ⟨p, dx, cs, rfl, upd_same, by omega, rfl, ?_⟩
    rw [upd_upd]
    have sp1 : Same H2 (upd (upd H2 dx (.own p)) p (.ins (CD K) dx (dkF cs cs.length))) := fun b o e => by
      rw [upd_ne (ne_of_none e h1), upd_ne (ne_of_none e h2)]
      exact e
    have dk : Dk K (upd (upd H2 dx (.own p)) p (.ins (CD K) dx (dkF cs cs.length))) p cs cs.length := ⟨dx, upd_same⟩
    generalize upd (upd H2 dx (.own p)) p (.ins (CD K) dx (dkF cs cs.length)) = H3 at sp1 dk ⊢
    have B3 := bag_sm B2 sp1
    clear h1 h2 n12 sp1 B2 c2
    walk_at "go"
    refine ⟨_, rfl, sz_ok (by rw [sOf_len]; omega), ?_⟩
    rw [sOf_len]
    walk_at "go"
    rename_i st hst
    have L : Ls K (upd H3 st (.lst [.str (sOf cs), .int cs.length])) a l p st cs cs.length := ⟨bag_new B3 hst, dk.sm (same_new hst), upd_same, Nat.le_refl _, by rw [List.drop_length]; rfl⟩
    generalize upd H3 st (.lst [.str (sOf cs), .int cs.length]) = H4 at L ⊢
    clear hst B3 dk B1 hp s1 H1 H2 H3 dx
    refine g_mkR (ws := [.str (sOf [])]) rfl rfl (fun _ => rfl) fun p5 dx h1 h2 n12 => ⟨p5, dx, [], rfl, upd_same, by decide, rfl, ?_⟩
    rw [upd_upd]
    have sp1 : Same H4 (upd (upd H4 dx (.own p5)) p5 (.ins (CD K) dx (dkF [] ([] : List Nat).length))) := fun b o e => by
      rw [upd_ne (ne_of_none e h1), upd_ne (ne_of_none e h2)]
      exact e
    have dk : Dk K (upd (upd H4 dx (.own p5)) p5 (.ins (CD K) dx (dkF [] ([] : List Nat).length))) p5 [] 0 := ⟨dx, upd_same⟩
    generalize upd (upd H4 dx (.own p5)) p5 (.ins (CD K) dx (dkF [] ([] : List Nat).length)) = H5 at sp1 dk ⊢
    clear h1 h2 n12
    walk_at "go"
    rename_i s5 hs5
    refine g_dkL (cs := []) (n := 0) (dk.sm (same_new hs5)) upd_same (by decide) fun H6 s6 => ?_
    have L6 := L.sm ((sp1.trans (same_new hs5)).trans s6)
    clear sp1 dk hs5 s6 L H4 H5 p5 dx
    walk_at "go"
    refine g_dkL L6.dk L6.st (by omega) fun H7 s7 => ?_
    have L7 := L6.sm s7
    clear s7 L6 H6
    walk_at "go"
    obtain ⟨dx, hp⟩ := L7.dk
    obtain ⟨npa, npl, nsp, nsa, nsl⟩ := L7.ne
    walk_at "go"
    refine ⟨p, cs, [120, 32, 121], cs.length, rfl, L7.dk, by show cs.length + 3 ≤ 10000; omega, fun H8 d8 c8 => ?_⟩
    have es8 := c8 _ _ nsp L7.st
    have B8 := bag_p L7.bag npa npl c8
    clear L7 c8 H7 hp dx
    obtain ⟨dx, hp⟩ := id d8
    walk_at "go"
    refine ⟨rfl, ?_⟩
    walk_at "go"
    refine ⟨_, _, rfl, rfl, sz_ok (by rw [sOf_len]; have : (Str.ofString "x y\n").length = 4 := rfl; omega), ?_⟩
    rw [show Str.ofString "x y\n" = sOf ([120, 32, 121] ++ [10]) from rfl, sOf_app, ← List.append_assoc]
    have nlt := nl_snoc (cs ++ [120, 32, 121])
    have tlen : (cs ++ [120, 32, 121] ++ [10]).length = cs.length + 4 := by simp
    generalize cs ++ [120, 32, 121] ++ [10] = ts at nlt tlen d8 hp ⊢
    walk_at "go"
    have d9 : Dk K (upd H8 st (.lst [.str (sOf ts), .int cs.length])) p ts cs.length := ⟨dx, by rw [upd_ne (Ne.symm nsp)]; exact hp⟩
    have es9 : (upd H8 st (.lst [.str (sOf ts), .int cs.length])) st = some (.lst [.str (sOf ts), .int cs.length]) := upd_same
    have B9 := bag_chg (o := .lst [.str (sOf ts), .int cs.length]) B8 nsa nsl
    generalize upd H8 st (.lst [.str (sOf ts), .int cs.length]) = H9 at d9 es9 B9 ⊢
    clear es8 B8 d8 hp H8 dx
    refine ⟨p, ts, cs.length, rfl, d9, by omega, fun H10 d10 c10 => ?_⟩
    have es10 := c10 _ _ nsp es9
    have B10 := bag_p B9 npa npl c10
    clear es9 B9 d9 c10 H9
    obtain ⟨dx, hp⟩ := id d10
    walk_at "go"
    refine ⟨rfl, ?_⟩
    walk_at "go"
    refine ⟨p, ts, ts.length, 0, 0, rfl, d10, Nat.le_refl _, by omega, fun H11 d11 c11 => ?_⟩
    rw [fall_none, List.append_nil, List.take_length] at d11
    have es11 := c11 _ _ nsp es10
    have B11 := bag_p B10 npa npl c11
    clear es10 B10 d10 c11 hp H10 dx
    obtain ⟨dx, hp⟩ := id d11
    walk_at "go"
    refine ⟨rfl, ?_⟩
    walk_at "go"
    refine ⟨p, ts, ts.length, rfl, d11, by omega, fun H12 d12 c12 => ?_⟩
    have kpe : kp ts = ts.length := nlt
    rw [kpe, List.take_length, Nat.min_self] at d12
    have es12 := c12 _ _ nsp es11
    have B12 := bag_p B11 npa npl c12
    clear es11 B11 d11 c12 hp H11 dx
    walk_at "go"
    refine ⟨rfl, ?_⟩
    walk_at "go"
    refine ⟨_, rfl, sz_ok (by rw [sOf_len]; omega), ?_⟩
    rw [sOf_len]
    walk_at "go"
    rename_i st2 hst2
    have L : Ls K (upd H12 st2 (.lst [.str (sOf ts), .int ts.length])) a l p st2 ts ts.length := ⟨bag_new B12 hst2, d12.sm (same_new hst2), upd_same, Nat.le_refl _, by rw [List.drop_length]; rfl⟩
    have tl38 : ts.length ≤ 34 := by omega
    generalize upd H12 st2 (.lst [.str (sOf ts), .int ts.length]) = H13 at L ⊢
    generalize ts.length = n13 at L
    clear hst2 d12 B12 es12 kpe nlt tlen nsp nsa nsl st s5 H12
    refine g_drawB L.bag ⟨by omega, by omega⟩ fun r0 H14 r0a r0b B14 c14 => ?_
    have L14 := L.chg B14 c14
    obtain ⟨n, hn⟩ : ∃ n : Nat, 26 + r0 = (n : Int) := ⟨(26 + r0).toNat, by omega⟩
    have n56 : n ≤ 56 := by omega
    clear c14 B14 L H13
    walk_at "go"
    rw [hn]
    clear hn r0a r0b
    rw [Int.toNat_natCast]
    refine forR (n := n) ⟨fun i σ' H' => ∃ (v : Option V) (us : List Nat) (m : Nat), σ' = [some (.ref s0), some (.ref a), some (.str (sOf cs)), some (.ref p), some (.ref st2), v, none, none, none] ∧ Ls K H' a l p st2 us m ∧ us.length ≤ 40 + 7 * i, ⟨_, ts, n13, rfl, L14, by omega⟩, ?_, ?_⟩
    · rintro i σ' H' hi ⟨v, us, m, rfl, L15, ul⟩
      walk_at "go"
      refine g_deed L15 (by omega) fun us2 m2 H16 L16 ul2 c16 => ?_
      walk_at "go"
      refine g_drawB L16.bag ⟨by omega, by omega⟩ fun r1 H17 r1a r1b B17 c17 => ?_
      have L17 := L16.chg B17 c17
      walk_at "go"
      refine g_iteD (fun h => ?_) (fun h => ?_)
      · walk_at "go"
        refine g_dkL L17.dk L17.st (by omega) fun H18 s18 => ?_
        walk_at "go"
        exact ⟨_, us2, m2, rfl, L17.sm s18, by omega⟩
      · walk_at "go"
        exact ⟨_, us2, m2, rfl, L17, by omega⟩
    rintro σ' H' ⟨v, us, m, rfl, L15, ul⟩
    have ul4 : us.length ≤ 440 := by omega
    obtain ⟨dx, hp⟩ := L15.dk
    walk_at "go"
    have wl := whole_len us
    refine ⟨p, us, m, rfl, L15.dk, by omega, fun q1 H20 hq s20 e20 => ?_⟩
    walk_at "go"
    refine g_app e20 (by rw [List.length_map]; omega) ?_
    have s21 : Same H' (upd H20 q1 (.lst (((whole us).map fun z => V.str (sOf z)) ++ [.str (Str.ofString "x")]))) := fun b u e => by
      rw [upd_ne (ne_of_none e hq)]
      exact s20 _ _ e
    have L21 := L15.sm s21
    generalize upd H20 q1 (.lst (((whole us).map fun z => V.str (sOf z)) ++ [.str (Str.ofString "x")])) = H21 at L21 ⊢
    clear s21 e20 s20 hq L15 H20 hp dx H' wl L14 H14 tl38 n56
    obtain ⟨dx, hp⟩ := L21.dk
    have es := L21.st
    walk_at "go"
    refine ⟨p, us, m, rfl, L21.dk, by omega, fun p2 H22 hp2 s22 d22 => ?_⟩
    have es22 := s22 _ _ es
    walk_at "go"
    rename_i st3 hst3
    have np : p ≠ p2 := ne_of_none hp hp2
    have ns' : st2 ≠ st3 := ne_of_none es22 hst3
    have L23 := (L21.sm s22).sm (same_new (o := .lst [.str (sOf us), .int m]) hst3)
    have M23 : Ls K (upd H22 st3 (.lst [.str (sOf us), .int m])) a l p2 st3 us m := ⟨L23.bag, d22.sm (same_new hst3), upd_same, L21.le, L21.nl⟩
    generalize upd H22 st3 (.lst [.str (sOf us), .int m]) = H23 at L23 M23 ⊢
    clear hst3 es22 d22 s22 hp2 hp dx es L21 H21 H22
    refine forR (n := 4) ⟨fun i σ' H' => ∃ (v : Option V) (us2 : List Nat) (m2 : Nat) (ws : List Nat) (k : Nat), σ' = [some (.ref s0), some (.ref a), some (.str (sOf cs)), some (.ref p), some (.ref st2), v, some (.ref p2), some (.ref st3), none] ∧ Ls K H' a l p st2 us2 m2 ∧ Ls K H' a l p2 st3 ws k ∧ us2.length ≤ 440 + 7 * i ∧ ws.length ≤ 440 + 7 * i, ⟨_, us, m, us, m, rfl, L23, M23, by omega, by omega⟩, ?_, ?_⟩
    · rintro i σ' H' hi ⟨v2, us2, m2, ws, k, rfl, L30, M30, ul, wl⟩
      walk_at "go"
      refine g_deed M30 (by omega) fun ws2 k2 H31 M31 wl2 c31 => ?_
      have L31 := L30.other M30 M31.bag c31 np ns'
      walk_at "go"
      refine g_deed L31 (by omega) fun us3 m3 H32 L32 ul3 c32 => ?_
      have M32 := M31.other L31 L32.bag c32 (Ne.symm np) (Ne.symm ns')
      clear c31 c32 L31 M31 L30 M30
      walk_at "go"
      refine g_dkL M32.dk M32.st (by omega) fun H33 s33 => ?_
      have L33 := L32.sm s33
      have M33 := M32.sm s33
      walk_at "go"
      refine g_dkL L33.dk L33.st (by omega) fun H34 s34 => ?_
      walk_at "go"
      exact ⟨_, us3, m3, ws2, k2, rfl, L33.sm s34, M33.sm s34, by omega, by omega⟩
    rintro σ' H' ⟨v2, us2, m2, ws, k, rfl, L30, M30, ul, wl⟩
    have es := L30.st
    clear L23 M23 H23
    walk_at "go"
    refine g_mkR (ws := [.str (sOf us2)]) rfl rfl (fun _ => rfl) fun p8 dx h1 h2 n12 => ⟨p8, dx, us2, rfl, upd_same, by omega, rfl, ?_⟩
    rw [upd_upd]
    have sp1 : Same H' (upd (upd H' dx (.own p8)) p8 (.ins (CD K) dx (dkF us2 us2.length))) := fun b o e => by
      rw [upd_ne (ne_of_none e h1), upd_ne (ne_of_none e h2)]
      exact e
    have dk : Dk K (upd (upd H' dx (.own p8)) p8 (.ins (CD K) dx (dkF us2 us2.length))) p8 us2 us2.length := ⟨dx, upd_same⟩
    have L31 := L30.sm sp1
    have np8 : st2 ≠ p8 := ne_of_none es h1
    have pp8 : p ≠ p8 := by
      obtain ⟨dx, hp⟩ := L30.dk
      exact ne_of_none hp h1
    obtain ⟨npa8, npl8⟩ := bag_apart L30.bag h1
    generalize upd (upd H' dx (.own p8)) p8 (.ins (CD K) dx (dkF us2 us2.length)) = H31 at L31 dk ⊢
    clear h1 h2 n12 sp1 M30 es L30 H'
    obtain ⟨dx, hp⟩ := id dk
    walk_at "go"
    refine ⟨p8, us2, [], us2.length, rfl, dk, by show us2.length + 0 ≤ 10000; omega, fun H32 d32 c32 => ?_⟩
    have L32 := L31.ap c32 npa8 npl8 pp8 np8
    clear c32 L31 dk hp dx H31
    obtain ⟨dx, hp⟩ := id d32
    rw [List.append_nil] at d32
    walk_at "go"
    refine ⟨p8, us2 ++ [10], us2.length, 0, 0, rfl, d32, by simp, by simp; omega, fun H33 d33 c33 => ?_⟩
    rw [fall_none, List.append_nil, List.take_left] at d33
    have L33 := L32.ap c33 npa8 npl8 pp8 np8
    clear c33 L32 d32 hp dx H32
    have es := L33.st
    walk_at "go"
    refine ⟨_, rfl, sz_ok (by rw [sOf_len]; omega), ?_⟩
    rw [sOf_len]
    walk_at "go"
    rename_i s9 hs9
    refine g_dkL (d33.sm (same_new hs9)) upd_same (by omega) fun H34 s34 => ?_
    have L34 := (L33.sm (same_new hs9)).sm s34
    clear hs9 d33 s34 es L33 H33
    walk_at "go"
    refine g_dkL L34.dk L34.st (by omega) fun H35 s35 => ?_
    walk_at "go"
    exact q _
end

set_option Elab.async false
set_option linter.all false
set_option maxRecDepth 100000
set_option maxHeartbeats 4000000
open PySem PySem.Spec L2

def d__law_bag : He.DefD := ⟨("_law_bag", none), "_law_bag", "_law_bag", defArgs s__law_bag, defBody s__law_bag, defScope s__law_bag, [], []⟩
def d__law_draw : He.DefD := ⟨("_law_draw", none), "_law_draw", "_law_draw", defArgs s__law_draw, defBody s__law_draw, defScope s__law_draw, [], []⟩
def d__law_of : He.DefD := ⟨("_law_of", none), "_law_of", "_law_of", defArgs s__law_of, defBody s__law_of, defScope s__law_of, [], []⟩
def d__law_like : He.DefD := ⟨("_law_like", none), "_law_like", "_law_like", defArgs s__law_like, defBody s__law_like, defScope s__law_like, [], []⟩
def d__law_signs : He.DefD := ⟨("_law_signs", none), "_law_signs", "_law_signs", defArgs s__law_signs, defBody s__law_signs, defScope s__law_signs, [], []⟩
def d__law_start : He.DefD := ⟨("_law_start", none), "_law_start", "_law_start", defArgs s__law_start, defBody s__law_start, defScope s__law_start, [], []⟩
def d__law_fallen : He.DefD := ⟨("_law_fallen", none), "_law_fallen", "_law_fallen", defArgs s__law_fallen, defBody s__law_fallen, defScope s__law_fallen, [], []⟩
def d__law_whole_lines : He.DefD := ⟨("_law_whole_lines", none), "_law_whole_lines", "_law_whole_lines", defArgs s__law_whole_lines, defBody s__law_whole_lines, defScope s__law_whole_lines, [], []⟩
def d__law_disk_like : He.DefD := ⟨("_law_disk_like", none), "_law_disk_like", "_law_disk_like", defArgs s__law_disk_like, defBody s__law_disk_like, defScope s__law_disk_like, [], []⟩
def d__law_disk_deed : He.DefD := ⟨("_law_disk_deed", none), "_law_disk_deed", "_law_disk_deed", defArgs s__law_disk_deed, defBody s__law_disk_deed, defScope s__law_disk_deed, [], []⟩
def d_law : He.DefD := ⟨("law", none), "law", "law", defArgs s_law, defBody s_law, defScope s_law, [], []⟩
def d_Disk___init__ : He.DefD := ⟨("Disk", some "__init__"), "__init__", "Disk.__init__", defArgs s_Disk___init__, defBody s_Disk___init__, defScope s_Disk___init__, [.str ""], []⟩
def d_Disk_write : He.DefD := ⟨("Disk", some "write"), "write", "Disk.write", defArgs s_Disk_write, defBody s_Disk_write, defScope s_Disk_write, [], []⟩
def d_Disk_sync : He.DefD := ⟨("Disk", some "sync"), "sync", "Disk.sync", defArgs s_Disk_sync, defBody s_Disk_sync, defScope s_Disk_sync, [], []⟩
def d_Disk_fall : He.DefD := ⟨("Disk", some "fall"), "fall", "Disk.fall", defArgs s_Disk_fall, defBody s_Disk_fall, defScope s_Disk_fall, [.int 0, .int 0], []⟩
def d_Disk_trim : He.DefD := ⟨("Disk", some "trim"), "trim", "Disk.trim", defArgs s_Disk_trim, defBody s_Disk_trim, defScope s_Disk_trim, [], []⟩
def d_Disk_lines : He.DefD := ⟨("Disk", some "lines"), "lines", "Disk.lines", defArgs s_Disk_lines, defBody s_Disk_lines, defScope s_Disk_lines, [], []⟩
def d_Disk_twin : He.DefD := ⟨("Disk", some "twin"), "twin", "Disk.twin", defArgs s_Disk_twin, defBody s_Disk_twin, defScope s_Disk_twin, [], []⟩
def d_Disk___len__ : He.DefD := ⟨("Disk", some "__len__"), "__len__", "Disk.__len__", defArgs s_Disk___len__, defBody s_Disk___len__, defScope s_Disk___len__, [], []⟩
def d_Disk___bool__ : He.DefD := ⟨("Disk", some "__bool__"), "__bool__", "Disk.__bool__", defArgs s_Disk___bool__, defBody s_Disk___bool__, defScope s_Disk___bool__, [], []⟩
def d_Disk___repr__ : He.DefD := ⟨("Disk", some "__repr__"), "__repr__", "Disk.__repr__", defArgs s_Disk___repr__, defBody s_Disk___repr__, defScope s_Disk___repr__, [], []⟩
def p_Disk_content : PrpD := ⟨"Disk", "content", "content", "Disk.content", defArgs s_Disk_content, defBody s_Disk_content, defScope s_Disk_content⟩
def p_Disk_synced : PrpD := ⟨"Disk", "synced", "synced", "Disk.synced", defArgs s_Disk_synced, defBody s_Disk_synced, defScope s_Disk_synced⟩
def fnL : List He.DefD := [d__law_bag, d__law_draw, d__law_of, d__law_like, d__law_signs, d__law_start, d__law_fallen, d__law_whole_lines, d__law_disk_like, d__law_disk_deed, d_law, d_Disk___init__, d_Disk_write, d_Disk_sync, d_Disk_fall, d_Disk_trim, d_Disk_lines, d_Disk_twin, d_Disk___len__, d_Disk___bool__, d_Disk___repr__]
def prL : List PrpD := [p_Disk_content, p_Disk_synced]
def faL : List He.Fa := [.glo "_law_bag", .glo "_law_draw", .glo "_law_of", .glo "_law_like", .glo "_law_signs", .glo "_law_start", .glo "_law_fallen", .glo "_law_whole_lines", .glo "_law_disk_like", .glo "_law_disk_deed", .glo "law", .free "len", .free "min", .free "list", .free "int", .free "isinstance", .free "str", .free "tuple", .free "bool", .free "all", .free "zip", .free "range", .free "repr", .glo "Disk", .cls "Disk", .noat "Disk" "_content", .noat "Disk" "_synced", .mkr "Disk", .meth "Disk" "write", .meth "Disk" "sync", .meth "Disk" "fall", .meth "Disk" "trim", .meth "Disk" "lines", .meth "Disk" "twin", .meth "Disk" "__len__", .meth "Disk" "__bool__", .meth "Disk" "__repr__"]
abbrev rowR : PySem.W.OpenRow := PySem.W.OpenLaw.row PySem.Challenge.rw_answersalone_k24_whole_disks
abbrev hkR : PySem.W.Hook := hookP 6 faL fnL prL
def obR (s : PySem.W.SharedT) : AlP := obsPG 6 faL fnL prL (HandSHeadRun.getT s)
theorem obR_eq (s : PySem.W.SharedT) : obR s = hkR.obs s.abs := obsPG_eq (HandSHeadRun.getT_eq s)
abbrev looseR : List PySem.Str := ["Disk", "_law_bag", "_law_draw", "_law_of", "_law_like", "_law_signs", "_law_start", "_law_fallen", "_law_whole_lines", "_law_disk_like", "_law_disk_deed"]
theorem runR (w : World) : HandSHeadRun.RunEq rowR (PySem.W.view rowR.prog [13]) hkR obR 4000 looseR w := by
  intro os
  kernel_rfl
theorem factsR {P : Program} {w : World} {K : PySem.W.Frag} {h : Heap} {mg : Str → Option Value} {f : Addr} (X : K.In h) (G : h.Ns mainGlobals mg) (hfa : mg ("law" : Str) = some (.ref f)) (c : SaysP faL fnL prL K) :
    ∃ fd : FuncData, (∀ (s : Shared) (v : Value), BindsTo s fd ⟨[v], []⟩ [("_law_script", v)]) ∧ ∀ base : Heap, K.In base → base.Ns mainGlobals mg → FnOk P w K mg base CX0 8 f fd ["_law_script"] (spLaw K) := by
  obtain ⟨fd__law_bag, F__law_bag⟩ := c.d.def_ 0 (d := d__law_bag) rfl
  obtain ⟨fd__law_draw, F__law_draw⟩ := c.d.def_ 1 (d := d__law_draw) rfl
  obtain ⟨fd__law_of, F__law_of⟩ := c.d.def_ 2 (d := d__law_of) rfl
  obtain ⟨fd__law_like, F__law_like⟩ := c.d.def_ 3 (d := d__law_like) rfl
  obtain ⟨fd__law_signs, F__law_signs⟩ := c.d.def_ 4 (d := d__law_signs) rfl
  obtain ⟨fd__law_start, F__law_start⟩ := c.d.def_ 5 (d := d__law_start) rfl
  obtain ⟨fd__law_fallen, F__law_fallen⟩ := c.d.def_ 6 (d := d__law_fallen) rfl
  obtain ⟨fd__law_whole_lines, F__law_whole_lines⟩ := c.d.def_ 7 (d := d__law_whole_lines) rfl
  obtain ⟨fd__law_disk_like, F__law_disk_like⟩ := c.d.def_ 8 (d := d__law_disk_like) rfl
  obtain ⟨fd__law_disk_deed, F__law_disk_deed⟩ := c.d.def_ 9 (d := d__law_disk_deed) rfl
  obtain ⟨fd_law, F_law⟩ := c.d.def_ 10 (d := d_law) rfl
  obtain ⟨fd_Disk___init__, F_Disk___init__⟩ := c.d.def_ 11 (d := d_Disk___init__) rfl
  obtain ⟨fd_Disk_write, F_Disk_write⟩ := c.d.def_ 12 (d := d_Disk_write) rfl
  obtain ⟨fd_Disk_sync, F_Disk_sync⟩ := c.d.def_ 13 (d := d_Disk_sync) rfl
  obtain ⟨fd_Disk_fall, F_Disk_fall⟩ := c.d.def_ 14 (d := d_Disk_fall) rfl
  obtain ⟨fd_Disk_trim, F_Disk_trim⟩ := c.d.def_ 15 (d := d_Disk_trim) rfl
  obtain ⟨fd_Disk_lines, F_Disk_lines⟩ := c.d.def_ 16 (d := d_Disk_lines) rfl
  obtain ⟨fd_Disk_twin, F_Disk_twin⟩ := c.d.def_ 17 (d := d_Disk_twin) rfl
  obtain ⟨fd_Disk___len__, F_Disk___len__⟩ := c.d.def_ 18 (d := d_Disk___len__) rfl
  obtain ⟨fd_Disk___bool__, F_Disk___bool__⟩ := c.d.def_ 19 (d := d_Disk___bool__) rfl
  obtain ⟨fd_Disk___repr__, F_Disk___repr__⟩ := c.d.def_ 20 (d := d_Disk___repr__) rfl
  obtain ⟨R_Disk_content, fd_Disk_content, F_Disk_content⟩ := c.prp 0 (d := p_Disk_content) rfl
  obtain ⟨R_Disk_synced, fd_Disk_synced, F_Disk_synced⟩ := c.prp 1 (d := p_Disk_synced) rfl
  have T : Top K mg := ⟨⟨_, _, F__law_bag, He.glo_ok X G (c.d.fact 0 (f := .glo "_law_bag") rfl)⟩,
    ⟨_, _, F__law_draw, He.glo_ok X G (c.d.fact 1 (f := .glo "_law_draw") rfl)⟩,
    ⟨_, _, F__law_of, He.glo_ok X G (c.d.fact 2 (f := .glo "_law_of") rfl)⟩,
    ⟨_, _, F__law_like, He.glo_ok X G (c.d.fact 3 (f := .glo "_law_like") rfl)⟩,
    ⟨_, _, F__law_signs, He.glo_ok X G (c.d.fact 4 (f := .glo "_law_signs") rfl)⟩,
    ⟨_, _, F__law_start, He.glo_ok X G (c.d.fact 5 (f := .glo "_law_start") rfl)⟩,
    ⟨_, _, F__law_fallen, He.glo_ok X G (c.d.fact 6 (f := .glo "_law_fallen") rfl)⟩,
    ⟨_, _, F__law_whole_lines, He.glo_ok X G (c.d.fact 7 (f := .glo "_law_whole_lines") rfl)⟩,
    ⟨_, _, F__law_disk_like, He.glo_ok X G (c.d.fact 8 (f := .glo "_law_disk_like") rfl)⟩,
    ⟨_, _, F__law_disk_deed, He.glo_ok X G (c.d.fact 9 (f := .glo "_law_disk_deed") rfl)⟩,
    ⟨_, _, F_law, He.glo_ok X G (c.d.fact 10 (f := .glo "law") rfl)⟩,
    He.glo_ok X G (c.d.fact 23 (f := .glo "Disk") rfl),
    He.cls_ok (c.d.fact 24 (f := .cls "Disk") rfl),
    He.noat_ok (c.d.fact 25 (f := .noat "Disk" "_content") rfl),
    He.noat_ok (c.d.fact 26 (f := .noat "Disk" "_synced") rfl),
    He.mkr_ok (c.d.fact 27 (f := .mkr "Disk") rfl),
    ⟨_, F_Disk___init__⟩,
    ⟨_, _, _, R_Disk_content, F_Disk_content⟩,
    ⟨_, _, _, R_Disk_synced, F_Disk_synced⟩,
    He.meth_ok (c.d.fact 28 (f := .meth "Disk" "write") rfl),
    ⟨_, F_Disk_write⟩,
    He.meth_ok (c.d.fact 29 (f := .meth "Disk" "sync") rfl),
    ⟨_, F_Disk_sync⟩,
    He.meth_ok (c.d.fact 30 (f := .meth "Disk" "fall") rfl),
    ⟨_, F_Disk_fall⟩,
    He.meth_ok (c.d.fact 31 (f := .meth "Disk" "trim") rfl),
    ⟨_, F_Disk_trim⟩,
    He.meth_ok (c.d.fact 32 (f := .meth "Disk" "lines") rfl),
    ⟨_, F_Disk_lines⟩,
    He.meth_ok (c.d.fact 33 (f := .meth "Disk" "twin") rfl),
    ⟨_, F_Disk_twin⟩,
    He.meth_ok (c.d.fact 34 (f := .meth "Disk" "__len__") rfl),
    ⟨_, F_Disk___len__⟩,
    He.meth_ok (c.d.fact 35 (f := .meth "Disk" "__bool__") rfl),
    ⟨_, F_Disk___bool__⟩,
    He.meth_ok (c.d.fact 36 (f := .meth "Disk" "__repr__") rfl),
    ⟨_, F_Disk___repr__⟩,
    He.free_ok X G (c.d.fact 11 (f := .free "len") rfl),
    He.free_ok X G (c.d.fact 12 (f := .free "min") rfl),
    He.free_ok X G (c.d.fact 13 (f := .free "list") rfl),
    He.free_ok X G (c.d.fact 14 (f := .free "int") rfl),
    He.free_ok X G (c.d.fact 15 (f := .free "isinstance") rfl),
    He.free_ok X G (c.d.fact 16 (f := .free "str") rfl),
    He.free_ok X G (c.d.fact 17 (f := .free "tuple") rfl),
    He.free_ok X G (c.d.fact 18 (f := .free "bool") rfl),
    He.free_ok X G (c.d.fact 19 (f := .free "all") rfl),
    He.free_ok X G (c.d.fact 20 (f := .free "zip") rfl),
    He.free_ok X G (c.d.fact 21 (f := .free "range") rfl),
    He.free_ok X G (c.d.fact 22 (f := .free "repr") rfl)⟩
  have e := hfa.symm.trans (He.glo_ok X G (c.d.fact 10 (f := .glo "law") rfl))
  cases e
  have b := FunD.bindsA (ps := ["_law_script"]) F_law fun _ _ _ _ _ _ us hl => match us, hl with | [_], _ => rfl
  exact ⟨fd_law, fun s v => b s [v] rfl, fun base _ _ => ok_law T F_law⟩
end Q
open PySem PySem.W PySem.Calls PyProof.Rows
set_option maxRecDepth 100000 in
set_option maxHeartbeats 0 in
theorem PySem.Challenge.cw_answersalone_k24_whole_disks_holds : PySem.Challenge.rw_answersalone_k24_whole_disks.Holds := by
  w_on; o_law
  refine HandSHeadRun.head_any (r := OpenLaw.row PySem.Challenge.rw_answersalone_k24_whole_disks) (q := view (OpenLaw.row PySem.Challenge.rw_answersalone_k24_whole_disks).prog [13]) (H := Q.hkR) (ob := Q.obR) (M := 4000) (loose := Q.looseR)
    (d := HandSHeadRun.topDef (OpenLaw.row PySem.Challenge.rw_answersalone_k24_whole_disks).prog 13) (kwd := []) Q.obR_eq
    (by kernel_rfl) (fun s => by kernel_rfl) Q.runR (by kernel_rfl) (by kernel_rfl) (by kernel_rfl) (by rfl) (by first | assumption | decide +kernel) (by decide +kernel) ⟨rfl, rfl, rfl, rfl, rfl, by decide +kernel⟩ ?hw ?hc
  case hw => w_witness2
  case hc =>
    refine L2.walk_ofE (l := PySem.Challenge.rw_answersalone_k24_whole_disks) (n := 63) (k := 8) (x := "_law_script") (CX := L2.CX0) rfl (by decide) (by kernel_rfl) ⟨rfl, by decide, by decide⟩ ?F (fun _ _ _ _ z => z)
    intro w mg fa h Y G hmg0
    obtain ⟨K, KX, c⟩ := Y
    have hmg : mg ("law" : PySem.Str) = some (.ref fa) := by
      have e : (HandSHeadRun.topDef (OpenLaw.row PySem.Challenge.rw_answersalone_k24_whole_disks).prog 13).name = ("law" : PySem.Str) := by kernel_rfl
      rw [← e]
      exact hmg0
    obtain ⟨fd, hb, hF⟩ := Q.factsR (P := (PySem.Challenge.rw_answersalone_k24_whole_disks).prog) (w := w) KX G hmg c
    exact ⟨K, fd, Q.spLaw K, KX, hb, fun H a ns hl _ hS => ⟨a, ns, rfl, hS, hl, fun _ => rfl⟩, hF⟩
