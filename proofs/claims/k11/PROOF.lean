import PyProof.Rows.All
import Wide.All
import OpenK.AllK
import Wide.FinOn
import HandS.ForMost
import HandS.Exc
import HandS.Wide
import HandS.Walk
import PyProof.ListStr
import HandS.Strs
import HandS.IsInst
import HandS.ClsMeth
import HandS.Property
import HandS.StrMore
import HandS.Lambda
import HandS.Text
import HandS.Style
import HandS.ForSpec
import PyProof.ExcBaseAll.LookupError
import HandS.Defaults
import OpenK.KMeth
import OpenK.KOps
import HandS.CallLocal
import HandS.Star
import PyProof.StrLawsRepr
import HandS.DictComp
import HandS.EndTab
import KE.GoesEnum
import KE.GoesMore
import PyProof.StrOps2
import KE.KRevSl
import PyProof.FitsInt
import KE.KDictSum
import HandS.Conv
import PyProof.InstNe
import PyProof.Conv_bool
import PyProof.Rows.Range3
import PyProof.Rows.RegReprOcc
import PyProof.FactsAll.str_1
import PyProof.FactsAll.str_2
import PyProof.FactsAll.tuple_1
import PyProof.FactsAll.tuple_2
import PyProof.FactsAll.dict_1
import PyProof.FactsAll.dict_2
import PyProof.FactsAll.int_1
import PyProof.FactsAll.int_3
import PyProof.FactsAll.NoneType_1
import HandS.TupLe
import HandS.ExcOwn
import HandS.Zip
import KE.KStateDown
import HandS.Head0
import HandS.Head1
import HandS.Head2
import HandS.HeadHook1
import PySem.Challenge.RW_hymnplates_k11_whole_fonts_and_cases_equ
section
set_option Elab.async false
set_option linter.all false
set_option maxRecDepth 100000
set_option maxHeartbeats 2000000
namespace My
open PySem PySem.Spec PyProof.Rows L2

/-! ### heaps as letters: what a step makes of one -/
/-- H1 is H with a new object o at p -/
structure New (H : Hp) (p : Addr) (o : HO) (H1 : Hp) : Prop where
  free : H p = none
  here : H1 p = some o
  els : ∀ b, b ≠ p → H1 b = H b
/-- H1 is H with the object at p changed to o -/
structure Wr (H : Hp) (p : Addr) (o : HO) (H1 : Hp) : Prop where
  here : H1 p = some o
  els : ∀ b, b ≠ p → H1 b = H b
theorem New.mk' {H : Hp} {p : Addr} {o : HO} (h : H p = none) : New H p o (upd H p o) := ⟨h, upd_same, fun _ n => upd_ne n⟩
theorem Wr.mk' {H : Hp} {p : Addr} {o : HO} : Wr H p o (upd H p o) := ⟨upd_same, fun _ n => upd_ne n⟩
theorem New.same {H H1 : Hp} {p : Addr} {o : HO} (n : New H p o H1) : Same H H1 := fun b u e => by
  rw [n.els b (ne_of_none e n.free)]; exact e
/-- all that was tracked, but at p, is as it was -/
def But (p : Addr) (H H1 : Hp) : Prop := ∀ b o, b ≠ p → H b = some o → H1 b = some o
theorem But.refl {p : Addr} (H : Hp) : But p H H := fun _ _ _ h => h
theorem But.trans {p : Addr} {H H1 H2 : Hp} (a : But p H H1) (b : But p H1 H2) : But p H H2 := fun c o n h => b c o n (a c o n h)
theorem But.of {p : Addr} {H H1 : Hp} (a : Same H H1) : But p H H1 := fun c o _ h => a c o h
theorem Wr.but {H H1 : Hp} {p : Addr} {o : HO} (n : Wr H p o H1) : But p H H1 := fun b u hb e => by
  rw [n.els b hb]; exact e
/-- a change at a place that H0 did not track -/
theorem Same.wr {H0 H H1 : Hp} {p : Addr} {o : HO} (s : Same H0 H) (f : H0 p = none) (n : Wr H p o H1) : Same H0 H1 := fun b u e => by
  rw [n.els b (ne_of_none e f)]; exact s b u e
theorem But.wr {H0 H H1 : Hp} {p q : Addr} {o : HO} (s : But q H0 H) (f : H0 p = none) (n : Wr H p o H1) : But q H0 H1 := fun b u hb e => by
  rw [n.els b (ne_of_none e f)]; exact s b u hb e
theorem But.free {p b : Addr} {H H1 : Hp} (s : But p H H1) (hb : b ≠ p) (h : H1 b = none) : H b = none := by
  cases q : H b with
  | none => rfl
  | some o => rw [s b o hb q] at h; cases h
theorem But.seq {K : PySem.W.Frag} {H H' : Hp} {p a : Addr} {xs : List V} (e : But p H H') (hn : a ≠ p) (h : SqL K H a xs) : SqL K H' a xs := by
  rcases h with (h | ⟨o, h⟩) | h
  · exact .inl (.inl (e _ _ hn h))
  · exact .inl (.inr ⟨o, e _ _ hn h⟩)
  · exact .inr h

theorem _root_.L2.Same.tupl {K : PySem.W.Frag} {H H' : Hp} {a : Addr} {xs : List V} (e : Same H H') (h : SqT K H a xs) : SqT K H' a xs := by
  rcases h with (h | ⟨o, h⟩) | h
  · exact .inl (.inl (e _ _ h))
  · exact .inl (.inr ⟨o, e _ _ h⟩)
  · exact .inr h
/-! ### rules whose heaps are letters -/
section
variable {X : Cx}
theorem PE.weak {e : Expr} {t t' : TE} (h : PE X e t) (hw : ∀ σ H Q, t' σ H Q → t σ H Q) : PE X e t' := ⟨fun pins s σ H Q I q => h.run pins s σ H Q I (hw σ H Q q)⟩
/-- what follows may be weakened -/
def mcE (t : TE) : TE := fun σ H Q => ∃ R : VK, t σ H R ∧ ∀ v H', R v H' → Q v H'
def mcA (t : TA) : TA := fun σ H Q => ∃ R : List V → Hp → Prop, t σ H R ∧ ∀ v H', R v H' → Q v H'
theorem PE.mc {e : Expr} {t : TE} (h : PE X e t) : PE X e (mcE t) := ⟨fun pins s σ H Q I q => by
  obtain ⟨R, q1, q2⟩ := q
  exact thn (h.run pins s σ H R I q1) fun _ _ ⟨v, H', J, r, z⟩ => ⟨v, H', J, r, q2 _ _ z⟩⟩
theorem PA.mc {es : List Expr} {t : TA} (h : PA X es t) : PA X es (mcA t) := ⟨fun pos pins s σ H Q I q => by
  obtain ⟨R, q1, q2⟩ := q
  exact thn (h.run pos pins s σ H R I q1) fun _ _ ⟨v, H', J, r, z⟩ => ⟨v, H', J, r, q2 _ _ z⟩⟩
theorem OpR.weak {f : Value → Value → Sem Value} {r r' : R2} (h : OpR X f r) (hw : ∀ x y H Q, r' x y H Q → r x y H Q) : OpR X f r' := fun pins s σ H x y v u Q I rx ry q => h pins s σ H x y v u Q I rx ry (hw _ _ _ _ q)
theorem CallR.weak {f : Value} {r r' : List V → Hp → VK → Prop} (h : CallR X f r) (hw : ∀ xs H Q, r' xs H Q → r xs H Q) : CallR X f r' := fun pins s σ H xs us Q I rx q => h pins s σ H xs us Q I rx (hw _ _ _ q)
theorem MtM.weak {id : String} {r r' : V → List V → Hp → VK → Prop} (h : MtM X id r) (hw : ∀ x xs H Q, r' x xs H Q → r x xs H Q) : MtM X id r' := fun pins s σ H x xs v us Q I rx rv q => h pins s σ H x xs v us Q I rx rv (hw _ _ _ _ q)
theorem SlR.weak {r r' : V → Option Int → Option Int → Hp → VK → Prop} (h : SlR X r) (hw : ∀ x lo hi H Q, r' x lo hi H Q → r x lo hi H Q) : SlR X r' := fun pins s σ H x v vl vu lo hi sl Q I a b c d q => h pins s σ H x v vl vu lo hi sl Q I a b c d (hw _ _ _ _ _ q)

/-- [a, b] -/
def qLst (t : TA) : TE := fun σ H Q => t σ H fun xs H1 => xs.length ≤ sizeLine ∧ ∀ p H2, New H1 p (.lst xs) H2 → Q (.ref p) H2
/-- (a, b) -/
def qTup (t : TA) : TE := fun σ H Q => t σ H fun xs H1 => xs.length ≤ sizeLine ∧ ∀ p H2, New H1 p (.tup xs) H2 → Q (.ref p) H2
theorem pe_lst' {es : List Expr} {t : TA} {pos : Pos} (h : PA X es t) : PE X (.List es pos) (qLst t) :=
  PE.weak (pe_lst (PA.mc h)) fun σ H Q q => ⟨_, q, fun _ _ z => ⟨z.1, fun p hp => z.2 p _ (.mk' hp)⟩⟩
theorem pe_tup' {es : List Expr} {t : TA} {pos : Pos} {x1} (h : PA X es t) : PE X (.Tuple es x1 pos) (qTup t) :=
  PE.weak (pe_tup (PA.mc h)) fun σ H Q q => ⟨_, q, fun _ _ z => ⟨z.1, fun p hp => z.2 p _ (.mk' hp)⟩⟩
/-- list(xs) -/
def qListOf (K : PySem.W.Frag) : List V → Hp → VK → Prop := fun xs H Q => ∃ p ys, xs = [.ref p] ∧ (SqL K H p ys ∨ SqT K H p ys) ∧ ∀ l H', New H l (.lst ys) H' → Q (.ref l) H'
theorem call_listOf : CallR X (.type "list") (qListOf X.K) := CallR.weak call_list_of fun xs H Q q => by
  obtain ⟨p, ys, e, h, k⟩ := q
  exact ⟨p, ys, e, h, fun l hl => k l _ (.mk' hl)⟩
/-- tuple(xs), xs a list -/
def qTupOfL (K : PySem.W.Frag) : List V → Hp → VK → Prop := fun xs H Q => ∃ p ys, xs = [.ref p] ∧ SqL K H p ys ∧ ∀ l H', New H l (.tup ys) H' → Q (.ref l) H'
theorem call_tupOfL : CallR X (.type "tuple") (qTupOfL X.K) := CallR.weak call_tuple_of fun xs H Q q => by
  obtain ⟨p, ys, e, h, k⟩ := q
  exact ⟨p, ys, e, .inl ⟨h, fun l hl => k l _ (.mk' hl)⟩⟩
/-- xs[lo:hi] -/
def qSlL (K : PySem.W.Frag) : V → Option Int → Option Int → Hp → VK → Prop := fun x lo hi H Q => ∃ a xs, x = .ref a ∧ SqL K H a xs ∧ ∀ p H', New H p (.lst (cutV xs lo hi)) H' → Q (.ref p) H'
theorem sl_list' : SlR X (qSlL X.K) := SlR.weak sl_list fun x lo hi H Q q => by
  obtain ⟨a, xs, e, h, k⟩ := q
  exact ⟨a, xs, e, h, fun p hp => k p _ (.mk' hp)⟩
/-- xs + ys -/
def qCat : R2 := fun x y H Q => ∃ a b xs ys, x = .ref a ∧ y = .ref b ∧ H a = some (.lst xs) ∧ H b = some (.lst ys) ∧ xs.length + ys.length ≤ sizeLine ∧ ∀ p H', New H p (.lst (xs ++ ys)) H' → Q (.ref p) H'
theorem op_cat' : OpR X (binaryOp .Add) qCat := OpR.weak op_cat fun x y H Q q => by
  obtain ⟨a, b, xs, ys, e1, e2, h1, h2, hl, k⟩ := q
  exact ⟨a, b, xs, ys, e1, e2, h1, h2, hl, fun p hp => k p _ (.mk' hp)⟩
/-- xs.append(y), xs.pop(), xs.pop(i) -/
def qAppend : V → List V → Hp → VK → Prop := fun x vs H Q => ∃ l xs y, x = .ref l ∧ vs = [y] ∧ H l = some (.lst xs) ∧ xs.length < sizeLine ∧ ∀ H', Wr H l (.lst (xs ++ [y])) H' → Q .non H'
theorem mt_append' : MtM X "list.append" qAppend := MtM.weak mt_append fun x vs H Q q => by
  obtain ⟨l, xs, y, e1, e2, h, hl, k⟩ := q
  exact ⟨l, xs, y, e1, e2, h, hl, k _ .mk'⟩
def qPop : V → List V → Hp → VK → Prop := fun x vs H Q => ∃ l xs y, x = .ref l ∧ vs = [] ∧ H l = some (.lst xs) ∧ xs[xs.length - 1]? = some y ∧ ∀ H', Wr H l (.lst xs.dropLast) H' → Q y H'
theorem mt_pop' : MtM X "list.pop" qPop := MtM.weak mt_pop fun x vs H Q q => by
  obtain ⟨l, xs, y, e1, e2, h, hl, k⟩ := q
  exact ⟨l, xs, y, e1, e2, h, hl, k _ .mk'⟩
def qPopAt : V → List V → Hp → VK → Prop := fun x vs H Q => ∃ l xs y, ∃ i : Nat, x = .ref l ∧ vs = [.int i] ∧ H l = some (.lst xs) ∧ xs[i]? = some y ∧ xs.length < 2 ^ 62 ∧ ∀ H', Wr H l (.lst (xs.eraseIdx i)) H' → Q y H'
theorem mt_popAt' : MtM X "list.pop" qPopAt := MtM.weak mt_popAt fun x vs H Q q => by
  obtain ⟨l, xs, y, i, e1, e2, h, hy, hl, k⟩ := q
  have hi : i < xs.length := (List.getElem?_eq_some_iff.mp hy).1
  refine ⟨l, xs, i, i, y, e1, e2, h, by omega, by omega, ?_, hy, k _ .mk'⟩
  have e0 : ¬ ((i : Int) < 0) := by omega
  unfold seqIndex?
  simp only [if_neg e0]
  have e1 : (decide (0 ≤ (i : Int)) && decide ((i : Int) < (xs.length : Int))) = true := by
    rw [Bool.and_eq_true, decide_eq_true_eq, decide_eq_true_eq]
    omega
  rw [if_pos e1, Int.toNat_natCast]
/-- xs != [], xs a list of anything -/
def qNeNil (K : PySem.W.Frag) : R2 := fun x y H Q => ∃ a b xs, x = .ref a ∧ y = .ref b ∧ SqL K H a xs ∧ H b = some (.lst []) ∧ Q (.bl (!xs.isEmpty)) H
theorem op_neNil (hu : X.A.units < cLine) : OpR X (compareOp .NotEq) (qNeNil X.K) := by
  intro pins s σ H x y v u Q I rx ry h
  obtain ⟨a, b, xs, rfl, rfl, ha, hb, q⟩ := h
  cases rx
  cases ry
  obtain ⟨its, r1, p1, _⟩ := I.list ha
  obtain ⟨its2, r2, p2, _⟩ := I.list (SqL.of hb : SqL X.K H b [])
  have e2 : its2 = [] := by
    cases r2
    rfl
  subst e2
  cases r1 with
  | nil => exact SeqAt.RcNeAt.lists (e := fun _ => true) p1.isList p2.isList rfl hu (fun j h1 _ => absurd h1 (by simp)) X.prog X.w X.xe _ ⟨.bl _, H, I, rfl, q⟩
  | cons _ _ => exact SeqAt.RcNeAt.lists_lengths p1.isList p2.isList (by simp) hu X.prog X.w X.xe _ ⟨.bl _, H, I, rfl, q⟩
end
end My
end
section
set_option Elab.async false
set_option linter.all false
set_option maxRecDepth 100000
set_option maxHeartbeats 2000000
namespace My
open PySem PySem.Spec PyProof.Rows L2

/-! ### defs that are called where no repr is under way -/
structure FnG (P : Program) (w : World) (K : PySem.W.Frag) (mg : Str → Option Value) (base : Heap) (k : Nat) (f : Addr) (fd : FuncData) (ps : List Str) (sp : Sp) : Prop where
  size : ∀ vs H Q E, sp vs H Q E → vs.length = ps.length
  goes : ∀ (A : Around) (o : List Env) (s : Shared) (H : Hp) (args : Args) (us : List Value) (vs : List V) (Q : VK) (E : XK), A.guards = some [] → Room k A → Env0 P w K mg base A o s H → BindsTo s fd args (ps.zip us) → Vals vs us → sp vs H Q E →
    codeAny (model P w) A (.call (.ref f) args) (CR CX0 o P w H s Q E) s
section
variable {P : Program} {w : World} {K : PySem.W.Frag} {mg : Str → Option Value} {base : Heap}
theorem FnG.ofOk {k : Nat} {f : Addr} {fd : FuncData} {ps : List Str} {sp : Sp} (F : FnOk P w K mg base CX0 k f fd ps sp) : FnG P w K mg base k f fd ps sp :=
  ⟨F.len, fun A o s H args us vs Q E _ hr e b v q => F.run A o s H args us vs Q E hr e b v q⟩
theorem FnG.imp {k : Nat} {f : Addr} {fd : FuncData} {ps : List Str} {sp sp' : Sp} (F : FnG P w K mg base k f fd ps sp) (h : ∀ vs H Q E, sp' vs H Q E → sp vs H Q E) : FnG P w K mg base k f fd ps sp' :=
  ⟨fun vs H Q E q => F.size vs H Q E (h _ _ _ _ q), fun A o s H args us vs Q E g hr e b v q => F.goes A o s H args us vs Q E g hr e b v (h _ _ _ _ q)⟩
theorem guards_deeper {A : Around} {env : Env} (h : A.guards = some []) : (A.deeper env).guards = some [] := h
/-- a def by its body, where no repr is under way -/
theorem okG {x qual : Str} {st : Stmt} {f : Addr} {fd : FuncData} {N ps : List Str} {k : Nat} {sp : Sp} (F : Fun K x qual st f fd) (S : FnScope N ps (defScope st)) (size : ∀ vs H Q E, sp vs H Q E → vs.length = ps.length)
    (body : ∀ (cdv : Value) (A : Around) (o : List Env) (s : Shared) (H : Hp) (vs : List V) (Q : VK) (E : XK), (A.deeper (envOfC qual (defScope st) s.heap.objs.size f cdv)).guards = some [] → Room k (A.deeper (envOfC qual (defScope st) s.heap.objs.size f cdv)) → sp vs H Q E →
      ∃ t, PSs (cxOf CX0 P w K mg base N qual (defScope st) f cdv A o s H E).nox (defBody st) t ∧ t { nx := fun _ H' => Q .non H', rt := Q } (L2.start N vs) H) : FnG P w K mg base (k + 1) f fd ps sp := by
  obtain ⟨oc, od, kV, doc, pm, an, cdv, ct, osl, rfl, lk, hcd⟩ := F.ex
  constructor
  · exact size
  intro A o s H args us vs Q E g room e0 bd rel want
  have hlen := size _ _ _ _ want
  have kin := e0.mod.kin.keeps fun b ob z => (e0.bs b ob z).1
  have nolim := e0.mod.nolimit.keeps fun b ob z => (e0.bs b ob z).1
  have kinds : ∀ y ∈ ps.zip us, (defScope st).names.lookup y.1 = some .local ∨ ((defScope st).names.lookup y.1 = some .cell ∧ ((cellsFrom (s.heap.objs.size + 1) (defScope st).names []).lookup y.1).isSome = true) := by
    intro y hy
    obtain ⟨n, v⟩ := y
    cases S.par n (List.of_mem_zip hy).1 with
    | inl z => exact Or.inl z
    | inr z => exact Or.inr ⟨z, PySem.W.cellsFrom_some _ _ _ (Or.inl z)⟩
  apply codeAny_call_function room.depth (kin _ _ lk) rfl S.co S.gen rfl (PySem.W.codeRec_of kin hcd)
  apply bd
  apply wpAny_newFunctionEnv_cells S.kind kinds
  intro env henv s1 x
  subst henv
  constructor
  · exact nolim.keeps x.toInCall.keep
  apply codeAny_func
  obtain ⟨t, der, rd⟩ := body cdv A o s H vs Q E (guards_deeper g) (room.deeper _) want
  have J : Inv (cxOf CX0 P w K mg base N qual (defScope st) f cdv A o s H E) [] (L2.start N vs) H s1 := inv_start S room.hd e0 hlen rel x
  apply wpAny_mono (der.nox.run [] s1 (L2.start N vs) H _ J rd)
  · intro fl s' hs
    cases fl with
    | ret u =>
      obtain ⟨v, σ', H', J', rv, q⟩ := hs
      exact ⟨v, H', J'.os, J'.bare, J'.base, J'.hok, rv, q⟩
    | next =>
      obtain ⟨σ', H', J', q⟩ := hs
      exact ⟨V.non, H', J'.os, J'.bare, J'.base, J'.hok, rfl, q⟩
    | brk => exact hs.choose_spec.choose_spec.2.elim
    | cont => exact hs.choose_spec.choose_spec.2.elim
  · intro e s' hs
    exact hs
end
section
variable {X : Cx} {k : Nat} {f : Addr} {fd : FuncData} {ps : List Str} {sp : Sp} {dvs : List V} {ds : List Value} {E : XK} {x : Str} {p pos : Pos} {e : Expr} {es : List Expr} {t : TA}
/-- the callee runs, no repr under way -/
theorem runG {pins : List (Addr × Obj)} {σ : L2.St} {H : Hp} {s : Shared} {Q : VK} {us : List Value} {vs : List V} (F : FnG X.prog X.w X.K X.mg X.base k f fd ps sp) (g : X.A.guards = some []) (hr : Room k X.A) (hb : Binds X.K fd ps ds) (hd : Vals dvs ds)
    (I : Inv X pins σ H s) (r : Vals vs us) (h : sp (vs ++ dvs) H Q E) : wpAny (model X.prog X.w) X.A (call (.ref f) us) (EP X pins σ Q) X.xe s := by
  have rr := r.append hd
  have hl : (us ++ ds).length = ps.length := rr.length.symm.trans (F.size _ _ _ _ h)
  apply wpAny_call
  apply codeAny_mono (F.goes X.A X.stack s H ⟨us, []⟩ (us ++ ds) (vs ++ dvs) Q E g hr I.env0 (hb s us I.kIn hl) rr h)
  intro r' s' hq
  match r', hq with
  | .error _, hq => exact hq.elim
  | .ok (.ret _), hq => exact I.after hq
  | .ok .next, hq => exact hq.elim
  | .ok .brk, hq => exact hq.elim
  | .ok .cont, hq => exact hq.elim
/-- f(a, ..), no repr under way -/
theorem pe_callG (F : FnG X.prog X.w X.K X.mg X.base k f fd ps sp) (g : X.A.guards = some []) (hr : Room k X.A) (hg : Gl X x) (hm : X.mg x = some (.ref f)) (hk : PySem.W.keepIn X.K (.ref f) = true) (hb : Binds X.K fd ps ds) (hd : Vals dvs ds) (ha : PA X (e :: es) t)
    (hdb : (x == ("__debug__" : Str)) = false := by decide) (he : starEach (e :: es) X.env = (false, eval e X.env) :: starEach es X.env := by rfl) (hpl : (backTo pos (starEach es X.env)).any (·.1) = false := by rfl) : PE X (.Call (.Name x p) (e :: es) [] pos) (tCall sp dvs E t) := by
  constructor
  intro pins s σ H Q I h
  apply wpAny_Call_Name_kw
  apply ld_glob I hg hm _ hdb
  apply PySem.W.callWith_K (h₀ := X.base) I.ok.mod.kin hk _ he hpl
  apply thn (ha.run pos pins s σ H _ I h)
  intro us s1 hq
  obtain ⟨vs, H1, I1, r, q⟩ := hq
  exact ⟨I1.kIn, runG F g hr hb hd I1 r q⟩
end

/-! ### repr of data -/
section
variable {X : Cx}
/-- repr(x), no repr under way: data without dicts -/
def qRepr (K : PySem.W.Frag) : List V → Hp → VK → Prop := fun xs H Q => ∃ x d, xs = [x] ∧ Dp K H x d ∧ d.showable = true ∧ d.hasDict = false ∧ d.shown.length ≤ sizeLine ∧ d.depth ≤ 60 ∧ Q (.str d.shown) H
theorem call_repr (g : X.A.guards = some []) (hu : X.A.units + 64 < cLine) : CallR X (.builtin "repr") (qRepr X.K) := by
  intro pins s σ H xs us Q I r h
  obtain ⟨x, d, rfl, hd, h1, h2, h3, h4, q⟩ := h
  obtain ⟨u, rfl, rx⟩ := vals1 r
  obtain ⟨as, rd⟩ := Dp.reads I d x u hd rx
  have fin : ∀ (h' : Heap) (t : Tok) (tk : Nat), (∀ b o, s.heap.get? b = some o → h'.get? b = some o) → EP X pins σ Q (.str d.shown t) { s with heap := h', toks := tk } := by
    intro h' t tk hk
    exact ⟨.str d.shown, H, I.kept (t' := tk) hk, ⟨t, rfl⟩, q⟩
  cases hd with
  | non =>
    cases rx
    exact PySem.P.repr_of_none (fin _ _ _ fun _ _ z => z)
  | bl b =>
    cases rx
    exact PySem.P.repr_of_bool (fin _ _ _ fun _ _ z => z)
  | int i =>
    obtain ⟨t, rfl⟩ := rx
    exact PySem.P.repr_of_int (by simpa [PyData.showable] using h1) (fin _ _ _ fun _ _ z => z)
  | str z =>
    obtain ⟨t, rfl⟩ := rx
    exact PySem.P.repr_of_str (fin _ _ _ fun _ _ z => z) (by simpa only [PyData.shown] using h3)
  | lst a b =>
    cases rx
    exact repr_of_reads' rd h1 (PyData.noDict_hsm h2) g (by omega) (fun _ _ z => z) (fun h' t tk hk => fin h' t tk hk) h3
  | tup a b =>
    cases rx
    exact repr_of_reads' rd h1 (PyData.noDict_hsm h2) g (by omega) (fun _ _ z => z) (fun h' t tk hk => fin h' t tk hk) h3
end
end My
end
section
set_option Elab.async false
set_option linter.all false
set_option maxRecDepth 100000
set_option maxHeartbeats 2000000
namespace My
open PySem PySem.Spec PyProof.Rows L2
/-! ### the pen -/
abbrev penK (c : Addr) (u l : Int) : List (Key × V) := [(.inr "cells", .ref c), (.inr "used", .int u), (.inr "left", .int l)]
/-- the pen at p, its cells at c, drawn from at most n times -/
def PenAt (H : Hp) (p c : Addr) (n : Nat) : Prop := ∃ (cs : List Int) (u l : Int), H p = some (.dK (penK c u l)) ∧ H c = some (.lst (cs.map V.int)) ∧ 0 ≤ u ∧ u ≤ n ∧ cs.length ≤ 63
theorem penK_cells (c : Addr) (u l : Int) : valV (penK c u l) (Sum.inr "cells" : Key) = some (.ref c) := rfl
theorem penK_used (c : Addr) (u l : Int) : valV (penK c u l) (Sum.inr "used" : Key) = some (.int u) := rfl
theorem penK_left (c : Addr) (u l : Int) : valV (penK c u l) (Sum.inr "left" : Key) = some (.int l) := rfl
theorem penK_put_used (c : Addr) (u l z : Int) : putK (penK c u l) (Sum.inr "used" : Key) (.int z) = penK c z l := rfl
theorem penK_put_left (c : Addr) (u l z : Int) : putK (penK c u l) (Sum.inr "left" : Key) (.int z) = penK c u z := rfl
theorem dget_cells {H : Hp} {p c : Addr} {u l : Int} (h : H p = some (.dK (penK c u l))) : DGet H p (.str "cells") (some (.ref c)) := DGet.k (k := Sum.inr "cells") h
theorem dget_used {H : Hp} {p c : Addr} {u l : Int} (h : H p = some (.dK (penK c u l))) : DGet H p (.str "used") (some (.int u)) := DGet.k (k := Sum.inr "used") h
theorem dget_left {H : Hp} {p c : Addr} {u l : Int} (h : H p = some (.dK (penK c u l))) : DGet H p (.str "left") (some (.int l)) := DGet.k (k := Sum.inr "left") h
theorem dput_used {H : Hp} {p c : Addr} {u l z : Int} (h : H p = some (.dK (penK c u l))) : DPut H p (.str "used") (.int z) (upd H p (.dK (penK c z l))) := DPut.k (k := Sum.inr "used") h (by show 3 < sizeLine; decide)
theorem dput_left {H : Hp} {p c : Addr} {u l z : Int} (h : H p = some (.dK (penK c u l))) : DPut H p (.str "left") (.int z) (upd H p (.dK (penK c u z))) := DPut.k (k := Sum.inr "left") h (by show 3 < sizeLine; decide)
theorem PenAt.mono {H : Hp} {p c : Addr} {n m : Nat} (h : PenAt H p c n) (l : n ≤ m) : PenAt H p c m := by
  obtain ⟨cs, u, z, h1, h2, h3, h4, h5⟩ := h
  exact ⟨cs, u, z, h1, h2, h3, by omega, h5⟩
theorem PenAt.ne {H : Hp} {p c q : Addr} {n : Nat} (h : PenAt H p c n) (f : H q = none) : p ≠ q := by
  obtain ⟨cs, u, z, h1, _⟩ := h
  exact ne_of_none h1 f
theorem PenAt.neC {H : Hp} {p c q : Addr} {n : Nat} (h : PenAt H p c n) (f : H q = none) : c ≠ q := by
  obtain ⟨cs, u, z, _, h2, _⟩ := h
  exact ne_of_none h2 f
theorem PenAt.neL {H : Hp} {p c q : Addr} {n : Nat} {xs : List V} (h : PenAt H p c n) (f : H q = some (.lst xs)) : q ≠ p := by
  obtain ⟨cs, u, z, h1, _⟩ := h
  exact ne_of f h1 (by intro z; cases z)
theorem PenAt.neT {H : Hp} {p c q : Addr} {n : Nat} {xs : List V} (h : PenAt H p c n) (f : H q = some (.tup xs)) : q ≠ p := by
  obtain ⟨cs, u, z, h1, _⟩ := h
  exact ne_of f h1 (by intro z; cases z)
theorem PenAt.same {H H1 : Hp} {p c : Addr} {n : Nat} (s : Same H H1) (h : PenAt H p c n) : PenAt H1 p c n := by
  obtain ⟨cs, u, z, h1, h2, h3, h4, h5⟩ := h
  exact ⟨cs, u, z, s _ _ h1, s _ _ h2, h3, h4, h5⟩
theorem PenAt.els {H H1 : Hp} {p c q : Addr} {o : HO} {n : Nat} (w : Wr H q o H1) (hp : p ≠ q) (hc : c ≠ q) (h : PenAt H p c n) : PenAt H1 p c n := by
  obtain ⟨cs, u, z, h1, h2, h3, h4, h5⟩ := h
  exact ⟨cs, u, z, (w.els p hp).trans h1, (w.els c hc).trans h2, h3, h4, h5⟩
/-- what a def that draws leaves: the pen, drawn from at most m times; all else as it was -/
structure DrewP (H : Hp) (p c : Addr) (m : Nat) (H1 : Hp) : Prop where
  but : But p H H1
  pen : PenAt H1 p c m
theorem DrewP.trans {H H1 H2 : Hp} {p c : Addr} {m k : Nat} (a : DrewP H p c m H1) (b : DrewP H1 p c k H2) : DrewP H p c k H2 := ⟨a.but.trans b.but, b.pen⟩
theorem DrewP.new {H H1 H2 : Hp} {p c q : Addr} {o : HO} {m : Nat} (a : DrewP H p c m H1) (b : New H1 q o H2) : DrewP H p c m H2 := ⟨a.but.trans (.of b.same), a.pen.same b.same⟩
theorem DrewP.mono {H H1 : Hp} {p c : Addr} {m k : Nat} (a : DrewP H p c m H1) (h : m ≤ k) : DrewP H p c k H1 := ⟨a.but, a.pen.mono h⟩

theorem cutV_to (xs : List V) (n : Nat) : cutV xs none (some (n : Int)) = xs.take n := by
  unfold cutV
  rw [HT.sIx_none, HT.sIx_nat, List.drop_zero, Nat.sub_zero, ← List.take_eq_take_min]
theorem fmod_bounds (i : Int) {m : Int} (h : 0 < m) : 0 ≤ i.fmod m ∧ i.fmod m < m := ⟨Int.fmod_nonneg_of_pos i h, Int.fmod_lt_of_pos i h⟩
theorem cmul200 {i j : Int} (hi : -(2 ^ 200) < i ∧ i < 2 ^ 200) (hj : -(2 ^ 200) < j ∧ j < 2 ^ 200) : CMulW i j := wide_mul (a := 200) (b := 200) (by omega) (by omega) (by decide) (by decide) (by decide)
/-! ### promises of the helpers that draw -/
def sp_pen (K : PySem.W.Frag) : Sp := fun vs H Q _ => ∃ (a : Addr) (ns : List Int), vs = [.ref a] ∧ SqL K H a (ns.map V.int) ∧ ns.length ≤ 63 ∧ ∀ H' p c, Same H H' → H p = none → PenAt H' p c 0 → Q (.ref p) H'
/-- a number from 0 to m - 1, m at most sixty millions -/
def sp_draw : Sp := fun vs H Q _ => ∃ (p c : Addr) (m : Int) (n : Nat), vs = [.ref p, .int m] ∧ PenAt H p c n ∧ n < 2 ^ 60 ∧ 0 < m ∧ m ≤ 60000000 ∧ ∀ H' r, DrewP H p c (n + 1) H' → 0 ≤ r → r < m → Q (.int r) H'
end My
end
section
set_option Elab.async false
set_option linter.all false
set_option maxRecDepth 100000
set_option maxHeartbeats 2000000
namespace My
open PySem PySem.Spec PyProof.Rows L2
def topS (i : Nat) : Stmt := PySem.Challenge.pw_hymnplates_k11_whole_fonts_and_cases_equ.main.body.getD i (.Pass ⟨0, 0, 0, 0⟩)
abbrev s_pen : Stmt := topS 46
abbrev s_draw : Stmt := topS 47
section
variable {P : Program} {w : World} {K : PySem.W.Frag} {mg : Str → Option Value} {base : Heap}
theorem sc_pen : FnScope ["_law_script"] ["_law_script"] (defScope s_pen) := ⟨rfl, rfl, rfl, by decide +kernel, rfl, by decide +kernel, by decide +kernel⟩
theorem ok_pen {f : Addr} {fd : FuncData} (F : Fun K "_law_pen" "_law_pen" s_pen f fd) (Tlist : mg "list" = none) : FnOk P w K mg base CX0 1 f fd ["_law_script"] (sp_pen K) := by
  refine F.ok sc_pen (fun vs H Q E h => ?_) (fun cdv A outer s H vs Q E hr h => ?_)
  · obtain ⟨a, ns, rfl, _⟩ := h
    rfl
  · obtain ⟨a, ns, rfl, hS, hlen, k⟩ := h
    refine ⟨_, pss_one (ps_ret (pe_disp (pps_cons pe_str (pe_callTy call_listOf (by rfl) Tlist (by decide +kernel) (pa_cons (pe_slice sl_list' (pv 0) po_none (po_some pe_int)) pa_nil)) (pps_cons pe_str pe_int (pps_cons pe_str pe_int pps_nil))) (by rfl) (by rfl) (fun z => by cases z) (by decide))), ?_⟩
    intro p hp
    have n0 : New H p (.dK []) (upd H p (.dK [])) := .mk' hp
    generalize upd H p (HO.dK []) = H0 at n0 ⊢
    refine ⟨_, rfl, 63, rfl, a, _, rfl, n0.same.seq hS, fun q H1 n1 => ⟨q, _, rfl, .inl (SqL.of n1.here), fun l H2 n2 => ?_⟩⟩
    refine ⟨n2.same _ _ (n1.same _ _ n0.here), penK l 0 0, rfl, (by show 3 ≤ 15; omega), ?_⟩
    refine k _ p l ?_ hp ⟨ns.take 63, 0, 0, upd_same, ?_, Int.le_refl _, Int.le_refl _, ?_⟩
    · exact Same.wr ((n0.same.trans n1.same).trans n2.same) hp Wr.mk'
    · rw [upd_ne (ne_of_none (n1.same _ _ n0.here) n2.free).symm, n2.here]
      rw [show (63 : Int) = ((63 : Nat) : Int) from rfl, cutV_to, List.map_take]
    · rw [List.length_take]
      omega
theorem sc_draw : FnScope ["_law_pen_here", "_law_many", "_law_digit", "_law_used", "_law_cell", "_law_blend"] ["_law_pen_here", "_law_many"] (defScope s_draw) := ⟨rfl, rfl, rfl, by decide +kernel, rfl, by decide +kernel, by decide +kernel⟩
structure TDraw (mg : Str → Option Value) : Prop where
  int : mg "int" = none
  len : mg "len" = none
  abs : mg "abs" = none
theorem ok_draw {f : Addr} {fd : FuncData} (F : Fun K "_law_draw" "_law_draw" s_draw f fd) (T : TDraw mg) : FnOk P w K mg base CX0 1 f fd ["_law_pen_here", "_law_many"] sp_draw := by
  refine F.ok sc_draw (fun vs H Q E h => ?_) (fun cdv A outer s H vs Q E hr h => ?_)
  · obtain ⟨a, c, m, n, rfl, _⟩ := h
    rfl
  · obtain ⟨p, c, m, n, rfl, hP, hn, hm0, hm1, k⟩ := h
    have hu := hu_of hr
    refine ⟨_, pss_cons (ps_if (pt_cmpR op_gt (pe_dget hu (pv 0) pe_str (fun _ _ => rfl)) pe_int (nomark _))
        (pss_cons (ps_set (i := 2) sc_draw.nd rfl (Or.inl rfl) (pe_op op_modN (pe_callTy call_int1 (by rfl) T.int (by decide +kernel) (pa_cons (pe_dget hu (pv 0) pe_str (fun _ _ => rfl)) pa_nil)) (pv 1)))
        (pss_cons (ps_dput hu (pv 0) pe_str (pe_op op_fdivW (pe_dget hu (pv 0) pe_str (fun _ _ => rfl)) (pv 1)) rfl)
        (pss_one (ps_ret (pv 2))))) pss_nil)
      (pss_cons (ps_set (i := 3) sc_draw.nd rfl (Or.inl rfl) (pe_dget hu (pv 0) pe_str (fun _ _ => rfl)))
      (pss_cons (ps_dput hu (pv 0) pe_str (pe_op op_add (pv 3) pe_int) rfl)
      (pss_cons (ps_set (i := 4) sc_draw.nd rfl (Or.inl rfl) (pe_op op_add (pe_op op_mul pe_int (pv 3)) pe_int))
      (pss_cons (ps_if (pt_cmpR (op_neNil hr.units0) (pe_dget hu (pv 0) pe_str (fun _ _ => rfl)) (pe_lst' pa_nil) (nomark _))
        (pss_one (ps_set (i := 4) sc_draw.nd rfl (Or.inl rfl) (pe_ix ix_list (pe_dget hu (pv 0) pe_str (fun _ _ => rfl)) (pe_op op_modN (pe_callTy call_int1 (by rfl) T.int (by decide +kernel) (pa_cons (pv 3) pa_nil))
          (pe_callB call_len_seq (by rfl) T.len PySem.boot_len (pa_cons (pe_dget hu (pv 0) pe_str (fun _ _ => rfl)) pa_nil))) (fun _ _ => rfl)))) pss_nil)
      (pss_cons (ps_if (PW.pt (pw_and (pt_cmpR op_lt (pv 3) (pe_callB call_len_seq (by rfl) T.len PySem.boot_len (pa_cons (pe_dget hu (pv 0) pe_str (fun _ _ => rfl)) pa_nil)) (nomark _))
          (pw_and1 (pt_cmpR op_ge (pe_callB call_abs (by rfl) T.abs (by decide +kernel) (pa_cons (pv 4) pa_nil)) (pe_op op_pow pe_int pe_int) (nomark _)))))
        (pss_cons (ps_dput hu (pv 0) pe_str (pe_op op_fdivW (pe_op op_sub (pe_callB call_abs (by rfl) T.abs (by decide +kernel) (pa_cons (pv 4) pa_nil)) (pe_op op_pow pe_int pe_int)) (pv 1)) rfl)
        (pss_one (ps_ret (pe_op op_modN (pe_op op_sub (pe_callB call_abs (by rfl) T.abs (by decide +kernel) (pa_cons (pv 4) pa_nil)) (pe_op op_pow pe_int pe_int)) (pv 1))))) pss_nil)
      (pss_cons (ps_set (i := 5) sc_draw.nd rfl (Or.inl rfl) (pe_op op_add (pe_op op_mulW (pe_op op_modN (pe_callTy call_int1 (by rfl) T.int (by decide +kernel) (pa_cons (pv 4) pa_nil)) pe_int) pe_int) (pe_op op_mulW (pe_op op_mulW pe_int (pv 3)) (pv 3))))
      (pss_cons (ps_set (i := 5) sc_draw.nd rfl (Or.inl rfl) (pe_op op_modN (pe_callTy call_int1 (by rfl) T.int (by decide +kernel) (pa_cons (pe_op op_add (pe_op op_add (pv 5) (pe_op op_mulW pe_int (pv 3))) pe_int) pa_nil)) pe_int))
      (pss_cons (ps_set (i := 5) sc_draw.nd rfl (Or.inl rfl) (pe_op op_modN (pe_callTy call_int1 (by rfl) T.int (by decide +kernel) (pa_cons (pe_op op_add (pe_op op_add (pe_op op_add (pe_op op_mulW (pv 5) (pv 5)) (pe_op op_mulW pe_int (pv 5))) (pe_op op_mulW pe_int (pv 3))) pe_int) pa_nil)) pe_int))
      (pss_cons (ps_set (i := 5) sc_draw.nd rfl (Or.inl rfl) (pe_op op_fdivW (pe_op op_modN (pe_callTy call_int1 (by rfl) T.int (by decide +kernel) (pa_cons (pe_op op_mulW (pv 5) (pe_op op_add (pv 5) pe_int)) pa_nil)) pe_int) pe_int))
      (pss_cons (ps_if (pt_cmpR op_gt (pv 1) pe_int (nomark _)) (pss_one ps_never) pss_nil)
      (pss_one (ps_ret (pe_op op_modN (pe_callTy call_int1 (by rfl) T.int (by decide +kernel) (pa_cons (pv 5) pa_nil)) (pv 1)))))))))))))), ?_⟩
    obtain ⟨cs, u, l, h1, h2, hu0, hun, hc⟩ := hP
    have hdiv : CDivW 0 m := wide_div hm0 (b := 30) (by omega) (by decide) (by decide)
    refine ⟨_, rfl, p, _, rfl, dget_left h1, _, _, rfl, rfl, _, rfl, ite2 (fun hl => ?_) (fun hl => ?_)⟩
    · refine ⟨_, rfl, p, _, rfl, dget_left h1, .inl ⟨_, rfl, _, rfl, _, _, rfl, rfl, (by omega), ?_⟩⟩
      refine ⟨_, rfl, p, _, rfl, dget_left h1, _, rfl, _, _, rfl, rfl, hdiv, _, rfl, p, _, rfl, dput_left h1, ?_⟩
      refine ⟨_, rfl, k _ _ ⟨Wr.mk'.but, cs, u, _, upd_same, ?_, hu0, by omega, hc⟩ (fmod_bounds _ hm0).1 (fmod_bounds _ hm0).2⟩
      rw [upd_ne (ne_of h2 h1 (by intro z; cases z))]
      exact h2
    · refine ⟨_, rfl, p, _, rfl, dget_used h1, ?_⟩
      refine ⟨_, rfl, _, _, rfl, rfl, _, rfl, p, _, rfl, dput_used h1, ?_⟩
      have hpc : c ≠ p := ne_of h2 h1 (by intro z; cases z)
      have w1 : Wr H p (.dK (penK c (u + 1) l)) (upd H p (.dK (penK c (u + 1) l))) := .mk'
      generalize upd H p (HO.dK (penK c (u + 1) l)) = H1 at w1 ⊢
      have g2 : H1 c = some (.lst (cs.map V.int)) := (w1.els c hpc).trans h2
      have hu62 : 0 ≤ u ∧ u < 2 ^ 60 := ⟨hu0, by omega⟩
      refine ⟨_, rfl, _, _, rfl, rfl, .inl (by decide), _, _, rfl, rfl, ?_⟩
      refine ⟨_, rfl, p, _, rfl, dget_cells w1.here, by decide, fun q H2 n2 => ⟨c, q, _, rfl, rfl, SqL.of (n2.same _ _ g2), n2.here, _, rfl, ?_⟩⟩
      have i1 := n2.same _ _ w1.here
      have i2 := n2.same _ _ g2
      have hD : ∀ H3, Same H1 H3 → DrewP H p c (n + 1) H3 := fun H3 s3 => ⟨w1.but.trans (.of s3), cs, u + 1, l, s3 _ _ w1.here, s3 _ _ g2, by omega, by omega, hc⟩
      have sq : Same H1 H2 := n2.same
      have hcl : (cs.map V.int).length = cs.length := List.length_map _
      have hle : ∀ z : Int, 0 ≤ z.fmod m ∧ z.fmod m < m := fun z => fmod_bounds z hm0
      refine ite2 (fun hb => ?_) (fun hb => ?_)
      · have hpos : 0 < cs.length := by
          cases cs with
          | nil => simp at hb
          | cons _ _ => simp
        obtain ⟨h0, h9⟩ := fmod_bounds u (m := ((cs.map V.int).length : Int)) (by rw [hcl]; omega)
        obtain ⟨j, hj⟩ : ∃ j : Nat, u.fmod ((cs.map V.int).length : Int) = j := ⟨_, (Int.toNat_of_nonneg h0).symm⟩
        have hjl : j < cs.length := by rw [hj, hcl] at h9; omega
        refine ⟨_, rfl, p, _, rfl, dget_cells i1, _, rfl, .inl ⟨_, rfl, _, rfl, p, _, rfl, dget_cells i1, c, _, rfl, .inl (SqL.of i2), _, _, rfl, rfl, (by rw [hcl]; omega), c, _, _, V.int cs[j], rfl, rfl, SqL.of i2, ?_, ?_⟩⟩
        · rw [hj, atI_nat]
          simp [hjl]
        generalize cs[j] = cell
        clear hj h0 h9 hjl hpos
        revert cell
        intro cell
        have pw : CPow 10 18 := ⟨by decide, by decide, by decide⟩
        have last : ∀ (b : Int) (H3 : Hp), Same H1 H3 → True := fun _ _ _ => trivial
        refine ⟨_, rfl, _, rfl, p, _, rfl, dget_cells i1, c, _, rfl, .inl (SqL.of i2), _, _, rfl, rfl, _, rfl, ?_⟩
        refine ite2 (fun hlt => ?_) (fun hlt => ?_)
        · refine ⟨_, rfl, _, rfl, _, _, rfl, rfl, pw, _, _, rfl, rfl, _, rfl, ?_⟩
          refine ite2 (fun hge => ?_) (fun hge => ?_)
          · refine ⟨_, rfl, _, rfl, _, _, rfl, rfl, pw, _, _, rfl, rfl, _, rfl, _, _, rfl, rfl, hdiv, _, rfl, p, _, rfl, dput_left i1, ?_⟩
            refine ⟨_, rfl, _, rfl, _, _, rfl, rfl, pw, _, _, rfl, rfl, _, rfl, _, _, rfl, rfl, (by omega), ?_⟩
            refine k _ _ ⟨(hD _ sq).but.trans Wr.mk'.but, cs, u + 1, _, upd_same, ?_, by omega, by omega, hc⟩ (hle _).1 (hle _).2
            rw [upd_ne hpc]
            exact i2
          · refine ⟨_, rfl, .inl ⟨_, rfl, _, _, rfl, rfl, (show (4294967231 : Int) ≠ 0 by decide), _, _, rfl, rfl, ?_, _, rfl, _, _, rfl, rfl, ?_, _, rfl, _, _, rfl, rfl, ?_, _, _, rfl, rfl, ?_⟩⟩
            · have := fmod_bounds cell (m := 4294967231) (by decide)
              exact cmul200 (by omega) (by decide)
            · exact cmul200 (by decide) (by omega)
            · exact cmul200 (by omega) (by omega)
            dsimp only
            generalize cell.fmod 4294967231 * 1103515 + 30011 * u * u = b1
            refine ⟨_, rfl, _, rfl, _, _, rfl, rfl, ?_, _, _, rfl, rfl, _, _, rfl, rfl, .inl ⟨_, rfl, _, _, rfl, rfl, (by intro z; cases z), ?_⟩⟩
            · exact cmul200 (by decide) (by omega)
            obtain ⟨g1, g3⟩ := fmod_bounds (b1 + 178481 * u + 23) (m := 4294967197) (by decide)
            dsimp only
            generalize (b1 + 178481 * u + 23).fmod 4294967197 = b2 at g1 g3 ⊢
            refine ⟨_, rfl, _, rfl, _, _, rfl, rfl, ?_, _, rfl, _, _, rfl, rfl, ?_, _, _, rfl, rfl, _, rfl, _, _, rfl, rfl, ?_, _, _, rfl, rfl, _, _, rfl, rfl, .inl ⟨_, rfl, _, _, rfl, rfl, (by intro z; cases z), ?_⟩⟩
            · exact cmul200 (by omega) (by omega)
            · exact cmul200 (by decide) (by omega)
            · exact cmul200 (by decide) (by omega)
            obtain ⟨g4, g5⟩ := fmod_bounds (b2 * b2 + 16769023 * b2 + 5 * u + 7) (m := 4294967189) (by decide)
            dsimp only
            generalize (b2 * b2 + 16769023 * b2 + 5 * u + 7).fmod 4294967189 = b3 at g4 g5 ⊢
            refine ⟨_, rfl, _, rfl, _, _, rfl, rfl, _, _, rfl, rfl, ?_, .inl ⟨_, rfl, _, _, rfl, rfl, (by intro z; cases z), _, _, rfl, rfl, ?_, ?_⟩⟩
            · exact cmul200 (by omega) (by omega)
            · exact wide_div (by decide) (b := 30) (by decide) (by decide) (by decide)
            refine ⟨_, rfl, _, _, rfl, rfl, _, rfl, ?_⟩
            refine ite2 (fun hgt => absurd (of_decide_eq_true hgt) (by omega)) (fun _ => ?_)
            refine ⟨_, rfl, .inl ⟨_, rfl, _, rfl, _, _, rfl, rfl, (by omega), ?_⟩⟩
            exact k _ _ (hD _ sq) (hle _).1 (hle _).2
        · refine iteF ?_
          refine ⟨_, rfl, .inl ⟨_, rfl, _, _, rfl, rfl, (show (4294967231 : Int) ≠ 0 by decide), _, _, rfl, rfl, ?_, _, rfl, _, _, rfl, rfl, ?_, _, rfl, _, _, rfl, rfl, ?_, _, _, rfl, rfl, ?_⟩⟩
          · have := fmod_bounds cell (m := 4294967231) (by decide)
            exact cmul200 (by omega) (by decide)
          · exact cmul200 (by decide) (by omega)
          · exact cmul200 (by omega) (by omega)
          dsimp only
          generalize cell.fmod 4294967231 * 1103515 + 30011 * u * u = b1
          refine ⟨_, rfl, _, rfl, _, _, rfl, rfl, ?_, _, _, rfl, rfl, _, _, rfl, rfl, .inl ⟨_, rfl, _, _, rfl, rfl, (by intro z; cases z), ?_⟩⟩
          · exact cmul200 (by decide) (by omega)
          obtain ⟨g1, g3⟩ := fmod_bounds (b1 + 178481 * u + 23) (m := 4294967197) (by decide)
          dsimp only
          generalize (b1 + 178481 * u + 23).fmod 4294967197 = b2 at g1 g3 ⊢
          refine ⟨_, rfl, _, rfl, _, _, rfl, rfl, ?_, _, rfl, _, _, rfl, rfl, ?_, _, _, rfl, rfl, _, rfl, _, _, rfl, rfl, ?_, _, _, rfl, rfl, _, _, rfl, rfl, .inl ⟨_, rfl, _, _, rfl, rfl, (by intro z; cases z), ?_⟩⟩
          · exact cmul200 (by omega) (by omega)
          · exact cmul200 (by decide) (by omega)
          · exact cmul200 (by decide) (by omega)
          obtain ⟨g4, g5⟩ := fmod_bounds (b2 * b2 + 16769023 * b2 + 5 * u + 7) (m := 4294967189) (by decide)
          dsimp only
          generalize (b2 * b2 + 16769023 * b2 + 5 * u + 7).fmod 4294967189 = b3 at g4 g5 ⊢
          refine ⟨_, rfl, _, rfl, _, _, rfl, rfl, _, _, rfl, rfl, ?_, .inl ⟨_, rfl, _, _, rfl, rfl, (by intro z; cases z), _, _, rfl, rfl, ?_, ?_⟩⟩
          · exact cmul200 (by omega) (by omega)
          · exact wide_div (by decide) (b := 30) (by decide) (by decide) (by decide)
          refine ⟨_, rfl, _, _, rfl, rfl, _, rfl, ?_⟩
          refine ite2 (fun hgt => absurd (of_decide_eq_true hgt) (by omega)) (fun _ => ?_)
          refine ⟨_, rfl, .inl ⟨_, rfl, _, rfl, _, _, rfl, rfl, (by omega), ?_⟩⟩
          exact k _ _ (hD _ sq) (hle _).1 (hle _).2
      · dsimp only
        generalize 43 * u + 7 = cell
        revert cell
        intro cell
        have pw : CPow 10 18 := ⟨by decide, by decide, by decide⟩
        have last : ∀ (b : Int) (H3 : Hp), Same H1 H3 → True := fun _ _ _ => trivial
        refine ⟨_, rfl, _, rfl, p, _, rfl, dget_cells i1, c, _, rfl, .inl (SqL.of i2), _, _, rfl, rfl, _, rfl, ?_⟩
        refine ite2 (fun hlt => ?_) (fun hlt => ?_)
        · refine ⟨_, rfl, _, rfl, _, _, rfl, rfl, pw, _, _, rfl, rfl, _, rfl, ?_⟩
          refine ite2 (fun hge => ?_) (fun hge => ?_)
          · refine ⟨_, rfl, _, rfl, _, _, rfl, rfl, pw, _, _, rfl, rfl, _, rfl, _, _, rfl, rfl, hdiv, _, rfl, p, _, rfl, dput_left i1, ?_⟩
            refine ⟨_, rfl, _, rfl, _, _, rfl, rfl, pw, _, _, rfl, rfl, _, rfl, _, _, rfl, rfl, (by omega), ?_⟩
            refine k _ _ ⟨(hD _ sq).but.trans Wr.mk'.but, cs, u + 1, _, upd_same, ?_, by omega, by omega, hc⟩ (hle _).1 (hle _).2
            rw [upd_ne hpc]
            exact i2
          · refine ⟨_, rfl, .inl ⟨_, rfl, _, _, rfl, rfl, (show (4294967231 : Int) ≠ 0 by decide), _, _, rfl, rfl, ?_, _, rfl, _, _, rfl, rfl, ?_, _, rfl, _, _, rfl, rfl, ?_, _, _, rfl, rfl, ?_⟩⟩
            · have := fmod_bounds cell (m := 4294967231) (by decide)
              exact cmul200 (by omega) (by decide)
            · exact cmul200 (by decide) (by omega)
            · exact cmul200 (by omega) (by omega)
            dsimp only
            generalize cell.fmod 4294967231 * 1103515 + 30011 * u * u = b1
            refine ⟨_, rfl, _, rfl, _, _, rfl, rfl, ?_, _, _, rfl, rfl, _, _, rfl, rfl, .inl ⟨_, rfl, _, _, rfl, rfl, (by intro z; cases z), ?_⟩⟩
            · exact cmul200 (by decide) (by omega)
            obtain ⟨g1, g3⟩ := fmod_bounds (b1 + 178481 * u + 23) (m := 4294967197) (by decide)
            dsimp only
            generalize (b1 + 178481 * u + 23).fmod 4294967197 = b2 at g1 g3 ⊢
            refine ⟨_, rfl, _, rfl, _, _, rfl, rfl, ?_, _, rfl, _, _, rfl, rfl, ?_, _, _, rfl, rfl, _, rfl, _, _, rfl, rfl, ?_, _, _, rfl, rfl, _, _, rfl, rfl, .inl ⟨_, rfl, _, _, rfl, rfl, (by intro z; cases z), ?_⟩⟩
            · exact cmul200 (by omega) (by omega)
            · exact cmul200 (by decide) (by omega)
            · exact cmul200 (by decide) (by omega)
            obtain ⟨g4, g5⟩ := fmod_bounds (b2 * b2 + 16769023 * b2 + 5 * u + 7) (m := 4294967189) (by decide)
            dsimp only
            generalize (b2 * b2 + 16769023 * b2 + 5 * u + 7).fmod 4294967189 = b3 at g4 g5 ⊢
            refine ⟨_, rfl, _, rfl, _, _, rfl, rfl, _, _, rfl, rfl, ?_, .inl ⟨_, rfl, _, _, rfl, rfl, (by intro z; cases z), _, _, rfl, rfl, ?_, ?_⟩⟩
            · exact cmul200 (by omega) (by omega)
            · exact wide_div (by decide) (b := 30) (by decide) (by decide) (by decide)
            refine ⟨_, rfl, _, _, rfl, rfl, _, rfl, ?_⟩
            refine ite2 (fun hgt => absurd (of_decide_eq_true hgt) (by omega)) (fun _ => ?_)
            refine ⟨_, rfl, .inl ⟨_, rfl, _, rfl, _, _, rfl, rfl, (by omega), ?_⟩⟩
            exact k _ _ (hD _ sq) (hle _).1 (hle _).2
        · refine iteF ?_
          refine ⟨_, rfl, .inl ⟨_, rfl, _, _, rfl, rfl, (show (4294967231 : Int) ≠ 0 by decide), _, _, rfl, rfl, ?_, _, rfl, _, _, rfl, rfl, ?_, _, rfl, _, _, rfl, rfl, ?_, _, _, rfl, rfl, ?_⟩⟩
          · have := fmod_bounds cell (m := 4294967231) (by decide)
            exact cmul200 (by omega) (by decide)
          · exact cmul200 (by decide) (by omega)
          · exact cmul200 (by omega) (by omega)
          dsimp only
          generalize cell.fmod 4294967231 * 1103515 + 30011 * u * u = b1
          refine ⟨_, rfl, _, rfl, _, _, rfl, rfl, ?_, _, _, rfl, rfl, _, _, rfl, rfl, .inl ⟨_, rfl, _, _, rfl, rfl, (by intro z; cases z), ?_⟩⟩
          · exact cmul200 (by decide) (by omega)
          obtain ⟨g1, g3⟩ := fmod_bounds (b1 + 178481 * u + 23) (m := 4294967197) (by decide)
          dsimp only
          generalize (b1 + 178481 * u + 23).fmod 4294967197 = b2 at g1 g3 ⊢
          refine ⟨_, rfl, _, rfl, _, _, rfl, rfl, ?_, _, rfl, _, _, rfl, rfl, ?_, _, _, rfl, rfl, _, rfl, _, _, rfl, rfl, ?_, _, _, rfl, rfl, _, _, rfl, rfl, .inl ⟨_, rfl, _, _, rfl, rfl, (by intro z; cases z), ?_⟩⟩
          · exact cmul200 (by omega) (by omega)
          · exact cmul200 (by decide) (by omega)
          · exact cmul200 (by decide) (by omega)
          obtain ⟨g4, g5⟩ := fmod_bounds (b2 * b2 + 16769023 * b2 + 5 * u + 7) (m := 4294967189) (by decide)
          dsimp only
          generalize (b2 * b2 + 16769023 * b2 + 5 * u + 7).fmod 4294967189 = b3 at g4 g5 ⊢
          refine ⟨_, rfl, _, rfl, _, _, rfl, rfl, _, _, rfl, rfl, ?_, .inl ⟨_, rfl, _, _, rfl, rfl, (by intro z; cases z), _, _, rfl, rfl, ?_, ?_⟩⟩
          · exact cmul200 (by omega) (by omega)
          · exact wide_div (by decide) (b := 30) (by decide) (by decide) (by decide)
          refine ⟨_, rfl, _, _, rfl, rfl, _, rfl, ?_⟩
          refine ite2 (fun hgt => absurd (of_decide_eq_true hgt) (by omega)) (fun _ => ?_)
          refine ⟨_, rfl, .inl ⟨_, rfl, _, rfl, _, _, rfl, rfl, (by omega), ?_⟩⟩
          exact k _ _ (hD _ sq) (hle _).1 (hle _).2
end
end My
end
section
set_option Elab.async false
set_option linter.all false
set_option maxRecDepth 100000
set_option maxHeartbeats 2000000
namespace My
open PySem PySem.Spec PyProof.Rows L2
/-- the signs of a text, one text each -/
def signs (z : Str) : List V := z.cps.toList.map fun c => V.str ⟨#[c]⟩
theorem signs_len (z : Str) : (signs z).length = z.length := by
  unfold signs
  rw [List.length_map, Array.length_toList]
  rfl
/-- what is iterated over: a list, a tuple, a text -/
inductive SqA (K : PySem.W.Frag) (H : Hp) : V → List V → Prop
  | lst {a : Addr} {xs : List V} : SqL K H a xs → SqA K H (.ref a) xs
  | tup {a : Addr} {xs : List V} : SqT K H a xs → SqA K H (.ref a) xs
  | str {z : Str} : z.length ≤ sizeLine → SqA K H (.str z) (signs z)
theorem vals_signs {z : Str} {acc : Array Value} (h : ItemsOf (SignAt z) acc z.cps.size) : Vals (signs z) acc.toList := by
  obtain ⟨hs, hi⟩ := h
  have aux : ∀ (l : List Nat) (us : List Value), us.length = l.length → (∀ (j : Nat) (u : Value), us[j]? = some u → ∃ c t, l[j]? = some c ∧ u = Value.str ⟨#[c]⟩ t) → Vals (l.map fun c => V.str ⟨#[c]⟩) us := by
    intro l
    induction l with
    | nil =>
      intro us hl _
      cases us with
      | nil => exact .nil
      | cons _ _ => simp at hl
    | cons c l ih =>
      intro us hl hg
      cases us with
      | nil => simp at hl
      | cons u us =>
        obtain ⟨c', t, e1, e2⟩ := hg 0 u rfl
        have e3 : c = c' := by simpa using e1
        subst e3
        exact .cons ⟨t, e2⟩ (ih us (by simpa using hl) fun j v hj => hg (j + 1) v (by simpa using hj))
  refine aux z.cps.toList acc.toList (by simpa using hs) fun j u hj => ?_
  obtain ⟨c, t, e1, e2⟩ := hi j u (by simpa using hj)
  exact ⟨c, t, by simpa using e1, e2⟩
section
variable {X : Cx}
theorem CallR.or {f : Value} {r r' : List V → Hp → VK → Prop} (h : CallR X f r) (h' : CallR X f r') : CallR X f (fun xs H Q => r xs H Q ∨ r' xs H Q) := fun pins s σ H xs us Q I rx q =>
  q.elim (h pins s σ H xs us Q I rx) (h' pins s σ H xs us Q I rx)
/-- list(z), z a text -/
theorem call_listStr (hh : X.A.handled = none) : CallR X (.type "list") (fun xs H Q => ∃ z, xs = [.str z] ∧ z.length ≤ sizeLine ∧ ∀ l H', New H l (.lst (signs z)) H' → Q (.ref l) H') := by
  intro pins s σ H xs us Q I r h
  obtain ⟨z, rfl, hz, q⟩ := h
  obtain ⟨u, rfl, t, rfl⟩ := vals1 r
  refine call_list_str hh z t (fun h' tk acc' c' hk hS hacc => ?_) hz
  have hn := I.hok.fresh (Nat.le_refl s.heap.objs.size)
  exact ⟨.ref s.heap.objs.size, _, I.laid (t' := tk) hk (Nat.le_refl _) (show ObjOk X.prog X.w _ h' _ (.lst (signs z)) from ⟨by rw [signs_len]; exact hz, acc'.toList, c', vals_signs hacc, by simpa using hS⟩), rfl, q _ _ (.mk' hn)⟩
/-- list(x), x a list, a tuple or a text -/
def qListAny (K : PySem.W.Frag) : List V → Hp → VK → Prop := fun xs H Q => ∃ x ys, xs = [x] ∧ SqA K H x ys ∧ ∀ l H', New H l (.lst ys) H' → Q (.ref l) H'
theorem call_listAny (hh : X.A.handled = none) : CallR X (.type "list") (qListAny X.K) := CallR.weak (CallR.or call_listOf (call_listStr hh)) fun xs H Q q => by
  obtain ⟨x, ys, rfl, h, k⟩ := q
  cases h with
  | lst h => exact .inl ⟨_, ys, rfl, .inl h, k⟩
  | tup h => exact .inl ⟨_, ys, rfl, .inr h, k⟩
  | str h => exact .inr ⟨_, rfl, h, k⟩
end
theorem SqA.same {K : PySem.W.Frag} {H H1 : Hp} {x : V} {xs : List V} (s : Same H H1) (h : SqA K H x xs) : SqA K H1 x xs := by
  cases h with
  | lst h => exact .lst (s.seq h)
  | tup h => exact .tup (by
      rcases h with (h | ⟨o, h⟩) | h
      · exact .inl (.inl (s _ _ h))
      · exact .inl (.inr ⟨o, s _ _ h⟩)
      · exact .inr h)
  | str h => exact .str h
theorem perm_eraseIdx {α : Type} {l : List α} {j : Nat} (h : j < l.length) : (l[j] :: l.eraseIdx j).Perm l := by
  have e : l = l.take j ++ l[j] :: l.drop (j + 1) := by
    rw [List.getElem_cons_drop, List.take_append_drop]
  rw [List.eraseIdx_eq_take_drop_succ]
  exact List.perm_middle.symm.trans (.of_eq e.symm)
/-! ### promises -/
/-- one of the items of a list -/
def sp_pick (K : PySem.W.Frag) : Sp := fun vs H Q _ => ∃ (p c a : Addr) (xs : List V) (n : Nat), vs = [.ref p, .ref a] ∧ PenAt H p c n ∧ n < 2 ^ 60 ∧ SqL K H a xs ∧ a ≠ p ∧ 0 < xs.length ∧ xs.length ≤ 1000000 ∧
  ∀ H' v, DrewP H p c (n + 1) H' → v ∈ xs → Q v H'
/-- the items in some order -/
def sp_shuf (K : PySem.W.Frag) : Sp := fun vs H Q _ => ∃ (p c : Addr) (x : V) (xs : List V) (n : Nat), vs = [.ref p, x] ∧ PenAt H p c n ∧ n + xs.length < 2 ^ 60 ∧ SqA K H x xs ∧ xs.length ≤ 1000000 ∧
  ∀ H' r ys, DrewP H p c (n + xs.length) H' → H r = none → H' r = some (.lst ys) → ys.Perm xs → Q (.ref r) H'
end My
end
section
set_option Elab.async false
set_option linter.all false
set_option maxRecDepth 100000
set_option maxHeartbeats 3200000
namespace My
open PySem PySem.Spec PyProof.Rows L2
/-! ### set(z), z a text -/
/-- each number once, at its first place -/
def once (l : List Nat) : List Nat := l.foldl (fun acc c => if c ∈ acc then acc else acc ++ [c]) []
theorem once_snoc (l : List Nat) (c : Nat) : once (l ++ [c]) = if c ∈ once l then once l else once l ++ [c] := by
  unfold once
  rw [List.foldl_append]
  rfl
theorem mem_once (l : List Nat) (c : Nat) : c ∈ once l ↔ c ∈ l := by
  have aux : ∀ (l acc : List Nat), c ∈ l.foldl (fun acc c => if c ∈ acc then acc else acc ++ [c]) acc ↔ c ∈ acc ∨ c ∈ l := by
    intro l
    induction l with
    | nil => intro acc; simp
    | cons d l ih =>
      intro acc
      rw [List.foldl_cons, ih]
      by_cases h : d ∈ acc
      · rw [if_pos h]
        constructor
        · rintro (a | b)
          · exact .inl a
          · exact .inr (List.mem_cons_of_mem _ b)
        · rintro (a | b)
          · exact .inl a
          · rcases List.mem_cons.mp b with e | b
            · exact .inl (e ▸ h)
            · exact .inr b
      · rw [if_neg h]
        simp only [List.mem_append, List.mem_cons, List.not_mem_nil, or_false, or_assoc]
  unfold once
  rw [aux]
  simp
theorem once_le (l : List Nat) : (once l).length ≤ l.length := by
  have aux : ∀ (l acc : List Nat), (l.foldl (fun acc c => if c ∈ acc then acc else acc ++ [c]) acc).length ≤ acc.length + l.length := by
    intro l
    induction l with
    | nil => intro acc; simp
    | cons d l ih =>
      intro acc
      rw [List.foldl_cons]
      refine Nat.le_trans (ih _) ?_
      split
      · simp only [List.length_cons]; omega
      · simp only [List.length_append, List.length_cons, List.length_nil]; omega
  have := aux l []
  simpa [once] using this
theorem once_eq (l : List Nat) : (once l).length = l.length ↔ l.Nodup := by
  have aux : ∀ (l acc : List Nat), (l.foldl (fun acc c => if c ∈ acc then acc else acc ++ [c]) acc).length ≤ acc.length + l.length ∧
      ((l.foldl (fun acc c => if c ∈ acc then acc else acc ++ [c]) acc).length = acc.length + l.length ↔ l.Nodup ∧ ∀ c ∈ l, c ∉ acc) := by
    intro l
    induction l with
    | nil => intro acc; simp
    | cons d l ih =>
      intro acc
      rw [List.foldl_cons]
      by_cases h : d ∈ acc
      · rw [if_pos h]
        obtain ⟨h1, h2⟩ := ih acc
        refine ⟨by simp only [List.length_cons]; omega, ⟨fun e => ?_, fun e => absurd h (e.2 d List.mem_cons_self)⟩⟩
        simp only [List.length_cons] at e
        omega
      · rw [if_neg h]
        obtain ⟨h1, h2⟩ := ih (acc ++ [d])
        simp only [List.length_append, List.length_cons, List.length_nil] at h1 h2 ⊢
        refine ⟨by omega, ?_⟩
        rw [show acc.length + (l.length + 1) = acc.length + (0 + 1) + l.length by omega, h2, List.nodup_cons]
        constructor
        · rintro ⟨a, b⟩
          refine ⟨⟨fun m => ?_, a⟩, fun c hc => ?_⟩
          · exact b d m (List.mem_append_right _ List.mem_cons_self)
          · rcases List.mem_cons.mp hc with e | hc
            · exact e ▸ h
            · exact fun m => b c hc (List.mem_append_left _ m)
        · rintro ⟨⟨a, b⟩, c⟩
          refine ⟨b, fun x hx m => ?_⟩
          rcases List.mem_append.mp m with m | m
          · exact c x (List.mem_cons_of_mem _ hx) m
          · have e : x = d := by simpa using m
            exact a (e ▸ hx)
  have := (aux l []).2
  simpa [once] using this
/-- the texts of one sign in a list of signs -/
def signIn (l : List Nat) : Str → Bool := fun k => l.any fun c => decide (k = ⟨#[c]⟩)
theorem signIn_iff (l : List Nat) (c : Nat) : signIn l ⟨#[c]⟩ = true ↔ c ∈ l := by
  unfold signIn
  rw [List.any_eq_true]
  constructor
  · rintro ⟨d, hd, e⟩
    have e' := of_decide_eq_true e
    have : c = d := by
      injection e' with e2
      simpa using e2
    exact this ▸ hd
  · intro h
    exact ⟨c, h, by simp⟩
section
variable {prog : Program} {w : World} {A : Around} {R : Result → Shared → Prop} {I : Addr} {fp wr : List Addr} {G : Array GenState → Array GenState → Prop} {St : Nat → Shared → Prop}
theorem set_loop {z : Str} (W : WalksS prog w A.in1 I fp wr G z.cps.size (SignAt z) St) (S : Addr) (notIn : S ∉ fp) (few : z.cps.size + 1 < scanBound) :
    ∀ (left i : Nat) (s : Shared), z.cps.size - i = left → i ≤ z.cps.size → St i s → s.heap.SetOf (PySem.strKind prog w) S (signIn (z.cps.toList.take i)) (once (z.cps.toList.take i)).length →
      (∀ s', Moved (S :: wr) G s s' → s'.heap.SetOf (PySem.strKind prog w) S (signIn z.cps.toList) (once z.cps.toList).length → R (.ok (.ret .none)) s') →
      codeAny (model prog w) A (.builtin "set.update.loop" ⟨[.ref S, .ref I], []⟩) R s := by
  have notW : S ∉ wr := fun m => notIn (W.sub _ m)
  have more : ∀ b ∈ wr, b ∈ S :: wr := fun b m => List.mem_cons_of_mem _ m
  have all : z.cps.toList.take z.cps.size = z.cps.toList := List.take_of_length_le (by simp)
  have stays : ∀ {s s' : Shared} {T : Str → Bool} {m : Nat}, Moved wr G s s' → s.heap.SetOf (PySem.strKind prog w) S T m → s'.heap.SetOf (PySem.strKind prog w) S T m := by
    rintro s s' T m mv ⟨o, es, ep, tb, ho, r⟩
    exact ⟨o, es, ep, tb, mv.heap S _ notW ho, r⟩
  intro left
  induction left with
  | zero =>
    intro i s hl hi st set_ fin
    obtain rfl : i = z.cps.size := by omega
    apply codeAny_builtin PyProof.Rows.F.entry_set_update_loop
    rw [Around.under_plainId PyProof.Rows.F.plain_set_update_loop _]
    show wpAny _ A.in1 (pyNext (.ref I) >>= _) _ _ s
    apply wpAny_bind
    apply W.done s _ _ st
    intro s' mv
    apply wpAny_pure
    apply fin s' (mv.mono more)
    have := stays mv set_
    rw [all] at this
    exact this
  | succ left ih =>
    intro i s hl hi st set_ fin
    have lt : i < z.cps.size := by omega
    apply codeAny_builtin PyProof.Rows.F.entry_set_update_loop
    rw [Around.under_plainId PyProof.Rows.F.plain_set_update_loop _]
    show wpAny _ A.in1 (pyNext (.ref I) >>= _) _ _ s
    apply wpAny_bind
    apply W.item i s _ _ lt st
    intro v s' at_ st' mv
    obtain ⟨c, t, hc, rfl⟩ := at_
    have set' := stays mv set_
    have nx : z.cps.toList.take (i + 1) = z.cps.toList.take i ++ [c] := by
      have hc' : z.cps.toList[i]? = some c := by simpa using hc
      rw [List.take_add_one, hc']
      rfl
    show wpAny _ A.in1 (holding [Value.str ⟨#[c]⟩ t] (setAdd S (.str ⟨#[c]⟩ t)) >>= _) _ _ s'
    apply wpAny_bind
    apply wpAny_holding
    unfold setAdd
    apply wpAny_holding
    apply wpAny_bind
    apply (PySem.strKind prog w).pyHash (k := ⟨#[c]⟩) (strKind_is _ _ _ _)
    have room : (once (z.cps.toList.take i)).length + 1 < scanBound := by
      have h1 := once_le (z.cps.toList.take i)
      rw [List.length_take] at h1
      omega
    refine wpAny_setAddHashed_of (knd := PySem.strKind prog w) (s := { s' with toks := s'.toks + 1 }) (strKind_is _ _ _ _) rfl set' room fun h' but set2 => ?_
    have set3 : h'.SetOf (PySem.strKind prog w) S (signIn (z.cps.toList.take (i + 1))) (once (z.cps.toList.take (i + 1))).length := by
      refine SetOf_congr set2 (fun k => ?_) ?_
      · show (signIn (z.cps.toList.take i) k || decide (k = ⟨#[c]⟩)) = signIn (z.cps.toList.take (i + 1)) k
        rw [nx]
        unfold signIn
        rw [List.any_append]
        simp
      · rw [nx, once_snoc]
        by_cases m : c ∈ once (z.cps.toList.take i)
        · rw [if_pos m, if_pos ((signIn_iff _ c).mpr ((mem_once _ c).mp m))]
        · rw [if_neg m, if_neg (fun y => m ((mem_once _ c).mpr ((signIn_iff _ c).mp y))), List.length_append]
          rfl
    refine wpAny_pure ⟨plainId_quiet PyProof.Rows.F.plain_set_update_loop _, ih (i + 1) _ (by omega) lt (W.frame _ s' _ _ st' (Nat.le_succ _) fun b hb o e => ?_) set3 fun s'' mv2 set4 => ?_⟩
    · rw [but.2 b (fun e2 => notIn (e2 ▸ hb))]
      exact e
    · refine fin s'' (Moved.trans W.gtrans ((mv.mono more).then_heap (Nat.le_succ _) fun b o hb e => ?_) mv2) set4
      rw [but.2 b (fun e2 => hb (e2 ▸ List.mem_cons_self))]
      exact e
end
section
variable {prog : Program} {w : World} {A : Around} {E : Value → Shared → Prop} {s : Shared}
abbrev newSet (led : Bool) : Obj := { cls := .type "set", dict := none, data := .set #[] 0 (.fresh 0 0 led) }
/-- the body of set.__init__ over a text -/
theorem set_init_str {A2 : Around} (hh : A2.handled = none) {z : Str} {t : Tok} {led : Bool} {Qf : Fin → Shared → Prop} {Ef : Value → Shared → Prop} (few : z.cps.size + 1 < scanBound)
    (fin : ∀ h' tk, h'.SetOf (PySem.strKind prog w) s.heap.objs.size (signIn z.cps.toList) (once z.cps.toList).length → (∀ b o, s.heap.get? b = some o → h'.get? b = some o) → Qf (.done (.ret .none)) { s with heap := h', toks := tk }) :
    wpAny (model prog w) A2 (Builtin.«set.__init__» ⟨[.ref s.heap.objs.size, .str z t], []⟩) Qf Ef { s with heap := s.heap.push (newSet led) } := by
  have at_ : (s.heap.push (newSet led)).get? s.heap.objs.size = some (newSet led) := Heap.get?_push_size _ rfl
  have ty : Shared.TypeIs { s with heap := s.heap.push (newSet led) } (.ref s.heap.objs.size) "set" := ⟨_, at_, rfl⟩
  have no1 := PySem.F.sub_str_set
  have no2 := PySem.F.sub_str_frozenset
  have no3 : (Value.type "str" == Value.type "dict") = false := by decide
  unfold Builtin.«set.__init__» noKeywords Builtin.Frozenset.updateFrom
  generalize walkOf : pyIter = PI
  wp_walk
  subst walkOf
  refine wpAny_pyIter_str fun o St W st => ?_
  refine wpAny_bind (wpAny_runValue ?_)
  have sz : (s.heap.push (newSet led)).objs.size = s.heap.objs.size + 1 := Heap.size_push _ _
  have apart : s.heap.objs.size ∉ [(s.heap.push (newSet led)).objs.size] := by
    rw [sz]
    simp
  have hh2 : A2.in1.handled = none := hh
  refine set_loop ((W A2.in1 hh2).toS) s.heap.objs.size apart few (z.cps.size - 0) 0 _ rfl (Nat.zero_le _) st ?_ ?_
  · have at2 : ((s.heap.push (newSet led)).push o).get? s.heap.objs.size = some (newSet led) := Heap.get?_push_of_some _ at_
    exact SetOf_congr ((PyProof.Rows.setObjOf_fresh (knd := PySem.strKind prog w) led).setOf at2 (by unfold scanBound; omega)) (fun _ => rfl) rfl
  · intro s' mv set_
    obtain ⟨h', g', d', tk', os'⟩ := s'
    obtain rfl : g' = s.gens := mv.gens
    obtain rfl : d' = s.drawn := mv.drawn
    obtain rfl : os' = s.os := mv.os
    show wpAny _ _ _ _ _ _
    refine wpAny_pure ?_
    show wpAny _ _ (ret Value.none) _ _ _
    refine wpAny_pure (fin h' tk' set_ fun b ob e => ?_)
    have lt := Heap.lt_size e
    refine mv.heap b ob (fun m => ?_) (Heap.get?_push_of_some _ (Heap.get?_push_of_some _ e))
    rw [sz] at m
    rcases List.mem_cons.mp m with e2 | m
    · exact Nat.ne_of_lt lt e2
    · exact Nat.ne_of_lt (Nat.lt_succ_of_lt lt) (List.mem_singleton.mp m)
set_option maxHeartbeats 6400000 in
theorem call_set_text (hh : A.handled = none) {z : Str} {t : Tok} {Q : Value → Shared → Prop} (few : z.cps.size + 1 < scanBound)
    (fin : ∀ h' tk, h'.SetOf (PySem.strKind prog w) s.heap.objs.size (signIn z.cps.toList) (once z.cps.toList).length → (∀ b o, s.heap.get? b = some o → h'.get? b = some o) → Q (.ref s.heap.objs.size) { s with heap := h', toks := tk }) :
    wpAny (model prog w) A (call (.type "set") [.str z t]) Q E s := by
  obtain ⟨c, tl, mro_⟩ := PySem.F.called_set.mro
  have made_ := PySem.F.called_set.made
  have sub_ := PySem.F.called_set.sub
  apply wpAny_call
  apply codeAny_of_tree
  show wpAny _ _ (callAny (.type "set") _) _ _ _
  refine wpAny_pure ⟨Code.quiet_builtin _ (by decide +kernel), codeAny_builtin PySem.F.entry_type_call ?_⟩
  rw [Around.under_plain (weight_type_call_type "set" [.str z t] []) rfl]
  have nt_ := PySem.F.called_set.notType
  have can_ := PySem.F.called_set.canCreate
  have chk_ := PySem.F.typeCall_set_1 (.str z t)
  repeat (any_goals (first | assumption | wp_step))
  apply codeAny_mono (code_set_new_1 (.str z t) (E := E) (Q₁ := fun ob s1 => ∃ led : Bool, ob = .ref s.heap.objs.size ∧ s1 = { s with heap := s.heap.push (newSet led) }) fun led => ⟨led, rfl, rfl⟩)
  intro r s1 hr
  match r, hr with
  | .error _, hr => exact hr
  | .ok .next, hr => exact hr.elim
  | .ok .brk, hr => exact hr.elim
  | .ok .cont, hr => exact hr.elim
  | .ok (.ret ob), hr =>
    obtain ⟨led, rfl, rfl⟩ := hr
    have at_ : (s.heap.push (newSet led)).get? s.heap.objs.size = some (newSet led) := Heap.get?_push_size _ rfl
    have ty : Shared.TypeIs { s with heap := s.heap.push (newSet led) } (.ref s.heap.objs.size) "set" := ⟨_, at_, rfl⟩
    have look_ := PySem.F.called_set.init.lookup
    have bind_ := PySem.F.called_set.init.bind (.ref s.heap.objs.size)
    repeat (any_goals (first | assumption | wp_step))
    refine codeAny_mono (codeAny_call_builtin (R := wants (fun r s2 => r = .none ∧ ∃ h' tk, s2 = { s with heap := h', toks := tk } ∧ h'.SetOf (PySem.strKind prog w) s.heap.objs.size (signIn z.cps.toList) (once z.cps.toList).length ∧
        ∀ b o, s.heap.get? b = some o → h'.get? b = some o) E) PySem.F.called_set.init.plain PySem.F.entry_set_init (check_set_init_1 ty (set_init_str (A2 := A.in1.in1) hh few fun h' tk h1 h2 => ⟨rfl, h', tk, rfl, h1, h2⟩))) ?_
    intro r2 s2 hr2
    match r2, hr2 with
    | .error _, hr2 => exact hr2
    | .ok .next, hr2 => exact hr2.elim
    | .ok .brk, hr2 => exact hr2.elim
    | .ok .cont, hr2 => exact hr2.elim
    | .ok (.ret _), hr2 =>
      obtain ⟨rfl, h', tk, rfl, h1, h2⟩ := hr2
      repeat (any_goals (first | assumption | wp_step))
      exact fin h' tk h1 h2
end
section
variable {X : Cx}
/-- len(set(z)), z a text -/
def qLenSet (ta : TE) : TE := fun σ H Q => ta σ H fun x H1 => ∃ z : Str, x = .str z ∧ z.length ≤ 4000 ∧ Q (.int ((once z.cps.toList).length : Nat)) H1
theorem pe_lenSet {a : Expr} {ta : TE} {p p2 q pos : Pos} (hg : Gl X "len") (hm : X.mg "len" = none) (hg2 : Gl X "set") (hm2 : X.mg "set" = none) (ha : PE X a ta) (hc : X.calm = true := by rfl)
    (na : starEach [a] X.env = (false, eval a X.env) :: starEach [] X.env := by rfl) : PE X (.Call (.Name "len" p) [.Call (.Name "set" p2) [a] [] q] [] pos) (qLenSet ta) := by
  constructor
  intro pins s σ H Q I h
  apply Call_ (ld_blt I hg hm boot_len _)
  apply PyProof.Rows.callWith_builtin1 (PyProof.Rows.args_cons _ rfl) rfl rfl
  apply Call_ (ld_blt I hg2 hm2 boot_set _)
  refine PyProof.Rows.callWith_type1 (PyProof.Rows.args_cons (thn (ha.run pins s σ H _ I h) fun v s1 ⟨x, H1, I1, r1, q1⟩ => PyProof.Rows.args_nil ?_) na) na rfl
  obtain ⟨z, rfl, hz, q1⟩ := q1
  obtain ⟨t, rfl⟩ := r1
  have few : z.cps.size + 1 < scanBound := by
    have : z.cps.size ≤ 4000 := hz
    unfold scanBound
    omega
  refine call_set_text (I1.ok.hd hc) few fun h' tk set_ kept => ?_
  apply PyProof.Rows.args_nil
  obtain ⟨o, es, ep, tb, ho, ex, hd, _, _, _, fits, hn⟩ := set_
  have I2 : Inv X pins σ H1 { s1 with heap := h', toks := tk } := I1.kept kept
  have le : es.size ≤ 4000 := by
    rw [hn]
    refine Nat.le_trans (once_le _) ?_
    rw [Array.length_toList]
    exact hz
  rw [← hn] at q1
  exact call_len_set ho ex hd fits (by omega) ⟨.int (es.size : Nat), H1, I2.tok _, ⟨_, rfl⟩, q1⟩
end
end My
end
section
set_option Elab.async false
set_option linter.all false
set_option maxRecDepth 100000
set_option maxHeartbeats 2000000
namespace My
open PySem PySem.Spec PyProof.Rows L2
/-! ### data of any kind, apart from the object at p; st: no list of it stands at sys.modules' place -/
/-- an empty tuple of the written part -/
structure KEmp (K : PySem.W.Frag) (a : Addr) : Prop where
  ex : ∃ (o : Obj) (n : Nat), K.lookup a = some o ∧ o.cls = .type "tuple" ∧ o.data = .seq #[] n
theorem KEmp.sq {K : PySem.W.Frag} {H : Hp} {a : Addr} (h : KEmp K a) : SqT K H a [] := by
  obtain ⟨o, n, h1, h2, h3⟩ := h.ex
  exact .inr ⟨o, #[], n, h1, h2, h3, Nat.zero_le _, .nil⟩
mutual
inductive Rp (K : PySem.W.Frag) (p : Addr) (H : Hp) : Bool → V → PyData → Prop
  | non (st : Bool) : Rp K p H st .non .none
  | bl (st b : Bool) : Rp K p H st (.bl b) (.bool b)
  | int (st : Bool) (i : Int) : Rp K p H st (.int i) (.int i)
  | str (st : Bool) (z : Str) : Rp K p H st (.str z) (.str z)
  | lst {st : Bool} {a : Addr} {xs : List V} {ds : List PyData} : H a = some (.lst xs) → a ≠ p → ((st || PyData.hasDictAll ds) = true → a ≠ sysModules) → RpAll K p H (st || PyData.hasDictAll ds) xs ds → Rp K p H st (.ref a) (.list ds)
  | tup {st : Bool} {a : Addr} {xs : List V} {ds : List PyData} : H a = some (.tup xs) → a ≠ p → RpAll K p H (st || PyData.hasDictAll ds) xs ds → Rp K p H st (.ref a) (.tuple ds)
  | dct {st : Bool} {a : Addr} {kvs : List (Key × V)} {ks vs : List PyData} : H a = some (.dK kvs) → a ≠ p → RpAll K p H true (kvs.map fun e => kV e.1) ks → RpAll K p H true (kvs.map (·.2)) vs → ks.length = vs.length → Rp K p H st (.ref a) (.dict (ks.zip vs))
  | emp {st : Bool} {a : Addr} : KEmp K a → Rp K p H st (.ref a) (.tuple [])
inductive RpAll (K : PySem.W.Frag) (p : Addr) (H : Hp) : Bool → List V → List PyData → Prop
  | nil (st : Bool) : RpAll K p H st [] []
  | cons {st : Bool} {v : V} {vs : List V} {d : PyData} {ds : List PyData} : Rp K p H st v d → RpAll K p H st vs ds → RpAll K p H st (v :: vs) (d :: ds)
end
section
variable {K : PySem.W.Frag} {p : Addr} {H H1 : Hp}
mutual
theorem Rp.but (s : But p H H1) : ∀ {st : Bool} {d : PyData} {v : V}, Rp K p H st v d → Rp K p H1 st v d
  | _, _, _, .non _ => .non _
  | _, _, _, .bl _ b => .bl _ b
  | _, _, _, .int _ i => .int _ i
  | _, _, _, .str _ z => .str _ z
  | _, _, _, .lst h n m r => .lst (s _ _ n h) n m (RpAll.but s r)
  | _, _, _, .tup h n r => .tup (s _ _ n h) n (RpAll.but s r)
  | _, _, _, .dct h n r1 r2 e => .dct (s _ _ n h) n (RpAll.but s r1) (RpAll.but s r2) e
  | _, _, _, .emp h => .emp h
theorem RpAll.but (s : But p H H1) : ∀ {st : Bool} {ds : List PyData} {vs : List V}, RpAll K p H st vs ds → RpAll K p H1 st vs ds
  | _, _, _, .nil _ => .nil _
  | _, _, _, .cons a b => .cons (Rp.but s a) (RpAll.but s b)
end
mutual
theorem Rp.loose : ∀ {d : PyData} {v : V}, Rp K p H true v d → ∀ st, Rp K p H st v d
  | _, _, .non _, _ => .non _
  | _, _, .bl _ b, _ => .bl _ b
  | _, _, .int _ i, _ => .int _ i
  | _, _, .str _ z, _ => .str _ z
  | _, _, .lst h n m r, _ => .lst h n (fun _ => m (Bool.true_or _)) (RpAll.loose r _)
  | _, _, .tup h n r, _ => .tup h n (RpAll.loose r _)
  | _, _, .dct h n r1 r2 e, _ => .dct h n r1 r2 e
  | _, _, .emp h, _ => .emp h
theorem RpAll.loose : ∀ {b : Bool} {ds : List PyData} {vs : List V}, RpAll K p H (true || b) vs ds → ∀ st, RpAll K p H st vs ds
  | _, _, _, .nil _, _ => .nil _
  | _, _, _, .cons x y, _ => .cons (Rp.loose x _) (RpAll.loose (b := true) y _)
end
end
section
variable {K : PySem.W.Frag} {p : Addr} {H H1 : Hp}
theorem RpAll.len : ∀ {st : Bool} {ds : List PyData} {vs : List V}, RpAll K p H st vs ds → vs.length = ds.length
  | _, _, _, .nil _ => rfl
  | _, _, _, .cons _ b => by simp [RpAll.len b]
theorem RpAll.at : ∀ {st : Bool} {ds : List PyData} {vs : List V} {j : Nat} {v : V} {d : PyData}, RpAll K p H st vs ds → vs[j]? = some v → ds[j]? = some d → Rp K p H st v d
  | _, _, _, _, _, _, .nil _, h, _ => by simp at h
  | _, _, _, 0, _, _, .cons a _, h, e => by
    simp at h e
    exact h ▸ e ▸ a
  | _, _, _, j + 1, _, _, .cons _ b, h, e => RpAll.at (j := j) b (by simpa using h) (by simpa using e)
theorem Rp.loose2 {st : Bool} {v : V} {d : PyData} (h : Rp K p H st v d) : Rp K p H false v d := by
  cases st with
  | true => exact h.loose _
  | false => exact h
end
theorem pairs_keys {P : Program} {w : World} : ∀ {es : List DictEntry} {kvs : List (Key × V)} {rs : List (Key × Value)}, KV kvs rs → Pairs (mixKind P w) es rs → Vals (kvs.map fun e => kV e.1) (es.map (·.key)) ∧ Vals (kvs.map (·.2)) (es.map (·.val))
  | _, _, _, .nil, .nil => ⟨.nil, .nil⟩
  | _, (k, v) :: _, _, .cons r t, .cons h1 h2 h3 => by
    obtain ⟨a, b⟩ := pairs_keys t h3
    obtain ⟨e1, rv⟩ := r
    refine ⟨.cons ?_ a, .cons (h2.symm ▸ rv : L2.RelV v (DictEntry.val _)) b⟩
    show L2.RelV (kV k) _
    rw [mixKind_is, ← e1] at h1
    rcases keyIs_shape h1 with ⟨i, t, e2, e3⟩ | ⟨x, t, e2, e3⟩
    · subst e2
      exact ⟨t, e3⟩
    · subst e2
      exact ⟨t, e3⟩
section
variable {X : Cx} {pins : List (Addr × Obj)} {σ : L2.St} {p : Addr} {H : Hp} {s : Shared}
theorem zip_fst {α β : Type} : ∀ {l : List α} {r : List β}, l.length = r.length → (l.zip r).map (·.1) = l
  | [], _, _ => by simp
  | _ :: _, [], h => by simp at h
  | a :: l, b :: r, h => by simp [zip_fst (l := l) (r := r) (by simpa using h)]
theorem zip_snd {α β : Type} : ∀ {l : List α} {r : List β}, l.length = r.length → (l.zip r).map (·.2) = r
  | [], r, h => by cases r with | nil => rfl | cons _ _ => simp at h
  | _ :: _, [], h => by simp at h
  | a :: l, b :: r, h => by simp [zip_snd (l := l) (r := r) (by simpa using h)]
theorem or_split {a b : Bool} (h : (a || b) = true) : a = true ∨ b = true := by
  cases a with
  | true => exact .inl rfl
  | false => exact .inr h
mutual
theorem Rp.reads (I : Inv X pins σ H s) : ∀ {st : Bool} {d : PyData} {v : V} {u : Value}, Rp X.K p H st v d → RelV v u → ∃ as, Reads s.heap u d as ∧ ((st || d.hasDict) = true → sysModules ∉ as)
  | _, _, _, _, .non _, r => by
    cases r
    exact ⟨_, Reads.none, fun _ => by simp⟩
  | _, _, _, _, .bl _ b, r => by
    cases r
    exact ⟨_, Reads.bool b, fun _ => by simp⟩
  | _, _, _, _, .int _ i, r => by
    obtain ⟨t, rfl⟩ := r
    exact ⟨_, Reads.int i t, fun _ => by simp⟩
  | _, _, _, _, .str _ z, r => by
    obtain ⟨t, rfl⟩ := r
    exact ⟨_, Reads.str z t, fun _ => by simp⟩
  | _, _, _, _, .lst h n m q, r => by
    cases r
    obtain ⟨its, rv, ⟨o, k, ho, hc, _, hd⟩, _⟩ := I.list (SqL.of h : SqL X.K H _ _)
    obtain ⟨as, q1, q2⟩ := RpAll.reads I q rv
    refine ⟨_, Reads.list ho hc hd q1, fun e => ?_⟩
    simp only [PyData.hasDict] at e
    rw [List.mem_cons]
    rintro (z | z)
    · exact m e z.symm
    · exact q2 e z
  | _, _, _, _, .tup h n q, r => by
    cases r
    obtain ⟨its, rv, ⟨o, ho, hc, k, hd⟩, _⟩ := I.tuple (SqT.of h : SqT X.K H _ _)
    obtain ⟨as, q1, q2⟩ := RpAll.reads I q rv
    refine ⟨_, Reads.tuple ho hc hd q1, fun e => ?_⟩
    simp only [PyData.hasDict] at e
    exact q2 e
  | _, _, _, _, .dct h n k1 k2 el, r => by
    cases r
    obtain ⟨_, ns, rs, rk, o, es, ep, ho, hx, hd, _, hp, _⟩ := dk_of I.hok h
    obtain ⟨v1, v2⟩ := pairs_keys rk hp
    obtain ⟨as, q1, q2⟩ := RpAll.reads I k1 v1
    obtain ⟨bs, q3, q4⟩ := RpAll.reads I k2 v2
    refine ⟨_, Reads.dict ho hx.1 hd (by rw [zip_fst el]; exact q1) (by rw [zip_snd el]; exact q3), fun _ => ?_⟩
    rw [List.cons_append, List.mem_cons, List.mem_append]
    rintro (e | m | m)
    · rw [← e] at ns
      exact absurd ns (by decide)
    · exact q2 rfl m
    · exact q4 rfl m
  | _, _, _, _, .emp h, r => by
    cases r
    obtain ⟨its, rv, ⟨o, ho, hc, k, hd⟩, _⟩ := I.tuple (h.sq : SqT X.K H _ _)
    cases rv
    exact ⟨_, Reads.tuple ho hc hd ReadsAll.nil, fun _ => by simp⟩
theorem RpAll.reads (I : Inv X pins σ H s) : ∀ {st : Bool} {ds : List PyData} {vs : List V} {us : List Value}, RpAll X.K p H st vs ds → Vals vs us → ∃ as, ReadsAll s.heap us ds as ∧ (st = true → sysModules ∉ as)
  | _, _, _, _, .nil _, r => by
    cases r
    exact ⟨_, ReadsAll.nil, fun _ => by simp⟩
  | st, _, _, _, .cons a b, r => by
    cases r with
    | cons r1 r2 =>
      obtain ⟨as, q1, q2⟩ := Rp.reads I a r1
      obtain ⟨bs, q3, q4⟩ := RpAll.reads I b r2
      exact ⟨_, ReadsAll.cons q1 q3, fun e z => (List.mem_append.mp z).elim (q2 (by rw [e, Bool.true_or])) (q4 e)⟩
end
/-- repr(x) of data, no repr under way -/
def qReprD (K : PySem.W.Frag) : List V → Hp → VK → Prop := fun xs H Q => ∃ x d p, xs = [x] ∧ Rp K p H false x d ∧ d.showable = true ∧ d.shown.length ≤ sizeLine ∧ d.depth ≤ 60 ∧ Q (.str d.shown) H
theorem call_reprD (g : X.A.guards = some []) (hu : X.A.units + 64 < cLine) : CallR X (.builtin "repr") (qReprD X.K) := by
  intro pins s σ H xs us Q I r h
  obtain ⟨x, d, p, rfl, hd, h1, h3, h4, q⟩ := h
  obtain ⟨u, rfl, rx⟩ := vals1 r
  obtain ⟨as, rd, nos⟩ := Rp.reads I hd rx
  rw [Bool.false_or] at nos
  have fin : ∀ (h' : Heap) (t : Tok) (tk : Nat), (∀ b o, s.heap.get? b = some o → h'.get? b = some o) → EP X pins σ Q (.str d.shown t) { s with heap := h', toks := tk } := by
    intro h' t tk hk
    exact ⟨.str d.shown, H, I.kept (t' := tk) hk, ⟨t, rfl⟩, q⟩
  have big : ∀ a, u = .ref a → wpAny (model X.prog X.w) X.A (call (.builtin "repr") [u]) (EP X pins σ Q) X.xe s := by
    rintro a rfl
    exact repr_of_reads' rd h1 nos g (by omega) (fun _ _ z => z) (fun h' t tk hk => fin h' t tk hk) h3
  cases hd with
  | non =>
    cases rx
    exact PySem.P.repr_of_none (fin _ _ _ fun _ _ z => z)
  | bl _ b =>
    cases rx
    exact PySem.P.repr_of_bool (fin _ _ _ fun _ _ z => z)
  | int _ i =>
    obtain ⟨t, rfl⟩ := rx
    exact PySem.P.repr_of_int (by simpa [PyData.showable] using h1) (fin _ _ _ fun _ _ z => z)
  | str _ z =>
    obtain ⟨t, rfl⟩ := rx
    exact PySem.P.repr_of_str (fin _ _ _ fun _ _ z => z) (by simpa only [PyData.shown] using h3)
  | lst _ _ _ _ => exact big _ rx
  | tup _ _ _ => exact big _ rx
  | dct _ _ _ _ _ => exact big _ rx
  | emp _ => exact big _ rx
/-! ### kinds of data -/
def tyName : PyData → String
  | .none => "NoneType" | .bool _ => "bool" | .int _ => "int" | .str _ => "str" | .list _ => "list" | .tuple _ => "tuple" | .dict _ => "dict"
theorem Rp.ty {K : PySem.W.Frag} {st : Bool} {d : PyData} {v : V} (h : Rp K p H st v d) : TyX K H v (.type (tyName d)) := by
  cases h with
  | non => exact .base .non
  | bl _ b => exact .base (.bl b)
  | int _ i => exact .base (.int i)
  | str _ z => exact .base (.str z)
  | lst h _ _ _ => exact .base (.lst h)
  | tup h _ _ => exact .base (.tup h)
  | dct h _ _ _ _ => exact .base (.dK h)
  | emp h =>
    obtain ⟨o, n, h1, h2, _⟩ := h.ex
    exact .kTuple h1 h2
def isStrD : PyData → Bool | .str _ => true | _ => false
def isTupD : PyData → Bool | .tuple _ => true | _ => false
def isSeqD : PyData → Bool | .tuple _ => true | .list _ => true | _ => false
theorem kit_str {K : PySem.W.Frag} (d : PyData) : PySem.W.kitOne K (.type (tyName d)) (.type "str") = some (isStrD d) := by
  cases d
  · exact kit_ty (show kitB "NoneType" "str" = some false by decide +kernel)
  · exact kit_ty (show kitB "bool" "str" = some false by decide +kernel)
  · exact kit_ty (show kitB "int" "str" = some false by decide +kernel)
  · exact kit_ty (show kitB "str" "str" = some true by decide +kernel)
  · exact kit_ty (show kitB "list" "str" = some false by decide +kernel)
  · exact kit_ty (show kitB "tuple" "str" = some false by decide +kernel)
  · exact kit_ty (show kitB "dict" "str" = some false by decide +kernel)
theorem kit_tup {K : PySem.W.Frag} (d : PyData) : PySem.W.kitOne K (.type (tyName d)) (.type "tuple") = some (isTupD d) := by
  cases d
  · exact kit_ty (show kitB "NoneType" "tuple" = some false by decide +kernel)
  · exact kit_ty (show kitB "bool" "tuple" = some false by decide +kernel)
  · exact kit_ty (show kitB "int" "tuple" = some false by decide +kernel)
  · exact kit_ty (show kitB "str" "tuple" = some false by decide +kernel)
  · exact kit_ty (show kitB "list" "tuple" = some false by decide +kernel)
  · exact kit_ty (show kitB "tuple" "tuple" = some true by decide +kernel)
  · exact kit_ty (show kitB "dict" "tuple" = some false by decide +kernel)
theorem Rp.tupS {K : PySem.W.Frag} {st : Bool} {v : V} {ds : List PyData} (h : Rp K p H st v (.tuple ds)) : ∃ a xs st2, v = .ref a ∧ SqT K H a xs ∧ RpAll K p H st2 xs ds := by
  cases h with
  | tup ha _ r => exact ⟨_, _, _, rfl, SqT.of ha, r⟩
  | emp h => exact ⟨_, [], st, rfl, h.sq, .nil _⟩
end
end My
end
section
set_option Elab.async false
set_option linter.all false
set_option maxRecDepth 100000
set_option maxHeartbeats 2000000
namespace My
open PySem PySem.Spec PyProof.Rows L2
/-- what a caller wants of a def that stands at module level -/
structure Def (K : PySem.W.Frag) (mg : Str → Option Value) (x : Str) (f : Addr) (fd : FuncData) (ps : List Str) : Prop where
  mgf : mg x = some (.ref f)
  kp : PySem.W.keepIn K (.ref f) = true
  bd : Binds K fd ps []
/-- built-ins that the module does not give another meaning -/
structure TB (mg : Str → Option Value) : Prop where
  int : mg "int" = none
  len : mg "len" = none
  abs : mg "abs" = none
  list : mg "list" = none
  tuple : mg "tuple" = none
  str : mg "str" = none
  set : mg "set" = none
  all : mg "all" = none
  isi : mg "isinstance" = none
  repr : mg "repr" = none
  range : mg "range" = none
/-- texts that are not too long, at any depth -/
def textFits (n : Nat) : PyData → Prop
  | .str z => z.length ≤ n
  | _ => True
/-- whether a value is one of the signs -/
def signD (S : Str) : PyData → Bool
  | .str z => decide (z.length = 1) && z.cps.toList.all fun c => decide (c ∈ S.cps.toList)
  | _ => false
/-- whether a value is a text of different ones of the signs -/
def setD (S : Str) : PyData → Bool
  | .str z => decide z.cps.toList.Nodup && z.cps.toList.all fun c => decide (c ∈ S.cps.toList)
  | _ => false
theorem signD_str (S z : Str) : signD S (.str z) = (decide (z.length = 1) && z.cps.toList.all fun c => decide (c ∈ S.cps.toList)) := rfl
theorem setD_str (S z : Str) : setD S (.str z) = (decide z.cps.toList.Nodup && z.cps.toList.all fun c => decide (c ∈ S.cps.toList)) := rfl
theorem mem_signs {z : Str} {x : V} (h : x ∈ signs z) : ∃ c, c ∈ z.cps.toList ∧ x = .str ⟨#[c]⟩ := by
  obtain ⟨c, h1, h2⟩ := List.mem_map.mp h
  exact ⟨c, h1, h2.symm⟩
theorem kit_list {K : PySem.W.Frag} (d : PyData) : PySem.W.kitOne K (.type (tyName d)) (.type "list") = some (match d with | .list _ => true | _ => false) := by
  cases d
  · exact kit_ty (show kitB "NoneType" "list" = some false by decide +kernel)
  · exact kit_ty (show kitB "bool" "list" = some false by decide +kernel)
  · exact kit_ty (show kitB "int" "list" = some false by decide +kernel)
  · exact kit_ty (show kitB "str" "list" = some false by decide +kernel)
  · exact kit_ty (show kitB "list" "list" = some true by decide +kernel)
  · exact kit_ty (show kitB "tuple" "list" = some false by decide +kernel)
  · exact kit_ty (show kitB "dict" "list" = some false by decide +kernel)
theorem kit_seq {K : PySem.W.Frag} (d : PyData) : PySem.W.kitAny K (.type (tyName d)) [.type "list", .type "tuple"] = some (isSeqD d) := by
  refine kitAny_cons (kit_list d) (fun h => kitAny_cons (kit_tup d) (fun h2 => ?_) fun h2 => ?_) fun h => ?_
  · rw [kitAny_nil]
    cases d <;> first | rfl | exact absurd (show true = false from h) (by decide) | exact absurd (show true = false from h2) (by decide)
  · cases d <;> first | rfl | exact absurd (show false = true from h2) (by decide)
  · cases d <;> first | rfl | exact absurd (show false = true from h) (by decide)
theorem one_sign {z : Str} (h : z.length = 1) : ∃ c, z = ⟨#[c]⟩ := by
  obtain ⟨⟨l⟩⟩ := z
  have h' : l.length = 1 := h
  obtain ⟨c, rfl⟩ := List.length_eq_one_iff.mp h'
  exact ⟨c, rfl⟩
/-! ### promises of the program's helpers -/
def sp_isSign (K : PySem.W.Frag) : Sp := fun vs H Q _ => ∃ (S : Str) (v : V) (d : PyData) (p : Addr), vs = [.str S, v] ∧ Rp K p H false v d ∧ textFits sizeLine d ∧ Q (.bl (signD S d)) H
def sp_isSet (K : PySem.W.Frag) : Sp := fun vs H Q _ => ∃ (S : Str) (v : V) (d : PyData) (p : Addr), vs = [.str S, v] ∧ Rp K p H false v d ∧ textFits 4000 d ∧ ∀ H', Same H H' → Q (.bl (setD S d)) H'
def alphabet : Str := "0123456789abcdefghijklmnopqrstuvwxyz"
/-- whether a value is the signs of a font -/
def fontD (d : PyData) : Bool := match d with
  | .str z => decide (2 ≤ z.length ∧ z.length ≤ 10) && setD alphabet (.str z)
  | _ => false
theorem fontD_str (z : Str) : fontD (.str z) = (decide (2 ≤ z.length ∧ z.length ≤ 10) && setD alphabet (.str z)) := rfl
def sp_isFont (K : PySem.W.Frag) : Sp := fun vs H Q _ => ∃ (v : V) (d : PyData) (p : Addr), vs = [v] ∧ Rp K p H false v d ∧ textFits 4000 d ∧ ∀ H', Same H H' → Q (.bl (fontD d)) H'
/-- a class whose values are read off it -/
structure ClassV (K : PySem.W.Frag) (C : Addr) (f : Str) (v : V) : Prop where
  ok : ∃ mc u, ClX.CRead K C mc ∧ ClX.CVal K C mc f v u
/-! ### comprehensions whose parts change nothing that is tracked -/
theorem walk_signs {z : Str} : Walk (Its z) (signs z).length (fun _ => True) (YAt (signs z)) := by
  have e : (signs z).length = z.cps.size := by rw [signs_len]; rfl
  rw [e]
  refine ⟨fun _ _ hi _ => hi, fun _ _ => Nat.le_refl _, fun i H x H' hi _ y => ?_⟩
  obtain ⟨e1, c, hc, e2⟩ := y
  refine ⟨e1, ?_⟩
  unfold signs
  rw [List.getElem?_map, Array.getElem?_toList, hc, e2]
  rfl
theorem lc_ff {J : It} {xs : List V} {G : Hp → Prop} (w : Walk J xs.length G (YAt xs)) {i : Nat} {tt : TT} {te : TE} {vs : List Nat} {σ : L2.St} {H1 : Hp} {D : Addr} {Qd : Hp → Prop} (p : V → Bool) (f : V → V) (free : H1 D = none)
    (hG : ∀ H', Same H1 H' → G H') (small : xs.length < sizeLine) (hw : ∀ x, wipe ((wipe σ vs).set i (some x)) vs = wipe σ vs)
    (ht : ∀ x H' (C : Bool → Hp → Prop), x ∈ xs → Same H1 H' → (∀ H3, Same H' H3 → C (p x) H3) → tt ((wipe σ vs).set i (some x)) H' C)
    (he : ∀ x H' (C : VK), x ∈ xs → p x = true → Same H1 H' → (∀ H4, Same H' H4 → C (f x) H4) → te ((wipe σ vs).set i (some x)) H' C)
    (hd : ∀ H', Same H1 H' → H' D = some (.lst ((xs.filter p).map f)) → Qd H') :
    ∃ W : Nat → Nat → Hp → Prop, (∃ m, W 0 m (upd H1 D (.lst []))) ∧ ∀ j m H, W j m H →
      (J.stop j H ∧ Qd H) ∨ (J.go j H ∧ ∃ Nx : Hp → Prop, (∀ H', Nx H' → ∃ m', m' < m ∧ W (j + 1) m' H') ∧ ∀ x H', J.yld j H x H' → gName i x (wipe σ vs) H' fun σ2 H2 => wipe σ2 vs = wipe σ vs ∧ tt σ2 H2 fun b H3 =>
        if b = true then te σ2 H3 fun y H4 => ∃ acc, H4 D = some (.lst acc) ∧ acc.length < sizeLine ∧ Nx (upd H4 D (.lst (acc ++ [y]))) else Nx H3) := by
  refine lc_it w (fun j H' => Same H1 H' ∧ H' D = some (.lst (((xs.take j).filter p).map f))) ⟨Same.wr (Same.refl H1) free .mk', upd_same⟩ (fun j H' _ q => hG H' q.1) ?_ ?_
  · rintro j x H2 H3 hj ⟨s, hD⟩ ⟨rfl, hx⟩
    have mem : x ∈ xs := List.mem_of_getElem? hx
    have nx : xs.take (j + 1) = xs.take j ++ [x] := by
      rw [List.take_add_one, hx]
      rfl
    refine ⟨hw x, ht x H3 _ mem s fun H4 s4 => ?_⟩
    have hD4 := s4 _ _ hD
    cases hp : p x with
    | true =>
      rw [if_pos rfl]
      refine he x H4 _ mem hp (s.trans s4) fun H5 s5 => ⟨_, s5 _ _ hD4, ?_, ?_, ?_⟩
      · rw [List.length_map]
        have h1 : ((xs.take j).filter p).length ≤ (xs.take j).length := List.length_filter_le _ _
        have h2 : (xs.take j).length ≤ xs.length := by rw [List.length_take]; omega
        omega
      · exact Same.wr ((s.trans s4).trans s5) free .mk'
      · rw [upd_same, nx, List.filter_append, List.map_append]
        simp [hp]
    | false =>
      rw [if_neg Bool.false_ne_true]
      refine ⟨s.trans s4, ?_⟩
      rw [hD4, nx, List.filter_append]
      simp [hp]
  · rintro H' ⟨s, hD⟩
    rw [List.take_length] at hD
    exact hd H' s hD
end My
end
section
set_option Elab.async false
set_option linter.all false
set_option maxRecDepth 100000
set_option maxHeartbeats 4000000
/-! A1D: draws of great numbers. -/
namespace My
open PySem PySem.Spec PyProof.Rows L2
/-- a number from 0 to m - 1, m at most B, in at most d draws -/
def sp_drawB (B : Int) (d : Nat) : Sp := fun vs H Q _ => ∃ (p c : Addr) (m : Int) (n : Nat), vs = [.ref p, .int m] ∧ PenAt H p c n ∧ n + d < 2 ^ 60 ∧ 0 < m ∧ m ≤ B ∧ ∀ H' r, DrewP H p c (n + d) H' → 0 ≤ r → r < m → Q (.int r) H'
section
variable {P : Program} {w : World} {K : PySem.W.Frag} {mg : Str → Option Value} {base : Heap}
theorem ok_drawS {f : Addr} {fd : FuncData} {B B' : Int} {d j : Nat} (F : Fun K "_law_draw" "_law_draw" s_draw f fd) (T : TDraw mg) (hB : B ≤ 2 ^ 190) (hB' : B' ≤ 2 ^ 190) (hs : ∀ m : Int, 60000000 < m → m ≤ B' → 0 < m / 60000000 + 1 ∧ m / 60000000 + 1 ≤ B)
    (D : Def K mg "_law_draw" f fd ["_law_pen_here", "_law_many"]) (G : FnOk P w K mg base CX0 j f fd ["_law_pen_here", "_law_many"] (sp_drawB B d)) :
    FnOk P w K mg base CX0 (j + 1) f fd ["_law_pen_here", "_law_many"] (sp_drawB B' (d + 1)) := by
  refine F.ok sc_draw (fun vs H Q E h => ?_) (fun cdv A outer s H vs Q E hr h => ?_)
  · obtain ⟨a, c, m, n, rfl, _⟩ := h
    rfl
  · obtain ⟨p, c, m, n, rfl, hP, hn, hm0, hm1, k⟩ := h
    have hu : (A.deeper (envOfC "_law_draw" (defScope s_draw) s.heap.objs.size f cdv)).units + 1 < cLine := by have := hr.un; omega
    refine ⟨_, pss_cons (ps_if (pt_cmpR op_gt (pe_dget hu (pv 0) pe_str (fun _ _ => rfl)) pe_int (nomark _))
        (pss_cons (ps_set (i := 2) sc_draw.nd rfl (Or.inl rfl) (pe_op op_modN (pe_callTy call_int1 (by rfl) T.int (by decide +kernel) (pa_cons (pe_dget hu (pv 0) pe_str (fun _ _ => rfl)) pa_nil)) (pv 1)))
        (pss_cons (ps_dput hu (pv 0) pe_str (pe_op op_fdivW (pe_dget hu (pv 0) pe_str (fun _ _ => rfl)) (pv 1)) rfl)
        (pss_one (ps_ret (pv 2))))) pss_nil)
      (pss_cons (ps_set (i := 3) sc_draw.nd rfl (Or.inl rfl) (pe_dget hu (pv 0) pe_str (fun _ _ => rfl)))
      (pss_cons (ps_dput hu (pv 0) pe_str (pe_op op_add (pv 3) pe_int) rfl)
      (pss_cons (ps_set (i := 4) sc_draw.nd rfl (Or.inl rfl) (pe_op op_add (pe_op op_mul pe_int (pv 3)) pe_int))
      (pss_cons (ps_if (pt_cmpR (op_neNil hr.units0) (pe_dget hu (pv 0) pe_str (fun _ _ => rfl)) (pe_lst' pa_nil) (nomark _))
        (pss_one (ps_set (i := 4) sc_draw.nd rfl (Or.inl rfl) (pe_ix ix_list (pe_dget hu (pv 0) pe_str (fun _ _ => rfl)) (pe_op op_modN (pe_callTy call_int1 (by rfl) T.int (by decide +kernel) (pa_cons (pv 3) pa_nil))
          (pe_callB call_len_seq (by rfl) T.len PySem.boot_len (pa_cons (pe_dget hu (pv 0) pe_str (fun _ _ => rfl)) pa_nil))) (fun _ _ => rfl)))) pss_nil)
      (pss_cons (ps_if (PW.pt (pw_and (pt_cmpR op_lt (pv 3) (pe_callB call_len_seq (by rfl) T.len PySem.boot_len (pa_cons (pe_dget hu (pv 0) pe_str (fun _ _ => rfl)) pa_nil)) (nomark _))
          (pw_and1 (pt_cmpR op_ge (pe_callB call_abs (by rfl) T.abs (by decide +kernel) (pa_cons (pv 4) pa_nil)) (pe_op op_pow pe_int pe_int) (nomark _)))))
        (pss_cons (ps_dput hu (pv 0) pe_str (pe_op op_fdivW (pe_op op_sub (pe_callB call_abs (by rfl) T.abs (by decide +kernel) (pa_cons (pv 4) pa_nil)) (pe_op op_pow pe_int pe_int)) (pv 1)) rfl)
        (pss_one (ps_ret (pe_op op_modN (pe_op op_sub (pe_callB call_abs (by rfl) T.abs (by decide +kernel) (pa_cons (pv 4) pa_nil)) (pe_op op_pow pe_int pe_int)) (pv 1))))) pss_nil)
      (pss_cons (ps_set (i := 5) sc_draw.nd rfl (Or.inl rfl) (pe_op op_add (pe_op op_mulW (pe_op op_modN (pe_callTy call_int1 (by rfl) T.int (by decide +kernel) (pa_cons (pv 4) pa_nil)) pe_int) pe_int) (pe_op op_mulW (pe_op op_mulW pe_int (pv 3)) (pv 3))))
      (pss_cons (ps_set (i := 5) sc_draw.nd rfl (Or.inl rfl) (pe_op op_modN (pe_callTy call_int1 (by rfl) T.int (by decide +kernel) (pa_cons (pe_op op_add (pe_op op_add (pv 5) (pe_op op_mulW pe_int (pv 3))) pe_int) pa_nil)) pe_int))
      (pss_cons (ps_set (i := 5) sc_draw.nd rfl (Or.inl rfl) (pe_op op_modN (pe_callTy call_int1 (by rfl) T.int (by decide +kernel) (pa_cons (pe_op op_add (pe_op op_add (pe_op op_add (pe_op op_mulW (pv 5) (pv 5)) (pe_op op_mulW pe_int (pv 5))) (pe_op op_mulW pe_int (pv 3))) pe_int) pa_nil)) pe_int))
      (pss_cons (ps_set (i := 5) sc_draw.nd rfl (Or.inl rfl) (pe_op op_fdivW (pe_op op_modN (pe_callTy call_int1 (by rfl) T.int (by decide +kernel) (pa_cons (pe_op op_mulW (pv 5) (pe_op op_add (pv 5) pe_int)) pa_nil)) pe_int) pe_int))
      (pss_cons (ps_if (pt_cmpR op_gt (pv 1) pe_int (nomark _)) (pss_one (ps_set (i := 5) sc_draw.nd rfl (Or.inl rfl) (pe_op op_add (pv 5) (pe_op op_mulW pe_int (pe_call G hr rfl D.mgf D.kp D.bd .nil pass0 (pa_cons (pv 0) (pa_cons (pe_op op_add (pe_op op_fdivW (pv 1) pe_int) pe_int) pa_nil))))))) pss_nil)
      (pss_one (ps_ret (pe_op op_modN (pe_callTy call_int1 (by rfl) T.int (by decide +kernel) (pa_cons (pv 5) pa_nil)) (pv 1)))))))))))))), ?_⟩
    obtain ⟨cs, u, l, h1, h2, hu0, hun, hc⟩ := hP
    have hdiv : CDivW 0 m := wide_div hm0 (b := 200) (by omega) (by decide) (by decide)
    refine ⟨_, rfl, p, _, rfl, dget_left h1, _, _, rfl, rfl, _, rfl, ite2 (fun hl => ?_) (fun hl => ?_)⟩
    · refine ⟨_, rfl, p, _, rfl, dget_left h1, .inl ⟨_, rfl, _, rfl, _, _, rfl, rfl, (by omega), ?_⟩⟩
      refine ⟨_, rfl, p, _, rfl, dget_left h1, _, rfl, _, _, rfl, rfl, hdiv, _, rfl, p, _, rfl, dput_left h1, ?_⟩
      refine ⟨_, rfl, k _ _ ⟨Wr.mk'.but, cs, u, _, upd_same, ?_, hu0, by omega, hc⟩ (fmod_bounds _ hm0).1 (fmod_bounds _ hm0).2⟩
      rw [upd_ne (ne_of h2 h1 (by intro z; cases z))]
      exact h2
    · refine ⟨_, rfl, p, _, rfl, dget_used h1, ?_⟩
      refine ⟨_, rfl, _, _, rfl, rfl, _, rfl, p, _, rfl, dput_used h1, ?_⟩
      have hpc : c ≠ p := ne_of h2 h1 (by intro z; cases z)
      have w1 : Wr H p (.dK (penK c (u + 1) l)) (upd H p (.dK (penK c (u + 1) l))) := .mk'
      generalize upd H p (HO.dK (penK c (u + 1) l)) = H1 at w1 ⊢
      have g2 : H1 c = some (.lst (cs.map V.int)) := (w1.els c hpc).trans h2
      have hu62 : 0 ≤ u ∧ u < 2 ^ 60 := ⟨hu0, by omega⟩
      refine ⟨_, rfl, _, _, rfl, rfl, .inl (by decide), _, _, rfl, rfl, ?_⟩
      refine ⟨_, rfl, p, _, rfl, dget_cells w1.here, by decide, fun q H2 n2 => ⟨c, q, _, rfl, rfl, SqL.of (n2.same _ _ g2), n2.here, _, rfl, ?_⟩⟩
      have i1 := n2.same _ _ w1.here
      have i2 := n2.same _ _ g2
      have hD : ∀ H3, Same H1 H3 → DrewP H p c (n + 1) H3 := fun H3 s3 => ⟨w1.but.trans (.of s3), cs, u + 1, l, s3 _ _ w1.here, s3 _ _ g2, by omega, by omega, hc⟩
      have sq : Same H1 H2 := n2.same
      have hcl : (cs.map V.int).length = cs.length := List.length_map _
      have hle : ∀ z : Int, 0 ≤ z.fmod m ∧ z.fmod m < m := fun z => fmod_bounds z hm0
      have hD1 : ∀ H3, Same H1 H3 → DrewP H p c (n + (d + 1)) H3 := fun H3 s3 => (hD H3 s3).mono (by omega)
      refine ite2 (fun hb => ?_) (fun hb => ?_)
      · have hpos : 0 < cs.length := by
          cases cs with
          | nil => simp at hb
          | cons _ _ => simp
        obtain ⟨h0, h9⟩ := fmod_bounds u (m := ((cs.map V.int).length : Int)) (by rw [hcl]; omega)
        obtain ⟨j, hj⟩ : ∃ j : Nat, u.fmod ((cs.map V.int).length : Int) = j := ⟨_, (Int.toNat_of_nonneg h0).symm⟩
        have hjl : j < cs.length := by rw [hj, hcl] at h9; omega
        refine ⟨_, rfl, p, _, rfl, dget_cells i1, _, rfl, .inl ⟨_, rfl, _, rfl, p, _, rfl, dget_cells i1, c, _, rfl, .inl (SqL.of i2), _, _, rfl, rfl, (by rw [hcl]; omega), c, _, _, V.int cs[j], rfl, rfl, SqL.of i2, ?_, ?_⟩⟩
        · rw [hj, atI_nat]
          simp [hjl]
        generalize cs[j] = cell
        clear hj h0 h9 hjl hpos
        revert cell
        intro cell
        have pw : CPow 10 18 := ⟨by decide, by decide, by decide⟩
        have last : ∀ (b : Int) (H3 : Hp), Same H1 H3 → True := fun _ _ _ => trivial
        refine ⟨_, rfl, _, rfl, p, _, rfl, dget_cells i1, c, _, rfl, .inl (SqL.of i2), _, _, rfl, rfl, _, rfl, ?_⟩
        refine ite2 (fun hlt => ?_) (fun hlt => ?_)
        · refine ⟨_, rfl, _, rfl, _, _, rfl, rfl, pw, _, _, rfl, rfl, _, rfl, ?_⟩
          refine ite2 (fun hge => ?_) (fun hge => ?_)
          · refine ⟨_, rfl, _, rfl, _, _, rfl, rfl, pw, _, _, rfl, rfl, _, rfl, _, _, rfl, rfl, hdiv, _, rfl, p, _, rfl, dput_left i1, ?_⟩
            refine ⟨_, rfl, _, rfl, _, _, rfl, rfl, pw, _, _, rfl, rfl, _, rfl, _, _, rfl, rfl, (by omega), ?_⟩
            refine k _ _ ⟨(hD _ sq).but.trans Wr.mk'.but, cs, u + 1, _, upd_same, ?_, by omega, by omega, hc⟩ (hle _).1 (hle _).2
            rw [upd_ne hpc]
            exact i2
          · refine ⟨_, rfl, .inl ⟨_, rfl, _, _, rfl, rfl, (show (4294967231 : Int) ≠ 0 by decide), _, _, rfl, rfl, ?_, _, rfl, _, _, rfl, rfl, ?_, _, rfl, _, _, rfl, rfl, ?_, _, _, rfl, rfl, ?_⟩⟩
            · have := fmod_bounds cell (m := 4294967231) (by decide)
              exact cmul200 (by omega) (by decide)
            · exact cmul200 (by decide) (by omega)
            · exact cmul200 (by omega) (by omega)
            dsimp only
            generalize cell.fmod 4294967231 * 1103515 + 30011 * u * u = b1
            refine ⟨_, rfl, _, rfl, _, _, rfl, rfl, ?_, _, _, rfl, rfl, _, _, rfl, rfl, .inl ⟨_, rfl, _, _, rfl, rfl, (by intro z; cases z), ?_⟩⟩
            · exact cmul200 (by decide) (by omega)
            obtain ⟨g1, g3⟩ := fmod_bounds (b1 + 178481 * u + 23) (m := 4294967197) (by decide)
            dsimp only
            generalize (b1 + 178481 * u + 23).fmod 4294967197 = b2 at g1 g3 ⊢
            refine ⟨_, rfl, _, rfl, _, _, rfl, rfl, ?_, _, rfl, _, _, rfl, rfl, ?_, _, _, rfl, rfl, _, rfl, _, _, rfl, rfl, ?_, _, _, rfl, rfl, _, _, rfl, rfl, .inl ⟨_, rfl, _, _, rfl, rfl, (by intro z; cases z), ?_⟩⟩
            · exact cmul200 (by omega) (by omega)
            · exact cmul200 (by decide) (by omega)
            · exact cmul200 (by decide) (by omega)
            obtain ⟨g4, g5⟩ := fmod_bounds (b2 * b2 + 16769023 * b2 + 5 * u + 7) (m := 4294967189) (by decide)
            dsimp only
            generalize (b2 * b2 + 16769023 * b2 + 5 * u + 7).fmod 4294967189 = b3 at g4 g5 ⊢
            refine ⟨_, rfl, _, rfl, _, _, rfl, rfl, _, _, rfl, rfl, ?_, .inl ⟨_, rfl, _, _, rfl, rfl, (by intro z; cases z), _, _, rfl, rfl, ?_, ?_⟩⟩
            · exact cmul200 (by omega) (by omega)
            · exact wide_div (by decide) (b := 30) (by decide) (by decide) (by decide)
            refine ⟨_, rfl, _, _, rfl, rfl, _, rfl, ?_⟩
            refine ite2 (fun hgt => ?_) (fun _ => ?_)
            · have hm := hs m (of_decide_eq_true hgt) hm1
              refine ⟨_, rfl, _, rfl, _, rfl, _, _, rfl, rfl, wide_div (by decide) (b := 30) (by decide) (by decide) (by decide), _, _, rfl, rfl, p, c, _, n + 1, rfl, (hD _ sq).pen, by omega, hm.1, hm.2, fun H4 r d4 r0 r1 => ?_⟩
              refine ⟨_, _, rfl, rfl, cmul200 (by decide) (by omega), _, _, rfl, rfl, ?_⟩
              refine ⟨_, rfl, .inl ⟨_, rfl, _, rfl, _, _, rfl, rfl, (by omega), ?_⟩⟩
              exact k _ _ (((hD _ sq).trans d4).mono (by omega)) (hle _).1 (hle _).2
            refine ⟨_, rfl, .inl ⟨_, rfl, _, rfl, _, _, rfl, rfl, (by omega), ?_⟩⟩
            exact k _ _ (hD1 _ sq) (hle _).1 (hle _).2
        · refine iteF ?_
          refine ⟨_, rfl, .inl ⟨_, rfl, _, _, rfl, rfl, (show (4294967231 : Int) ≠ 0 by decide), _, _, rfl, rfl, ?_, _, rfl, _, _, rfl, rfl, ?_, _, rfl, _, _, rfl, rfl, ?_, _, _, rfl, rfl, ?_⟩⟩
          · have := fmod_bounds cell (m := 4294967231) (by decide)
            exact cmul200 (by omega) (by decide)
          · exact cmul200 (by decide) (by omega)
          · exact cmul200 (by omega) (by omega)
          dsimp only
          generalize cell.fmod 4294967231 * 1103515 + 30011 * u * u = b1
          refine ⟨_, rfl, _, rfl, _, _, rfl, rfl, ?_, _, _, rfl, rfl, _, _, rfl, rfl, .inl ⟨_, rfl, _, _, rfl, rfl, (by intro z; cases z), ?_⟩⟩
          · exact cmul200 (by decide) (by omega)
          obtain ⟨g1, g3⟩ := fmod_bounds (b1 + 178481 * u + 23) (m := 4294967197) (by decide)
          dsimp only
          generalize (b1 + 178481 * u + 23).fmod 4294967197 = b2 at g1 g3 ⊢
          refine ⟨_, rfl, _, rfl, _, _, rfl, rfl, ?_, _, rfl, _, _, rfl, rfl, ?_, _, _, rfl, rfl, _, rfl, _, _, rfl, rfl, ?_, _, _, rfl, rfl, _, _, rfl, rfl, .inl ⟨_, rfl, _, _, rfl, rfl, (by intro z; cases z), ?_⟩⟩
          · exact cmul200 (by omega) (by omega)
          · exact cmul200 (by decide) (by omega)
          · exact cmul200 (by decide) (by omega)
          obtain ⟨g4, g5⟩ := fmod_bounds (b2 * b2 + 16769023 * b2 + 5 * u + 7) (m := 4294967189) (by decide)
          dsimp only
          generalize (b2 * b2 + 16769023 * b2 + 5 * u + 7).fmod 4294967189 = b3 at g4 g5 ⊢
          refine ⟨_, rfl, _, rfl, _, _, rfl, rfl, _, _, rfl, rfl, ?_, .inl ⟨_, rfl, _, _, rfl, rfl, (by intro z; cases z), _, _, rfl, rfl, ?_, ?_⟩⟩
          · exact cmul200 (by omega) (by omega)
          · exact wide_div (by decide) (b := 30) (by decide) (by decide) (by decide)
          refine ⟨_, rfl, _, _, rfl, rfl, _, rfl, ?_⟩
          refine ite2 (fun hgt => ?_) (fun _ => ?_)
          · have hm := hs m (of_decide_eq_true hgt) hm1
            refine ⟨_, rfl, _, rfl, _, rfl, _, _, rfl, rfl, wide_div (by decide) (b := 30) (by decide) (by decide) (by decide), _, _, rfl, rfl, p, c, _, n + 1, rfl, (hD _ sq).pen, by omega, hm.1, hm.2, fun H4 r d4 r0 r1 => ?_⟩
            refine ⟨_, _, rfl, rfl, cmul200 (by decide) (by omega), _, _, rfl, rfl, ?_⟩
            refine ⟨_, rfl, .inl ⟨_, rfl, _, rfl, _, _, rfl, rfl, (by omega), ?_⟩⟩
            exact k _ _ (((hD _ sq).trans d4).mono (by omega)) (hle _).1 (hle _).2
          refine ⟨_, rfl, .inl ⟨_, rfl, _, rfl, _, _, rfl, rfl, (by omega), ?_⟩⟩
          exact k _ _ (hD1 _ sq) (hle _).1 (hle _).2
      · dsimp only
        generalize 43 * u + 7 = cell
        revert cell
        intro cell
        have pw : CPow 10 18 := ⟨by decide, by decide, by decide⟩
        have last : ∀ (b : Int) (H3 : Hp), Same H1 H3 → True := fun _ _ _ => trivial
        refine ⟨_, rfl, _, rfl, p, _, rfl, dget_cells i1, c, _, rfl, .inl (SqL.of i2), _, _, rfl, rfl, _, rfl, ?_⟩
        refine ite2 (fun hlt => ?_) (fun hlt => ?_)
        · refine ⟨_, rfl, _, rfl, _, _, rfl, rfl, pw, _, _, rfl, rfl, _, rfl, ?_⟩
          refine ite2 (fun hge => ?_) (fun hge => ?_)
          · refine ⟨_, rfl, _, rfl, _, _, rfl, rfl, pw, _, _, rfl, rfl, _, rfl, _, _, rfl, rfl, hdiv, _, rfl, p, _, rfl, dput_left i1, ?_⟩
            refine ⟨_, rfl, _, rfl, _, _, rfl, rfl, pw, _, _, rfl, rfl, _, rfl, _, _, rfl, rfl, (by omega), ?_⟩
            refine k _ _ ⟨(hD _ sq).but.trans Wr.mk'.but, cs, u + 1, _, upd_same, ?_, by omega, by omega, hc⟩ (hle _).1 (hle _).2
            rw [upd_ne hpc]
            exact i2
          · refine ⟨_, rfl, .inl ⟨_, rfl, _, _, rfl, rfl, (show (4294967231 : Int) ≠ 0 by decide), _, _, rfl, rfl, ?_, _, rfl, _, _, rfl, rfl, ?_, _, rfl, _, _, rfl, rfl, ?_, _, _, rfl, rfl, ?_⟩⟩
            · have := fmod_bounds cell (m := 4294967231) (by decide)
              exact cmul200 (by omega) (by decide)
            · exact cmul200 (by decide) (by omega)
            · exact cmul200 (by omega) (by omega)
            dsimp only
            generalize cell.fmod 4294967231 * 1103515 + 30011 * u * u = b1
            refine ⟨_, rfl, _, rfl, _, _, rfl, rfl, ?_, _, _, rfl, rfl, _, _, rfl, rfl, .inl ⟨_, rfl, _, _, rfl, rfl, (by intro z; cases z), ?_⟩⟩
            · exact cmul200 (by decide) (by omega)
            obtain ⟨g1, g3⟩ := fmod_bounds (b1 + 178481 * u + 23) (m := 4294967197) (by decide)
            dsimp only
            generalize (b1 + 178481 * u + 23).fmod 4294967197 = b2 at g1 g3 ⊢
            refine ⟨_, rfl, _, rfl, _, _, rfl, rfl, ?_, _, rfl, _, _, rfl, rfl, ?_, _, _, rfl, rfl, _, rfl, _, _, rfl, rfl, ?_, _, _, rfl, rfl, _, _, rfl, rfl, .inl ⟨_, rfl, _, _, rfl, rfl, (by intro z; cases z), ?_⟩⟩
            · exact cmul200 (by omega) (by omega)
            · exact cmul200 (by decide) (by omega)
            · exact cmul200 (by decide) (by omega)
            obtain ⟨g4, g5⟩ := fmod_bounds (b2 * b2 + 16769023 * b2 + 5 * u + 7) (m := 4294967189) (by decide)
            dsimp only
            generalize (b2 * b2 + 16769023 * b2 + 5 * u + 7).fmod 4294967189 = b3 at g4 g5 ⊢
            refine ⟨_, rfl, _, rfl, _, _, rfl, rfl, _, _, rfl, rfl, ?_, .inl ⟨_, rfl, _, _, rfl, rfl, (by intro z; cases z), _, _, rfl, rfl, ?_, ?_⟩⟩
            · exact cmul200 (by omega) (by omega)
            · exact wide_div (by decide) (b := 30) (by decide) (by decide) (by decide)
            refine ⟨_, rfl, _, _, rfl, rfl, _, rfl, ?_⟩
            refine ite2 (fun hgt => ?_) (fun _ => ?_)
            · have hm := hs m (of_decide_eq_true hgt) hm1
              refine ⟨_, rfl, _, rfl, _, rfl, _, _, rfl, rfl, wide_div (by decide) (b := 30) (by decide) (by decide) (by decide), _, _, rfl, rfl, p, c, _, n + 1, rfl, (hD _ sq).pen, by omega, hm.1, hm.2, fun H4 r d4 r0 r1 => ?_⟩
              refine ⟨_, _, rfl, rfl, cmul200 (by decide) (by omega), _, _, rfl, rfl, ?_⟩
              refine ⟨_, rfl, .inl ⟨_, rfl, _, rfl, _, _, rfl, rfl, (by omega), ?_⟩⟩
              exact k _ _ (((hD _ sq).trans d4).mono (by omega)) (hle _).1 (hle _).2
            refine ⟨_, rfl, .inl ⟨_, rfl, _, rfl, _, _, rfl, rfl, (by omega), ?_⟩⟩
            exact k _ _ (hD1 _ sq) (hle _).1 (hle _).2
        · refine iteF ?_
          refine ⟨_, rfl, .inl ⟨_, rfl, _, _, rfl, rfl, (show (4294967231 : Int) ≠ 0 by decide), _, _, rfl, rfl, ?_, _, rfl, _, _, rfl, rfl, ?_, _, rfl, _, _, rfl, rfl, ?_, _, _, rfl, rfl, ?_⟩⟩
          · have := fmod_bounds cell (m := 4294967231) (by decide)
            exact cmul200 (by omega) (by decide)
          · exact cmul200 (by decide) (by omega)
          · exact cmul200 (by omega) (by omega)
          dsimp only
          generalize cell.fmod 4294967231 * 1103515 + 30011 * u * u = b1
          refine ⟨_, rfl, _, rfl, _, _, rfl, rfl, ?_, _, _, rfl, rfl, _, _, rfl, rfl, .inl ⟨_, rfl, _, _, rfl, rfl, (by intro z; cases z), ?_⟩⟩
          · exact cmul200 (by decide) (by omega)
          obtain ⟨g1, g3⟩ := fmod_bounds (b1 + 178481 * u + 23) (m := 4294967197) (by decide)
          dsimp only
          generalize (b1 + 178481 * u + 23).fmod 4294967197 = b2 at g1 g3 ⊢
          refine ⟨_, rfl, _, rfl, _, _, rfl, rfl, ?_, _, rfl, _, _, rfl, rfl, ?_, _, _, rfl, rfl, _, rfl, _, _, rfl, rfl, ?_, _, _, rfl, rfl, _, _, rfl, rfl, .inl ⟨_, rfl, _, _, rfl, rfl, (by intro z; cases z), ?_⟩⟩
          · exact cmul200 (by omega) (by omega)
          · exact cmul200 (by decide) (by omega)
          · exact cmul200 (by decide) (by omega)
          obtain ⟨g4, g5⟩ := fmod_bounds (b2 * b2 + 16769023 * b2 + 5 * u + 7) (m := 4294967189) (by decide)
          dsimp only
          generalize (b2 * b2 + 16769023 * b2 + 5 * u + 7).fmod 4294967189 = b3 at g4 g5 ⊢
          refine ⟨_, rfl, _, rfl, _, _, rfl, rfl, _, _, rfl, rfl, ?_, .inl ⟨_, rfl, _, _, rfl, rfl, (by intro z; cases z), _, _, rfl, rfl, ?_, ?_⟩⟩
          · exact cmul200 (by omega) (by omega)
          · exact wide_div (by decide) (b := 30) (by decide) (by decide) (by decide)
          refine ⟨_, rfl, _, _, rfl, rfl, _, rfl, ?_⟩
          refine ite2 (fun hgt => ?_) (fun _ => ?_)
          · have hm := hs m (of_decide_eq_true hgt) hm1
            refine ⟨_, rfl, _, rfl, _, rfl, _, _, rfl, rfl, wide_div (by decide) (b := 30) (by decide) (by decide) (by decide), _, _, rfl, rfl, p, c, _, n + 1, rfl, (hD _ sq).pen, by omega, hm.1, hm.2, fun H4 r d4 r0 r1 => ?_⟩
            refine ⟨_, _, rfl, rfl, cmul200 (by decide) (by omega), _, _, rfl, rfl, ?_⟩
            refine ⟨_, rfl, .inl ⟨_, rfl, _, rfl, _, _, rfl, rfl, (by omega), ?_⟩⟩
            exact k _ _ (((hD _ sq).trans d4).mono (by omega)) (hle _).1 (hle _).2
          refine ⟨_, rfl, .inl ⟨_, rfl, _, rfl, _, _, rfl, rfl, (by omega), ?_⟩⟩
          exact k _ _ (hD1 _ sq) (hle _).1 (hle _).2
end
end My
end
section
set_option Elab.async false
set_option linter.all false
set_option maxRecDepth 100000
set_option maxHeartbeats 4000000
/-! A1D4: a law's draws of great numbers, up to 5 * 10 ** 30. -/
namespace My
open PySem PySem.Spec PyProof.Rows L2
section
variable {P : Program} {w : World} {K : PySem.W.Frag} {mg : Str → Option Value} {base : Heap}
theorem ok_drawB1 {f : Addr} {fd : FuncData} (F : Fun K "_law_draw" "_law_draw" s_draw f fd) (T : TDraw mg) : FnOk P w K mg base CX0 1 f fd ["_law_pen_here", "_law_many"] (sp_drawB 60000000 1) :=
  (ok_draw F T).imp fun vs H Q E h => by
    obtain ⟨p, c, m, n, rfl, hP, hn, h0, h1, k⟩ := h
    exact ⟨p, c, m, n, rfl, hP, by omega, h0, h1, k⟩
theorem up_B {B B' : Int} (h : B' ≤ 60000000 * (B - 1)) : ∀ m : Int, 60000000 < m → m ≤ B' → 0 < m / 60000000 + 1 ∧ m / 60000000 + 1 ≤ B := fun m h1 h2 => by omega
/-- up to 5 * 10 ** 30 -/
theorem ok_drawB4 {f : Addr} {fd : FuncData} (F : Fun K "_law_draw" "_law_draw" s_draw f fd) (T : TDraw mg) (D : Def K mg "_law_draw" f fd ["_law_pen_here", "_law_many"]) : FnOk P w K mg base CX0 4 f fd ["_law_pen_here", "_law_many"] (sp_drawB 5000000000000000000000000000000 4) := by
  have g1 : FnOk P w K mg base CX0 1 f fd ["_law_pen_here", "_law_many"] (sp_drawB 60000000 1) := ok_drawB1 F T
  have g2 := ok_drawS (B' := 3000000000000000) F T (by decide) (by decide) (up_B (by decide)) D g1
  have g3 := ok_drawS (B' := 100000000000000000000000) F T (by decide) (by decide) (up_B (by decide)) D g2
  exact ok_drawS (B' := 5000000000000000000000000000000) F T (by decide) (by decide) (up_B (by decide)) D g3
end
end My
end
section
set_option Elab.async false
set_option linter.all false
set_option maxRecDepth 100000
set_option maxHeartbeats 2000000
namespace My
open PySem PySem.Spec PyProof.Rows L2
/-- a text of one sign -/
abbrev sg (c : Nat) : V := .str ⟨#[c]⟩
/-- pairs of signs, each a tuple of its own -/
def PairsAt (H : Hp) (ps : List (Nat × Nat)) (ys : List V) : Prop := Paired (fun (ab : Nat × Nat) y => ∃ q, y = V.ref q ∧ H q = some (.tup [sg ab.1, sg ab.2])) ps ys
theorem PairsAt.same {H H1 : Hp} (s : Same H H1) : ∀ {ps : List (Nat × Nat)} {ys : List V}, PairsAt H ps ys → PairsAt H1 ps ys
  | _, _, .nil => .nil
  | _, _, .cons ⟨q, e, h⟩ t => .cons ⟨q, e, s _ _ h⟩ (PairsAt.same s t)
theorem Paired.at {α β : Type} {R : α → β → Prop} : ∀ {l : List α} {r : List β} {j : Nat} {b : β}, Paired R l r → r[j]? = some b → ∃ a, l[j]? = some a ∧ R a b
  | _, _, _, _, .nil, h => by simp at h
  | _, _, 0, _, .cons h _, e => by
    simp at e
    subst e
    exact ⟨_, rfl, h⟩
  | _, _, j + 1, _, .cons _ t, e => by
    obtain ⟨a, h1, h2⟩ := Paired.at (j := j) t (by simpa using e)
    exact ⟨a, by simpa using h1, h2⟩
theorem Paired.snoc {α β : Type} {R : α → β → Prop} : ∀ {l : List α} {r : List β} {a : α} {b : β}, Paired R l r → R a b → Paired R (l ++ [a]) (r ++ [b])
  | _, _, _, _, .nil, h => .cons h .nil
  | _, _, _, _, .cons h t, k => .cons h (Paired.snoc t k)
theorem Paired.map {α β : Type} {R R' : α → β → Prop} (f : ∀ a b, R a b → R' a b) : ∀ {l : List α} {r : List β}, Paired R l r → Paired R' l r
  | _, _, .nil => .nil
  | _, _, .cons h t => .cons (f _ _ h) (Paired.map f t)
theorem paired_eq {α β : Type} {f : α → β} : ∀ {l : List α} {r : List β}, Paired (fun a y => y = f a) l r → r = l.map f
  | _, _, .nil => rfl
  | _, _, .cons h t => by rw [h, paired_eq t]; rfl
/-- a comprehension over what is told by l: tests and elements may make objects -/
theorem lc_pair {α : Type} {J : It} {xs : List V} {G : Hp → Prop} (w : Walk J xs.length G (YAt xs)) (l : List α) (hl : l.length = xs.length) {i : Nat} {tt : TT} {te : TE} {vs : List Nat} {σ : L2.St} {H1 : Hp} {D : Addr} {Qd : Hp → Prop} (p : α → Bool) (R : α → V → Hp → Prop)
    (mono : ∀ a y H H', (∃ zs, H D = some (.lst zs)) → But D H H' → R a y H → R a y H') (free : H1 D = none) (hG : ∀ H', Same H1 H' → G H') (small : xs.length < sizeLine) (hw : ∀ x, wipe ((wipe σ vs).set i (some x)) vs = wipe σ vs)
    (ht : ∀ (j : Nat) x a H' (C : Bool → Hp → Prop), xs[j]? = some x → l[j]? = some a → Same H1 H' → (∀ H3, Same H' H3 → C (p a) H3) → tt ((wipe σ vs).set i (some x)) H' C)
    (he : ∀ (j : Nat) x a H' (C : VK), xs[j]? = some x → l[j]? = some a → p a = true → Same H1 H' → (∀ H4 y, Same H' H4 → R a y H4 → C y H4) → te ((wipe σ vs).set i (some x)) H' C)
    (hd : ∀ H' ys, Same H1 H' → H' D = some (.lst ys) → Paired (fun a y => R a y H') (l.filter p) ys → Qd H') :
    ∃ W : Nat → Nat → Hp → Prop, (∃ m, W 0 m (upd H1 D (.lst []))) ∧ ∀ j m H, W j m H →
      (J.stop j H ∧ Qd H) ∨ (J.go j H ∧ ∃ Nx : Hp → Prop, (∀ H', Nx H' → ∃ m', m' < m ∧ W (j + 1) m' H') ∧ ∀ x H', J.yld j H x H' → gName i x (wipe σ vs) H' fun σ2 H2 => wipe σ2 vs = wipe σ vs ∧ tt σ2 H2 fun b H3 =>
        if b = true then te σ2 H3 fun y H4 => ∃ acc, H4 D = some (.lst acc) ∧ acc.length < sizeLine ∧ Nx (upd H4 D (.lst (acc ++ [y]))) else Nx H3) := by
  refine lc_it w (fun j H' => Same H1 H' ∧ ∃ ys, H' D = some (.lst ys) ∧ ys.length ≤ j ∧ Paired (fun a y => R a y H') ((l.take j).filter p) ys)
    ⟨Same.wr (Same.refl H1) free .mk', [], upd_same, Nat.le_refl _, by simp; exact .nil⟩ (fun j H' _ q => hG H' q.1) ?_ ?_
  · rintro j x H2 H3 hj ⟨s, ys, hD, hy, hp⟩ ⟨rfl, hx⟩
    have hjl : j < l.length := by omega
    obtain ⟨a, ha⟩ : ∃ a, l[j]? = some a := ⟨l[j], by simp [hjl]⟩
    have nx : l.take (j + 1) = l.take j ++ [a] := by
      rw [List.take_add_one, ha]
      rfl
    refine ⟨hw x, ht j x a H3 _ hx ha s fun H4 s4 => ?_⟩
    have hD4 := s4 _ _ hD
    have hp4 := Paired.map (fun a y h => mono a y H3 H4 ⟨_, hD⟩ (.of s4) h) hp
    cases hpa : p a with
    | true =>
      rw [if_pos rfl]
      refine he j x a H4 _ hx ha hpa (s.trans s4) fun H5 y s5 hR => ⟨ys, s5 _ _ hD4, by omega, ?_, ys ++ [y], upd_same, by simp; omega, ?_⟩
      · exact Same.wr ((s.trans s4).trans s5) free .mk'
      · have w5 : But D H5 (upd H5 D (.lst (ys ++ [y]))) := Wr.mk'.but
        have hp5 := Paired.map (fun a y h => mono a y H4 H5 ⟨_, hD4⟩ (.of s5) h) hp4
        have hp6 := Paired.map (fun a y h => mono a y H5 _ ⟨_, s5 _ _ hD4⟩ w5 h) hp5
        rw [nx, List.filter_append]
        have e : [a].filter p = [a] := by simp [hpa]
        rw [e]
        exact Paired.snoc hp6 (mono a y H5 _ ⟨_, s5 _ _ hD4⟩ w5 hR)
    | false =>
      rw [if_neg Bool.false_ne_true]
      refine ⟨s.trans s4, ys, hD4, by omega, ?_⟩
      rw [nx, List.filter_append]
      have e : [a].filter p = [] := by simp [hpa]
      rw [e, List.append_nil]
      exact hp4
  · rintro H' ⟨s, ys, hD, _, hp⟩
    rw [← hl, List.take_length] at hp
    exact hd H' ys s hD hp
/-- what is iterated over: a list or a tuple -/
def iSeq (K : PySem.W.Frag) (tl : TE) : TI := fun σ H R => tl σ H fun x H1 => ∃ a xs, x = .ref a ∧ ((SqL K H1 a xs ∧ R (Itl K a) H1) ∨ (SqT K H1 a xs ∧ R (Itt K a) H1))
theorem pi_seq {X : Cx} {tg l : Expr} {tl : TE} (h : PE X l tl) : PI X tg l (iSeq X.K tl) := by
  constructor
  intro pins s σ H R I q
  apply thn (h.run pins s σ H _ I q)
  intro v s1 hv
  obtain ⟨x, H1, I1, r1, a, xs, rfl, hq⟩ := hv
  cases r1
  have more : ∀ {o : Obj}, L2.Inv X pins σ H1 { s1 with heap := s1.heap.push o } := fun {o} => I1.kept (t' := s1.toks) fun b ob e => Heap.get?_push_of_some _ e
  have fresh : ∀ b ∈ [s1.heap.objs.size], FpOk X pins H1 b := by
    intro b hb
    rw [List.mem_singleton.mp hb]
    exact I1.fpOk (Nat.le_refl _) (I1.hok.fresh (Nat.le_refl _))
  cases hq with
  | inl hq =>
    obtain ⟨its, rv, pl, hz⟩ := I1.list hq.1
    apply wpAny_pyIter_list pl.isList
    exact ⟨_, [s1.heap.objs.size], _, _, H1, rfl, more, turn_list a _, ⟨_, Heap.get?_push_size _ rfl, rfl, rfl⟩, fresh, hq.2⟩
  | inr hq =>
    obtain ⟨its, rv, pl, hz⟩ := I1.tuple hq.1
    apply wpAny_pyIter_tuple (show s1.heap.IsTuple a its.toArray from pl)
    exact ⟨_, [s1.heap.objs.size], _, _, H1, rfl, more, turn_tuple a _, ⟨_, Heap.get?_push_size _ rfl, rfl, rfl⟩, fresh, hq.2⟩
/-! ### the place of a sign in a text -/
theorem idx_first {l : List Nat} {c k : Nat} (h : l[k]? = some c) (hn : ∀ j, j < k → l[j]? ≠ some c) : l.idxOf c = k := by
  induction l generalizing k with
  | nil => simp at h
  | cons a l ih =>
    cases k with
    | zero =>
      have e : a = c := by simpa using h
      subst e
      simp
    | succ k =>
      have ne : a ≠ c := fun e => hn 0 (Nat.zero_lt_succ _) (by simp [e])
      have rest := ih (k := k) (by simpa using h) fun j hj => by
        have := hn (j + 1) (Nat.succ_lt_succ hj)
        simpa using this
      rw [List.idxOf_cons, beq_eq_false_iff_ne.mpr ne, cond_false, rest]
theorem index0_one (z : Str) (c : Nat) (h : c ∈ z.cps.toList) : Txt.index0 z ⟨#[c]⟩ = some (z.cps.toList.idxOf c) := by
  unfold Txt.index0
  rcases StrLaws.occ_head z ⟨#[c]⟩ 1 (Nat.le_refl 1) with ⟨_, hn⟩ | ⟨i, r, e, ha, hn⟩
  · obtain ⟨j, hj⟩ := List.mem_iff_getElem?.mp h
    exact absurd ((StrLaws.subAt_one z c j).mpr hj) (hn j)
  · rw [e]
    have e2 : z.cps.toList.idxOf c = i := by
      refine idx_first ((StrLaws.subAt_one z c i).mp ha) fun j hj hjc => ?_
      exact hn j hj ((StrLaws.subAt_one z c j).mpr hjc)
    rw [e2]
    rfl
/-! ### turns as they are kept -/
mutual
/-- data of no more than 4,000 signs or items anywhere -/
def fit : PyData → Bool
  | .str z => decide (z.length ≤ 4000)
  | .list ds => decide (ds.length ≤ 4000) && fitAll ds
  | .tuple ds => decide (ds.length ≤ 4000) && fitAll ds
  | _ => true
def fitAll : List PyData → Bool
  | [] => true
  | d :: ds => fit d && fitAll ds
end
theorem fit.text {d : PyData} (h : fit d = true) : textFits 4000 d := by
  cases d with
  | str z =>
    simp only [fit, decide_eq_true_eq] at h
    exact h
  | _ => trivial
theorem textFits.more {m n : Nat} {d : PyData} (h : textFits m d) (l : m ≤ n) : textFits n d := by
  cases d with
  | str z => exact Nat.le_trans h l
  | _ => trivial
theorem fitAll.at : ∀ {ds : List PyData} {j : Nat} {d : PyData}, fitAll ds = true → ds[j]? = some d → fit d = true
  | [], _, _, _, h => by simp at h
  | _ :: _, 0, _, h, e => by
    simp only [fitAll, Bool.and_eq_true] at h
    simp at e
    exact e ▸ h.1
  | _ :: _, j + 1, _, h, e => by
    simp only [fitAll, Bool.and_eq_true] at h
    exact fitAll.at (j := j) h.2 (by simpa using e)
/-- a pair of signs -/
def pairOf (S : Str) : PyData → Option (Nat × Nat)
  | .tuple [.str x, .str y] => if signD S (.str x) && signD S (.str y) then some (x.cps.toList.headD 0, y.cps.toList.headD 0) else none
  | _ => none
theorem signD_some {S z : Str} (h : signD S (.str z) = true) : ∃ c, z = ⟨#[c]⟩ ∧ c ∈ S.cps.toList := by
  rw [signD_str, Bool.and_eq_true, decide_eq_true_eq] at h
  obtain ⟨c, rfl⟩ := one_sign h.1
  refine ⟨c, rfl, ?_⟩
  have := h.2
  simpa using this
theorem pairOf_some {S : Str} {d : PyData} {a b : Nat} (h : pairOf S d = some (a, b)) : d = .tuple [.str ⟨#[a]⟩, .str ⟨#[b]⟩] ∧ a ∈ S.cps.toList ∧ b ∈ S.cps.toList := by
  unfold pairOf at h
  split at h
  · rename_i x y
    split at h
    · rename_i hs
      rw [Bool.and_eq_true] at hs
      obtain ⟨c, rfl, hc⟩ := signD_some hs.1
      obtain ⟨e, rfl, he⟩ := signD_some hs.2
      simp at h
      obtain ⟨rfl, rfl⟩ := h
      exact ⟨rfl, hc, he⟩
    · cases h
  · cases h
theorem pairOf_two (S : Str) (x y : PyData) : (pairOf S (.tuple [x, y])).isSome = (signD S x && signD S y) := by
  cases x with
  | str a =>
    cases y with
    | str b =>
      show (if (signD S (.str a) && signD S (.str b)) = true then some _ else none).isSome = _
      cases signD S (.str a) && signD S (.str b) <;> rfl
    | _ => simp [pairOf, signD]
  | _ => simp [pairOf, signD]
theorem pairOf_len (S : Str) {ds : List PyData} (h : ds.length ≠ 2) : (pairOf S (.tuple ds)).isSome = false := by
  match ds, h with
  | [], _ => rfl
  | [x], _ => simp [pairOf]
  | [_, _], h => exact absurd rfl h
  | x :: y :: z :: r, _ => simp [pairOf]
/-- heads as an assoc list: a pair is put both ways -/
def putN (h : List (Nat × Nat)) (a b : Nat) : List (Nat × Nat) := if (h.any fun e => decide (e.1 = a)) = true then h.map (fun e => if e.1 = a then (e.1, b) else e) else h ++ [(a, b)]
def headOf (h : List (Nat × Nat)) (a : Nat) : Option Nat := (h.find? fun e => decide (e.1 = a)).map (·.2)
def headsFrom (S : Str) : List (Nat × Nat) → List PyData → Option (List (Nat × Nat))
  | h, [] => some h
  | h, d :: ds => match pairOf S d with
    | none => none
    | some (a, b) => if (headOf h a).isSome || (headOf h b).isSome then none else headsFrom S (putN (putN h a b) b a) ds
/-- the turns that a dict of heads has, each once, its earlier sign first -/
def dueOf (S : Str) (h : List (Nat × Nat)) : List (Nat × Nat) :=
  ((S.cps.toList.filter fun c => (headOf h c).isSome).map fun c => (c, (headOf h c).getD 0)).filter fun e => decide (S.cps.toList.idxOf e.1 ≤ S.cps.toList.idxOf e.2)
def keptD (S : Str) : PyData → Option (List (Nat × Nat))
  | .list ds => (headsFrom S [] ds).map (dueOf S)
  | .tuple ds => (headsFrom S [] ds).map (dueOf S)
  | _ => none
/-- heads as a dict holds them -/
def toK (h : List (Nat × Nat)) : List (Key × V) := h.map fun e => (Sum.inr ⟨#[e.1]⟩, sg e.2)
theorem sign_inj {a b : Nat} : ((⟨#[a]⟩ : Str) = ⟨#[b]⟩) ↔ a = b := by
  constructor
  · intro e
    injection e with e
    simpa using e
  · intro e
    rw [e]
theorem keyS_inj {a b : Nat} : ((Sum.inr ⟨#[a]⟩ : Key) = Sum.inr ⟨#[b]⟩) ↔ a = b := by
  constructor
  · intro e
    exact sign_inj.mp (Sum.inr.inj e)
  · intro e
    rw [e]
theorem valV_toK (h : List (Nat × Nat)) (a : Nat) : valV (toK h) (Sum.inr ⟨#[a]⟩ : Key) = (headOf h a).map sg := by
  induction h with
  | nil => rfl
  | cons e h ih =>
    by_cases q : e.1 = a
    · have e1 : valV (toK (e :: h)) (Sum.inr ⟨#[a]⟩ : Key) = some (sg e.2) := valV_pos (keyS_inj.mpr q)
      rw [e1]
      simp [headOf, q]
    · have e1 : valV (toK (e :: h)) (Sum.inr ⟨#[a]⟩ : Key) = valV (toK h) (Sum.inr ⟨#[a]⟩ : Key) := valV_neg (fun z => q (keyS_inj.mp z))
      rw [e1, ih]
      simp [headOf, q]
theorem putK_toK (h : List (Nat × Nat)) (a b : Nat) : putK (toK h) (Sum.inr ⟨#[a]⟩ : Key) (sg b) = toK (putN h a b) := by
  have e : ((toK h).any fun kv => decide (kv.1 = (Sum.inr ⟨#[a]⟩ : Key))) = h.any fun e => decide (e.1 = a) := by
    unfold toK
    rw [List.any_map]
    congr 1
    funext x
    simp only [Function.comp]
    rw [decide_eq_decide]
    exact keyS_inj
  unfold putK putN
  rw [e]
  split
  · unfold toK
    rw [List.map_map, List.map_map]
    congr 1
    funext x
    simp only [Function.comp]
    by_cases q : x.1 = a
    · rw [if_pos (keyS_inj.mpr q), if_pos q]
    · rw [if_neg (fun z => q (keyS_inj.mp z)), if_neg q]
  · unfold toK
    rw [List.map_append]
    rfl
theorem dget_toK {H : Hp} {p : Addr} {h : List (Nat × Nat)} (a : Nat) (e : H p = some (.dK (toK h))) : DGet H p (sg a) ((headOf h a).map sg) := by
  rw [← valV_toK]
  exact DGet.k (k := Sum.inr ⟨#[a]⟩) e
theorem dput_toK {H : Hp} {p : Addr} {h : List (Nat × Nat)} (a b : Nat) (e : H p = some (.dK (toK h))) (l : h.length < sizeLine) : DPut H p (sg a) (sg b) (upd H p (.dK (toK (putN h a b)))) := by
  rw [← putK_toK]
  exact DPut.k (k := Sum.inr ⟨#[a]⟩) e (by rw [toK, List.length_map]; exact l)
theorem headOf_putN (h : List (Nat × Nat)) (a b c : Nat) : headOf (putN h a b) c = if c = a then some b else headOf h c := by
  have app : ∀ (h : List (Nat × Nat)), (h.any fun e => decide (e.1 = a)) = false → headOf (h ++ [(a, b)]) c = if c = a then some b else headOf h c := by
    intro h hn
    induction h with
    | nil =>
      by_cases q : a = c
      · subst q; simp [headOf]
      · rw [if_neg (fun e => q e.symm)]
        simp [headOf, q]
    | cons e h ih =>
      rw [List.any_cons, Bool.or_eq_false_iff] at hn
      have hne : e.1 ≠ a := of_decide_eq_false hn.1
      by_cases q : e.1 = c
      · have : c ≠ a := fun z => hne (q.trans z)
        rw [if_neg this]
        simp [headOf, q]
      · have ih := ih hn.2
        have r1 : headOf (e :: h ++ [(a, b)]) c = headOf (h ++ [(a, b)]) c := by simp [headOf, q]
        have r2 : headOf (e :: h) c = headOf h c := by simp [headOf, q]
        rw [r1, r2, ih]
  have rep : ∀ (h : List (Nat × Nat)), headOf (h.map fun e => if e.1 = a then (e.1, b) else e) c = if c = a then (if (h.any fun e => decide (e.1 = a)) = true then some b else none) else headOf h c := by
    intro h
    induction h with
    | nil =>
      by_cases q : c = a
      · rw [if_pos q]; rfl
      · rw [if_neg q]; rfl
    | cons e h ih =>
      by_cases k : e.1 = a
      · have e1 : (List.map (fun e => if e.1 = a then (e.1, b) else e) (e :: h)) = (e.1, b) :: List.map (fun e => if e.1 = a then (e.1, b) else e) h := by
          rw [List.map_cons, if_pos k]
        rw [e1]
        by_cases q : c = a
        · rw [if_pos q]
          simp [headOf, k, q]
        · have n1 : ¬ e.1 = c := fun z => q (z.symm.trans k)
          rw [if_neg q] at ih ⊢
          have r1 : headOf ((e.1, b) :: List.map (fun e => if e.1 = a then (e.1, b) else e) h) c = headOf (List.map (fun e => if e.1 = a then (e.1, b) else e) h) c := by simp [headOf, n1]
          have r2 : headOf (e :: h) c = headOf h c := by simp [headOf, n1]
          rw [r1, r2, ih]
      · have e1 : (List.map (fun e => if e.1 = a then (e.1, b) else e) (e :: h)) = e :: List.map (fun e => if e.1 = a then (e.1, b) else e) h := by
          rw [List.map_cons, if_neg k]
        have e2 : ((e :: h).any fun e => decide (e.1 = a)) = h.any fun e => decide (e.1 = a) := by
          rw [List.any_cons, decide_eq_false k, Bool.false_or]
        rw [e1, e2]
        by_cases q : e.1 = c
        · have : c ≠ a := fun z => k (q.trans z)
          rw [if_neg this]
          simp [headOf, q]
        · have r1 : headOf (e :: List.map (fun e => if e.1 = a then (e.1, b) else e) h) c = headOf (List.map (fun e => if e.1 = a then (e.1, b) else e) h) c := by simp [headOf, q]
          have r2 : headOf (e :: h) c = headOf h c := by simp [headOf, q]
          rw [r1, r2, ih]
  unfold putN
  cases hq : (h.any fun e => decide (e.1 = a)) with
  | true =>
    rw [if_pos rfl, rep h, hq, if_pos rfl]
  | false =>
    rw [if_neg Bool.false_ne_true, app h hq]
theorem Paired.length {α β : Type} {R : α → β → Prop} : ∀ {l : List α} {r : List β}, Paired R l r → l.length = r.length
  | _, _, .nil => rfl
  | _, _, .cons _ t => by simp [Paired.length t]
theorem toK_length (h : List (Nat × Nat)) : (toK h).length = h.length := List.length_map _
theorem putN_length (h : List (Nat × Nat)) (a b : Nat) : (putN h a b).length ≤ h.length + 1 := by
  unfold putN
  split
  · rw [List.length_map]; omega
  · rw [List.length_append]; exact Nat.le_refl _
section
variable {X : Cx}
/-- {} -/
def qDNew : TE := fun _ H Q => ∀ p H1, New H p (.dK []) H1 → Q (.ref p) H1
theorem pe_dnew' {pos : Pos} : PE X (.Dict [] [] pos) qDNew := PE.weak pe_dnewK fun σ H Q q p hp => q p _ (.mk' hp)
end
def sp_isPair (K : PySem.W.Frag) : Sp := fun vs H Q _ => ∃ (S : Str) (v : V) (d : PyData) (p : Addr), vs = [.str S, v] ∧ Rp K p H false v d ∧ fit d = true ∧ ∀ H', Same H H' → Q (.bl (pairOf S d).isSome) H'
def sp_isListed (K : PySem.W.Frag) : Sp := fun vs H Q _ => ∃ (v : V) (d : PyData) (p : Addr), vs = [v] ∧ Rp K p H false v d ∧ ∀ H', Same H H' → Q (.bl (isSeqD d)) H'
def sp_kept (K : PySem.W.Frag) : Sp := fun vs H Q _ => ∃ (S : Str) (v : V) (d : PyData) (p : Addr), vs = [.str S, v] ∧ Rp K p H false v d ∧ fit d = true ∧ S.length ≤ 4000 ∧
  (keptD S d = none → ∀ H', Same H H' → Q .non H') ∧ (∀ ps, keptD S d = some ps → ∀ H' r ys, Same H H' → H r = none → H' r = some (.tup ys) → PairsAt H' ps ys → Q (.ref r) H')
theorem rp_pair {K : PySem.W.Frag} {p : Addr} {H : Hp} {st : Bool} {v : V} {x y : Str} (h : Rp K p H st v (.tuple [.str x, .str y])) : ∃ q, v = .ref q ∧ H q = some (.tup [.str x, .str y]) ∧ q ≠ p := by
  cases h with
  | tup ha hp r =>
    cases r with
    | cons r1 r2 =>
      cases r1
      cases r2 with
      | cons r3 r4 =>
        cases r3
        cases r4
        exact ⟨_, rfl, ha, hp⟩
/-- a list or a tuple of data -/
theorem rp_seq {K : PySem.W.Frag} {p : Addr} {H : Hp} {st : Bool} {v : V} {d : PyData} (h : Rp K p H st v d) (hs : isSeqD d = true) : ∃ a xs ds st2, v = .ref a ∧ (SqL K H a xs ∨ SqT K H a xs) ∧ RpAll K p H st2 xs ds ∧ (d = .list ds ∨ d = .tuple ds) := by
  cases h with
  | lst ha hp _ r => exact ⟨_, _, _, _, rfl, .inl (SqL.of ha), r, .inl rfl⟩
  | tup ha hp r => exact ⟨_, _, _, _, rfl, .inr (SqT.of ha), r, .inr rfl⟩
  | emp h => exact ⟨_, [], [], st, rfl, .inr h.sq, .nil _, .inr rfl⟩
  | _ => cases hs
theorem RpAll.but2 {K : PySem.W.Frag} {p : Addr} {H H1 : Hp} (s : Same H H1) {st : Bool} {ds : List PyData} {vs : List V} (h : RpAll K p H st vs ds) : RpAll K p H1 st vs ds := RpAll.but (.of s) h
theorem headsFrom_cons (S : Str) (h : List (Nat × Nat)) (d : PyData) (ds : List PyData) : headsFrom S h (d :: ds) = match pairOf S d with
    | none => none
    | some (a, b) => if (headOf h a).isSome || (headOf h b).isSome then none else headsFrom S (putN (putN h a b) b a) ds := rfl
theorem at0 (a b : V) : atI [a, b] (0 : Int) = some a := atI_nat (j := 0) rfl
theorem at1 (a b : V) : atI [a, b] (1 : Int) = some b := atI_nat (j := 1) rfl
/-- a for over a list or a tuple that stands since H0 -/
theorem tFor_seq {K : PySem.W.Frag} {tl : TE} {g : TG} {tb : TS} {D : Ends} {σ : L2.St} {H H0 : Hp} {a : Addr} {xs : List V} (hv : ∀ C : VK, C (.ref a) H → tl σ H C) (hq : SqL K H0 a xs ∨ SqT K H0 a xs) (Pv : Nat → L2.St → Hp → Prop) (h0 : Pv 0 σ H)
    (hS : ∀ i σ' H', Pv i σ' H' → Same H0 H')
    (hs : ∀ i x σ' H', i < xs.length → xs[i]? = some x → Pv i σ' H' → g x σ' H' fun σ2 H2 => tb { D with nx := Pv (i + 1), ct := Pv (i + 1), bk := D.nx } σ2 H2) (hd : ∀ σ' H', Pv xs.length σ' H' → D.nx σ' H') : tFor (iSeq K tl) g tb D σ H := by
  refine hv _ ⟨a, xs, rfl, ?_⟩
  rcases hq with hq | hq
  · refine .inl ⟨(hS 0 σ H h0).seq hq, for_it walk_list Pv h0 (fun i σ' H' _ p => (hS i σ' H' p).seq hq) (fun i x σ' H1 H2 hi p y => ?_) hd⟩
    obtain ⟨rfl, hx⟩ := y
    exact hs i x σ' _ hi hx p
  · refine .inr ⟨(hS 0 σ H h0).tupl hq, for_it walk_tup Pv h0 (fun i σ' H' _ p => (hS i σ' H' p).tupl hq) (fun i x σ' H1 H2 hi p y => ?_) hd⟩
    obtain ⟨rfl, hx⟩ := y
    exact hs i x σ' _ hi hx p
/-! ### rules within a comprehension: the written part by its name -/
section
variable {X : Cx} {K : PySem.W.Frag}
theorem ix_tupK (h : X.K = K) : IxR X (rIxT K) := h ▸ ix_tup
theorem ix_listK (h : X.K = K) : IxR X (rIxL K) := h ▸ ix_list
theorem pe_bmSK {o e : Expr} {es : List Expr} {to : TE} {t : TA} {name : Str} {apos cpos : Pos} {T id : String} {r : L2.St → V → List V → Hp → VK → Prop} (h : X.K = K) (pa : PlainAttrs T) (slot : Slot T name id) (hty : typeOf (.builtin id) = pure (.type "method_descriptor")) (hm : MtS X id r) (ho : PE X o to) (ha : PA X (e :: es) t)
    (hbase : attributeBase o name X.env (eval o X.env) = eval o X.env := by rfl)
    (hfew : ((backTo cpos (starEach (e :: es) X.env)).all (fun x => !x.1) && (backToKw cpos (keywordEach [] X.env)).all (fun x => x.1.isSome)
      && decide ((e :: es).length + ([] : List Keyword).length + (if ([] : List Keyword).isEmpty then 0 else 1) < 30)) = true := by rfl)
    (hline : (apos.endLine == cpos.line) = true := by rfl) (hs : starEach (e :: es) X.env = (false, eval e X.env) :: starEach es X.env := by rfl) (hplain : (backTo cpos (starEach es X.env)).any (·.1) = false := by rfl) :
    PE X (.Call (.Attribute o name apos) (e :: es) [] cpos) (tBMS K T r to t) := h ▸ pe_bmS pa slot hty hm ho ha hbase hfew hline hs hplain
end
end My
end
section
set_option Elab.async false
set_option linter.all false
set_option maxRecDepth 100000
set_option maxHeartbeats 4000000
namespace My
open PySem PySem.Spec PyProof.Rows L2
/-- heads of turns: each put both ways -/
def headsAll (ps : List (Nat × Nat)) : List (Nat × Nat) := ps.foldl (fun h e => putN (putN h e.1 e.2) e.2 e.1) []
theorem headsAll_snoc (ps : List (Nat × Nat)) (e : Nat × Nat) : headsAll (ps ++ [e]) = putN (putN (headsAll ps) e.1 e.2) e.2 e.1 := by
  unfold headsAll
  rw [List.foldl_append]
  rfl
theorem headsAll_in {S : List Nat} (ps : List (Nat × Nat)) (h : ∀ e ∈ ps, e.1 ∈ S ∧ e.2 ∈ S) : ∀ c b, headOf (headsAll ps) c = some b → b ∈ S := by
  have aux : ∀ (ps h0 : List (Nat × Nat)), (∀ e ∈ ps, e.1 ∈ S ∧ e.2 ∈ S) → (∀ c b, headOf h0 c = some b → b ∈ S) → ∀ c b, headOf (ps.foldl (fun h e => putN (putN h e.1 e.2) e.2 e.1) h0) c = some b → b ∈ S := by
    intro ps
    induction ps with
    | nil => intro h0 _ i c b q; exact i c b q
    | cons e ps ih =>
      intro h0 m i c b q
      refine ih _ (fun x hx => m x (List.mem_cons_of_mem _ hx)) ?_ c b q
      intro c b hcb
      rw [headOf_putN, headOf_putN] at hcb
      have me := m e List.mem_cons_self
      split at hcb
      · exact Option.some.inj hcb ▸ me.1
      · split at hcb
        · exact Option.some.inj hcb ▸ me.2
        · exact i c b hcb
  exact aux ps [] h (fun c b e => by cases e)
theorem headsAll_le (ps : List (Nat × Nat)) : (headsAll ps).length ≤ 2 * ps.length := by
  have aux : ∀ (ps h0 : List (Nat × Nat)), (ps.foldl (fun h e => putN (putN h e.1 e.2) e.2 e.1) h0).length ≤ h0.length + 2 * ps.length := by
    intro ps
    induction ps with
    | nil => intro h0; exact Nat.le_refl _
    | cons e ps ih =>
      intro h0
      refine Nat.le_trans (ih _) ?_
      have l1 := putN_length h0 e.1 e.2
      have l2 := putN_length (putN h0 e.1 e.2) e.2 e.1
      rw [List.length_cons]
      dsimp only
      omega
  have := aux ps []
  simpa [headsAll] using this
end My
end
section
set_option Elab.async false
set_option linter.all false
set_option maxRecDepth 100000
set_option maxHeartbeats 4000000
/-! B10: mathematics of signs. -/
namespace My
open PySem PySem.Spec PyProof.Rows L2
/-- the text of these signs -/
abbrev mkS (l : List Nat) : Str := ⟨l.toArray⟩
theorem mkS_self (S : Str) : mkS S.cps.toList = S := by
  cases S
  simp [mkS]
theorem mkS_len (l : List Nat) : (mkS l).length = l.length := List.size_toArray
/-- the sign that another shows on its head -/
def turnOf : List (Nat × Nat) → Nat → Option Nat
  | [], _ => none
  | e :: r, c => if c = e.1 then some e.2 else if c = e.2 then some e.1 else turnOf r c
def sgO : Option Nat → V
  | some b => sg b
  | none => .non
/-- the signs of a turn -/
def spread (e : Nat × Nat) : List Nat := if e.1 = e.2 then [e.1] else [e.1, e.2]
/-- a font: signs and turns -/
structure Good (m : Nat) (S : Str) (ps : List (Nat × Nat)) : Prop where
  lo : 2 ≤ S.length
  hi : S.length ≤ m
  nd : S.cps.toList.Nodup
  ab : ∀ c ∈ S.cps.toList, c ∈ alphabet.cps.toList
  tnd : (ps.flatMap spread).Nodup
  tin : ∀ c ∈ ps.flatMap spread, c ∈ S.cps.toList
/-- the sign of a text of one sign -/
def ofSg : V → Nat
  | .str z => z.cps.toList.headD 0
  | _ => 0
theorem perm_signs {l : List Nat} {ys : List V} (h : ys.Perm (l.map sg)) : ∃ k : List Nat, ys = k.map sg ∧ k.Perm l := by
  have back : ∀ k : List Nat, (k.map sg).map ofSg = k := by
    intro k
    rw [List.map_map]
    exact List.map_id k
  refine ⟨ys.map ofSg, ?_, ?_⟩
  · rw [List.map_map]
    have : ∀ y ∈ ys, (sg ∘ ofSg) y = y := by
      intro y hy
      obtain ⟨c, _, rfl⟩ := List.mem_map.mp (h.mem_iff.mp hy)
      rfl
    rw [List.map_congr_left this]
    exact (List.map_id ys).symm
  · have := h.map ofSg
    rw [back] at this
    exact this
theorem join_signs : ∀ l : List Nat, Str.join Str.empty (l.map fun c => (⟨#[c]⟩ : Str)) = ⟨l.toArray⟩
  | [] => rfl
  | [c] => rfl
  | c :: d :: r => by
    have ih := join_signs (d :: r)
    show (⟨#[c]⟩ : Str) ++ Str.empty ++ Str.join Str.empty ((d :: r).map fun c => (⟨#[c]⟩ : Str)) = _
    rw [ih]
    show (⟨(#[c] ++ #[]) ++ (d :: r).toArray⟩ : Str) = _
    congr 1
    simp
theorem sum_ones : ∀ l : List Nat, ((l.map fun c => (⟨#[c]⟩ : Str)).map (·.length)).sum = l.length
  | [] => rfl
  | c :: l => by
    have ih := sum_ones l
    rw [List.map_cons, List.map_cons, List.sum_cons, ih, List.length_cons]
    show 1 + l.length = _
    omega
theorem eqV_sg (a b : Nat) : eqV (sg a) (sg b) = decide (a = b) := by
  show ((⟨#[a]⟩ : Str) == ⟨#[b]⟩) = _
  by_cases h : a = b
  · rw [h, decide_eq_true rfl]
    exact beq_self_eq_true _
  · rw [decide_eq_false h]
    exact beq_eq_false_iff_ne.mpr fun z => h (sign_inj.mp z)
theorem eqV_sgO (o : Option Nat) (b : Nat) : eqV (sgO o) (sg b) = decide (o = some b) := by
  cases o with
  | none => rfl
  | some a =>
    show eqV (sg a) (sg b) = _
    rw [eqV_sg]
    by_cases h : a = b
    · rw [h]; simp
    · rw [decide_eq_false h, decide_eq_false (fun z => h (Option.some.inj z))]
theorem inV_sg (c : Nat) (l : List Nat) : inV (sg c) (l.map sg) = decide (c ∈ l) := by
  induction l with
  | nil => rfl
  | cons a l ih =>
    show (eqV (sg a) (sg c) || inV (sg c) (l.map sg)) = _
    rw [ih, eqV_sg]
    by_cases h : a = c
    · subst h; simp
    · rw [decide_eq_false h, Bool.false_or, decide_eq_decide, List.mem_cons]
      exact ⟨.inr, fun z => z.elim (fun q => absurd q.symm h) id⟩
theorem inV_sgO (c : Nat) (f : Nat → Option Nat) (l : List Nat) : inV (sg c) (l.map fun x => sgO (f x)) = decide (some c ∈ l.map f) := by
  induction l with
  | nil => rfl
  | cons a l ih =>
    show (eqV (sgO (f a)) (sg c) || inV (sg c) (l.map fun x => sgO (f x))) = _
    rw [ih, eqV_sgO]
    by_cases h : f a = some c
    · rw [List.map_cons, h]; simp
    · rw [decide_eq_false h, Bool.false_or, decide_eq_decide, List.map_cons, List.mem_cons]
      exact ⟨.inr, fun z => z.elim (fun q => absurd q.symm h) id⟩
theorem flat_sg (l : List Nat) : (l.map sg).all flatV = true := by
  rw [List.all_eq_true]
  intro x hx
  obtain ⟨c, _, rfl⟩ := List.mem_map.mp hx
  rfl
theorem flat_sgO (f : Nat → Option Nat) (l : List Nat) : (l.map fun x => sgO (f x)).all flatV = true := by
  rw [List.all_eq_true]
  intro x hx
  obtain ⟨c, _, rfl⟩ := List.mem_map.mp hx
  cases f c <;> rfl
theorem filter_sg (p : V → Bool) (l : List Nat) : (l.map sg).filter p = (l.filter fun c => p (sg c)).map sg := by
  induction l with
  | nil => rfl
  | cons a l ih =>
    rw [List.map_cons, List.filter_cons, List.filter_cons, ih]
    cases p (sg a) <;> rfl
theorem dash_sg (c : Nat) : decide (sg c = V.str (PySem.Str.ofString "-")) = decide (c = 45) := by
  have e : PySem.Str.ofString "-" = (⟨#[45]⟩ : Str) := by decide
  rw [e, decide_eq_decide]
  exact ⟨fun z => sign_inj.mp (by injection z), fun z => by rw [z]⟩
theorem join_sg (l : List Nat) : Txt.join (PySem.Str.ofString "") (l.map fun c => (⟨#[c]⟩ : Str)) = mkS l := by
  rw [TL.join_eq]
  exact join_signs l
end My
end
section
set_option Elab.async false
set_option linter.all false
set_option maxRecDepth 100000
set_option maxHeartbeats 4000000
namespace My
open PySem PySem.Spec PyProof.Rows L2
/-! ### a pair turned round: t[::-1] -/
section
variable {prog : Program} {w : World} {A : Around} {E : Value → Shared → Prop} {s : Shared}
theorem applied2 {sl : Addr} {vl vu vs : Value} {Q : Int × Int × Nat → Shared → Prop} (hs : s.heap.IsSliceOf sl vl vu vs) (pl : IsPart vl none) (pu : IsPart vu none) (ps : IsPart vs (some (-1)))
    (h : Q ((1 : Int), -1, 2) s) : wpAny (model prog w) A (Builtin.Slice.sliceApplied (.ref sl) (pure (2 : Int))) Q E s := by
  obtain ⟨os, hos, hcs, hds⟩ := id hs
  unfold Builtin.Slice.sliceApplied Builtin.Slice.sliceFields
  refine wpAny_bind (wpAny_bind (wpAny_field hos hds (x := vl) rfl (wpAny_bind (wpAny_field hos hds (x := vu) rfl
    (wpAny_bind (wpAny_field hos hds (x := vs) rfl (wpAny_pure ?_)))))))
  refine wpAny_bind (HT.slicePart_ ps ?_)
  show wpAny _ _ (if ((-1 : Int) == 0) = true then _ else _) _ _ s
  rw [if_neg (by decide)]
  refine wpAny_bind (HT.slicePart_ pl (wpAny_bind (HT.slicePart_ pu (wpAny_bind (wpAny_pure ?_)))))
  exact wpAny_pure h
theorem get_turned {t sl : Addr} {u v vl vu vs : Value} {Q : Value → Shared → Prop} (ht : IsTup s.heap t #[u, v]) (hs : s.heap.IsSliceOf sl vl vu vs) (pl : IsPart vl none) (pu : IsPart vu none) (ps : IsPart vs (some (-1)))
    (h : Q (.ref s.heap.objs.size) { s with heap := s.heap.push { cls := .type "tuple", data := .seq #[v, u] } }) : wpAny (model prog w) A (getItem (.ref t) (.ref sl)) Q E s := by
  have fits : sizeOk (.seq #[v, u]) := by
    show 2 ≤ sizeLine
    rw [sizeLine_eq]
    decide
  obtain ⟨os, hos, hcs, hds⟩ := id hs
  have isS : s.TypeIs (.ref sl) "slice" := ⟨os, hos, hcs⟩
  unfold getItem
  try with_reducible refine wpAny_holding ?_
  first
    | refine wpAny_bind (wpAny_pure ?_)
    | skip
  refine wpAny_bind (wpAny_sequenceKey ht.typeIs (by decide) ?_)
  refine wpAny_bind (wpAny_callSpecial?_slot (name := Str.ofString "__getitem__") ht.typeIs PyProof.Rows.slot_tuple_getitem
    (wpAny_call_entry PyProof.Rows.slot_tuple_getitem ht.typeIs entry_tuple_getitem ?_ (args_tuple_getitem _ _)))
  show wpAny _ _ (Builtin.Tuple.tupleItemsOf (.ref t) >>= _) _ _ s
  refine wpAny_bind (tupleItemsOf_ ht ?_)
  refine wpAny_bind (wpAny_typeOf isS ?_)
  rw [if_pos (by decide)]
  refine wpAny_bind (applied2 hs pl pu ps ?_)
  show wpAny _ _ (if ((1 : Int) == 0 && (-1 : Int) == 1 && (2 : Nat) == 2) = true then _ else _) _ _ s
  rw [if_neg (by decide)]
  first
    | exact wpAny_bind (m := Builtin.Tuple.tupleExact _) (wpAny_newObj_type (wpAny_pure ⟨_, rfl, wpAny_pure h⟩) fits)
    | exact wpAny_bind (wpAny_bind (m := Builtin.Tuple.tupleExact _) (wpAny_newObj_type (wpAny_pure (wpAny_pure ⟨_, rfl, wpAny_pure h⟩)) fits))
    | exact wpAny_bind (wpAny_bind (m := Builtin.Tuple.tupleExact _) (wpAny_newObj_type (wpAny_pure ⟨_, rfl, wpAny_pure h⟩) fits))
end
/-- t[::-1], t a pair -/
def tTurn (K : PySem.W.Frag) (te : TE) : TE := fun σ H Q => te σ H fun x H1 => ∃ a x1 x2, x = .ref a ∧ SqT K H1 a [x1, x2] ∧ ∀ p H2, New H1 p (.tup [x2, x1]) H2 → Q (.ref p) H2
theorem pe_turn {X : Cx} {e : Expr} {te : TE} {k : Nat} {p1 p2 p3 pos : Pos} (he : PE X e te) : PE X (.Subscript e (.Slice none none (some (.UnaryOp .USub (.Constant (.int 1) k p1) p2)) p3) pos) (tTurn X.K te) := by
  refine ⟨fun pins s σ H Q I h => ?_⟩
  refine Subscript_ (thn (he.run pins s σ H _ I h) fun v s1 ⟨x, H1, I1, r1, q1⟩ => ?_)
  obtain ⟨a, x1, x2, ex, hx, q⟩ := q1
  subst ex
  cases r1
  have step : PO X (some (.UnaryOp .USub (.Constant (.int 1) k p1) p2)) (tPart (tUn (rU fun i => .int (-i)) (tC (.int 1)))) := po_some (pe_un un_neg pe_int)
  refine wpAny_Slice (thn (po_none.run pins s1 σ H1 (fun o H2 => o = none ∧ H2 = H1) I1 ⟨rfl, rfl⟩) fun vl s2 ⟨l, H2, I2, pl, el, e2⟩ => ?_)
  subst el e2
  refine thn (po_none.run pins s2 σ H2 (fun o H3 => o = none ∧ H3 = H2) I2 ⟨rfl, rfl⟩) fun vu s3 ⟨u, H3, I3, pu, eu, e3⟩ => ?_
  subst eu e3
  refine thn (step.run pins s3 σ H3 (fun o H4 => o = some (-1) ∧ H4 = H3) I3 ⟨1, rfl, -1, rfl, rfl, rfl⟩) fun vs s4 ⟨o, H4, I4, ps, eo, e4⟩ => ?_
  subst eo e4
  have I5 : Inv X pins σ H4 { s4 with heap := s4.heap.push { cls := .type "slice", data := .fields #[vl, vu, vs] } } := I4.kept (t' := s4.toks) fun b ob q => Heap.get?_push_of_some _ q
  obtain ⟨its, r, ht, hz⟩ := I5.tuple hx
  cases r with
  | cons r1 r2 =>
    cases r2 with
    | cons r3 r4 =>
      cases r4
      show wpAny (model X.prog X.w) X.A (subscriptTail e (.Slice none none (some (.UnaryOp .USub (.Constant (.int 1) k p1) p2)) p3) (.ref a) (.ref s4.heap.objs.size)) (EP X pins σ Q) X.xe { s4 with heap := s4.heap.push { cls := .type "slice", data := .fields #[vl, vu, vs] } }
      refine tail_any (ops := [.ref a, .ref s4.heap.objs.size]) (show Shared.TypeIs _ (.ref a) "tuple" from ht.typeIs) PyProof.Rows.slot_tuple_getitem.lookup ?_ (by with_unfolding_all rfl)
      refine get_turned ht (Heap.IsSliceOf.new _ vl vu vs) pl pu ps ?_
      refine ⟨.ref _, _, I5.laid (t' := s4.toks) (o := .tup [x2, x1]) (fun b ob q => Heap.get?_push_of_some _ q) (Nat.le_refl _) ?_, rfl, q _ _ (.mk' (I5.hok.fresh (Nat.le_refl _)))⟩
      exact ⟨by show 2 ≤ sizeLine; decide, _, .cons r3 (.cons r1 .nil), IsTup.new _ _⟩
end My
end
section
set_option Elab.async false
set_option linter.all false
set_option maxRecDepth 100000
set_option maxHeartbeats 2000000
namespace My
open PySem PySem.Spec PyProof.Rows L2
/-! ### a list that may hold a dict: it does not stand at sys.modules' place -/
section
variable {X : Cx}
def qLstB (t : TA) : TE := fun σ H Q => t σ H fun xs H1 => xs.length ≤ sizeLine ∧ ∀ p H2, p ≠ sysModules → New H1 p (.lst xs) H2 → Q (.ref p) H2
theorem pe_lstB {es : List Expr} {t : TA} {pos : Pos} (h : PA X es t) : PE X (.List es pos) (qLstB t) := by
  constructor
  intro pins s σ H Q I q
  apply wpAny_List_spliced
  apply thn (h.run pos pins s σ H _ I q)
  intro us s1 hv
  obtain ⟨xs, H1, J, r, z, k⟩ := hv
  have free : H1 s1.heap.objs.size = none := J.hok.fresh (Nat.le_refl _)
  have other : s1.heap.objs.size ≠ sysModules := Nat.ne_of_gt J.big
  constructor
  · rw [← r.length]
    exact z
  have laid : ObjOk X.prog X.w (upd H1 s1.heap.objs.size (.lst xs)) (s1.heap.push { cls := .type "list", data := .seq us.toArray }) s1.heap.objs.size (.lst xs) := ⟨z, us, 0, r, Heap.get?_push_size _ rfl⟩
  have J2 := J.laid (t' := s1.toks) (fun b u e => Heap.get?_push_of_some _ e) (Nat.le_refl _) laid
  exact ⟨.ref s1.heap.objs.size, _, J2, rfl, k _ _ other (.mk' free)⟩
end
end My
end
section
set_option Elab.async false
set_option linter.all false
set_option maxRecDepth 100000
set_option maxHeartbeats 2000000
namespace My
open PySem PySem.Spec PyProof.Rows L2
abbrev s_pick : Stmt := topS 48
abbrev s_shuf : Stmt := topS 49
section
variable {P : Program} {w : World} {K : PySem.W.Frag} {mg : Str → Option Value} {base : Heap}
theorem sc_pick : FnScope ["_law_pen_here", "_law_options"] ["_law_pen_here", "_law_options"] (defScope s_pick) := ⟨rfl, rfl, rfl, by decide +kernel, rfl, by decide +kernel, by decide +kernel⟩
theorem ok_pick {f fD : Addr} {fd fdD : FuncData} (F : Fun K "_law_pick" "_law_pick" s_pick f fd) (T : TDraw mg) (D : Def K mg "_law_draw" fD fdD ["_law_pen_here", "_law_many"]) (G : FnOk P w K mg base CX0 1 fD fdD ["_law_pen_here", "_law_many"] sp_draw) :
    FnOk P w K mg base CX0 2 f fd ["_law_pen_here", "_law_options"] (sp_pick K) := by
  refine F.ok sc_pick (fun vs H Q E h => ?_) (fun cdv A outer s H vs Q E hr h => ?_)
  · obtain ⟨p, c, a, xs, n, rfl, _⟩ := h
    rfl
  · obtain ⟨p, c, a, xs, n, rfl, hP, hn, hS, hap, h0, h1, k⟩ := h
    refine ⟨_, pss_one (ps_ret (pe_ix ix_list (pv 1) (pe_call G hr rfl D.mgf D.kp D.bd .nil pass0 (pa_cons (pv 0) (pa_cons (pe_callB call_len_seq (by rfl) T.len PySem.boot_len (pa_cons (pv 1) pa_nil)) pa_nil))) (fun _ _ => rfl))), ?_⟩
    refine ⟨_, rfl, _, rfl, _, rfl, a, _, rfl, .inl hS, p, c, _, n, rfl, hP, hn, by omega, by omega, fun H' r hD r0 r1 => ?_⟩
    obtain ⟨j, rfl⟩ : ∃ j : Nat, r = j := ⟨_, (Int.toNat_of_nonneg r0).symm⟩
    have hj : j < xs.length := by omega
    exact ⟨a, xs, _, xs[j], rfl, rfl, hD.but.seq hap hS, atI_nat (by simp [hj]), k _ _ hD (List.getElem_mem hj)⟩
theorem sc_shuf : FnScope ["_law_pen_here", "_law_items", "_law_left", "_law_found"] ["_law_pen_here", "_law_items"] (defScope s_shuf) := ⟨rfl, rfl, rfl, by decide +kernel, rfl, by decide +kernel, by decide +kernel⟩
theorem ok_shuf {f fD : Addr} {fd fdD : FuncData} (F : Fun K "_law_shuffled" "_law_shuffled" s_shuf f fd) (T : TDraw mg) (Tl : mg "list" = none) (D : Def K mg "_law_draw" fD fdD ["_law_pen_here", "_law_many"]) (G : FnOk P w K mg base CX0 1 fD fdD ["_law_pen_here", "_law_many"] sp_draw) :
    FnOk P w K mg base CX0 2 f fd ["_law_pen_here", "_law_items"] (sp_shuf K) := by
  refine F.ok sc_shuf (fun vs H Q E h => ?_) (fun cdv A outer s H vs Q E hr h => ?_)
  · obtain ⟨p, c, x, xs, n, rfl, _⟩ := h
    rfl
  · obtain ⟨p, c, x, xs, n, rfl, hP, hn, hS, hxl, k⟩ := h
    refine ⟨_, pss_cons (ps_par (i := 2) (j := 3) rfl sc_shuf.nd rfl rfl (by decide) rfl rfl (pa_cons (pe_callTy (call_listAny hr.hd) (by rfl) Tl (by decide +kernel) (pa_cons (pv 1) pa_nil)) (pa_cons (pe_lst' pa_nil) pa_nil)) (by rfl))
      (pss_cons (ps_while PassesOwn.never (pt_cmpR (op_neNil hr.units0) (pv 2) (pe_lst' pa_nil) (nomark _))
        (pss_one (ps_expr (pe_bm PySem.F.plainAttrs_list PySem.F.slot_list_append PySem.F.type_list_append mt_append' (pv 3) (pa_cons
          (pe_bm PySem.F.plainAttrs_list PySem.F.slot_list_pop PySem.F.type_list_pop mt_popAt' (pv 2) (pa_cons (pe_call G hr rfl D.mgf D.kp D.bd .nil pass0 (pa_cons (pv 0) (pa_cons (pe_callB call_len_seq (by rfl) T.len PySem.boot_len (pa_cons (pv 2) pa_nil)) pa_nil))) pa_nil)) pa_nil)))))
      (pss_one (ps_ret (pv 3)))), ?_⟩
    refine ⟨_, rfl, x, xs, rfl, hS, fun a H1 n1 => ⟨by decide, fun b H2 n2 => ⟨_, _, rfl, ?_⟩⟩⟩
    have hpa : p ≠ a := hP.ne n1.free
    have hpb : p ≠ b := (hP.same n1.same).ne n2.free
    have hca : c ≠ a := hP.neC n1.free
    have hcb : c ≠ b := (hP.same n1.same).neC n2.free
    have hab : a ≠ b := ne_of_none n1.here n2.free
    have hb0 : H b = none := by
      cases e : H b with
      | none => rfl
      | some o => have := n1.same _ _ e; rw [n2.free] at this; cases this
    have s2 : Same H H2 := n1.same.trans n2.same
    refine while_by (fun σ H' => ∃ (left found : List V) (m : Nat), σ = [some (.ref p), some x, some (.ref a), some (.ref b)] ∧ H' a = some (.lst left) ∧ H' b = some (.lst found) ∧ But p H H' ∧ PenAt H' p c m ∧ m + left.length ≤ n + xs.length ∧ (found ++ left).Perm xs)
      (fun _ H' => match H' a with | some (.lst l) => l.length | _ => 0) ⟨xs, [], n, rfl, n2.same _ _ n1.here, n2.here, .of s2, hP.same s2, Nat.le_refl _, by simp⟩ ?_ ?_
    · rintro σ H3 ⟨left, found, m, rfl, ha, hb, hB, hP3, hm, hperm⟩
      have hlen := hperm.length_eq
      rw [List.length_append] at hlen
      refine ⟨_, rfl, by decide, fun q H4 n4 => ⟨a, q, left, rfl, rfl, SqL.of (n4.same _ _ ha), n4.here, _, rfl, ?_⟩⟩
      have ha4 := n4.same _ _ ha
      have hb4 := n4.same _ _ hb
      have hP4 := hP3.same n4.same
      refine ite2 (fun ht => ?_) (fun hf => ?_)
      · have hpos : 0 < left.length := by
          cases left with
          | nil => simp at ht
          | cons _ _ => simp
        refine ⟨_, rfl, .inl ⟨rfl, _, SqL.of hb4⟩, _, rfl, .inl ⟨rfl, _, SqL.of ha4⟩, _, rfl, _, rfl, a, _, rfl, .inl (SqL.of ha4), p, c, _, m, rfl, hP4, by omega, by omega, by omega, fun H5 r hD r0 r1 => ?_⟩
        obtain ⟨j, rfl⟩ : ∃ j : Nat, r = j := ⟨_, (Int.toNat_of_nonneg r0).symm⟩
        have hj : j < left.length := by omega
        have ha5 := hD.but a _ hpa.symm ha4
        have hb5 := hD.but b _ hpb.symm hb4
        refine ⟨a, left, left[j], j, rfl, rfl, ha5, by simp [hj], by omega, fun H6 w6 => ?_⟩
        have hb6 : H6 b = some (.lst found) := (w6.els b hab.symm).trans hb5
        have fits : found.length < sizeLine := Nat.lt_of_le_of_lt (show found.length ≤ 1000000 by omega) (by decide)
        refine ⟨b, found, left[j], rfl, rfl, hb6, fits, fun H7 w7 => ?_⟩
        refine ⟨⟨left.eraseIdx j, found ++ [left[j]], m + 1, rfl, (w7.els a hab).trans w6.here, w7.here, ?_, ?_, ?_, ?_⟩, ?_⟩
        · exact But.wr (But.wr ((hB.trans (.of n4.same)).trans hD.but) n1.free w6) hb0 w7
        · exact (hD.pen.els w6 hpa hca).els w7 hpb hcb
        · rw [List.length_eraseIdx_of_lt hj]
          omega
        · rw [List.append_assoc]
          exact (List.Perm.append_left found (perm_eraseIdx hj)).trans hperm
        · show (match H7 a with | some (.lst l) => l.length | _ => 0) < (match H3 a with | some (.lst l) => l.length | _ => 0)
          rw [(w7.els a hab).trans w6.here, ha]
          show (left.eraseIdx j).length < left.length
          rw [List.length_eraseIdx_of_lt hj]
          omega
      · have hnil : left = [] := by
          cases left with
          | nil => rfl
          | cons _ _ => simp at hf
        subst hnil
        rw [List.append_nil] at hperm
        exact ⟨_, rfl, k _ b found ⟨hB.trans (.of n4.same), hP4.mono (by rw [List.length_nil] at hm; omega)⟩ hb0 hb4 hperm⟩
    · intro σ H Q Q' m h
      obtain ⟨v, e, h0, h⟩ := h
      refine ⟨v, e, h0, fun q H' n => ?_⟩
      obtain ⟨a, b, xs, e1, e2, h1, h2, k, e3, h3⟩ := h q H' n
      exact ⟨a, b, xs, e1, e2, h1, h2, k, e3, m _ _ h3⟩
end
end My
end
section
set_option Elab.async false
set_option linter.all false
set_option maxRecDepth 100000
set_option maxHeartbeats 4000000
namespace My
open PySem PySem.Spec PyProof.Rows L2
abbrev s_flip : Stmt := topS 55
abbrev s_font : Stmt := topS 50
def sp_flip (K : PySem.W.Frag) : Sp := fun vs H Q _ => ∃ (p c q : Addr) (x y : V) (n : Nat), vs = [.ref p, .ref q] ∧ PenAt H p c n ∧ n < 2 ^ 60 ∧ H q = some (.tup [x, y]) ∧
  ∀ H' r, DrewP H p c (n + 1) H' → (H' r = some (.tup [x, y]) ∨ H' r = some (.tup [y, x])) → Q (.ref r) H'
def sp_font (K : PySem.W.Frag) : Sp := fun vs H Q _ => ∃ (p c : Addr) (m n : Nat), vs = [.ref p, .int m] ∧ PenAt H p c n ∧ n < 2 ^ 50 ∧ 2 ≤ m ∧ m ≤ 10 ∧
  ∀ H' t a S ys ps, DrewP H p c (n + 40) H' → H t = none → H a = none → H' t = some (.tup [.str S, .ref a]) → H' a = some (.lst ys) → PairsAt H' ps ys → Good m S ps → a ≠ sysModules → Q (.ref t) H'
section
variable {P : Program} {w : World} {K : PySem.W.Frag} {mg : Str → Option Value} {base : Heap}
theorem sc_flip : FnScope ["_law_pen_here", "_law_pair"] ["_law_pen_here", "_law_pair"] (defScope s_flip) := ⟨rfl, rfl, rfl, by decide +kernel, rfl, by decide +kernel, by decide +kernel⟩
theorem ok_flip {f fP : Addr} {fd fdP : FuncData} (F : Fun K "_law_flipped" "_law_flipped" s_flip f fd) (D : Def K mg "_law_pick" fP fdP ["_law_pen_here", "_law_options"]) (G : FnOk P w K mg base CX0 2 fP fdP ["_law_pen_here", "_law_options"] (sp_pick K)) :
    FnOk P w K mg base CX0 3 f fd ["_law_pen_here", "_law_pair"] (sp_flip K) := by
  refine F.ok sc_flip (fun vs H Q E h => ?_) (fun cdv A outer s H vs Q E hr h => ?_)
  · obtain ⟨p, c, q, x, y, n, rfl, _⟩ := h
    rfl
  · obtain ⟨p, c, q, x, y, n, rfl, hP, hn, hq, k⟩ := h
    refine ⟨_, pss_one (ps_ret (pe_call G hr rfl D.mgf D.kp D.bd .nil pass0 (pa_cons (pv 0) (pa_cons (pe_lst' (pa_cons (pv 1) (pa_cons (pe_turn (pv 1)) pa_nil))) pa_nil)))), ?_⟩
    refine ⟨_, rfl, _, rfl, _, rfl, q, x, y, rfl, SqT.of hq, fun r H1 n1 => ⟨by show 2 ≤ sizeLine; decide, fun a H2 n2 => ?_⟩⟩
    have s2 : Same H H2 := n1.same.trans n2.same
    have ha : a ≠ p := fun e => (hP.same n1.same).ne n2.free e.symm
    have hqp : q ≠ p := hP.neT hq
    have hrp : r ≠ p := fun e => hP.ne n1.free e.symm
    refine ⟨p, c, a, _, n, rfl, hP.same s2, hn, SqL.of n2.here, ha, by show 0 < 2; decide, by show 2 ≤ 1000000; decide, fun H3 v hD hv => ?_⟩
    have dr : DrewP H p c (n + 1) H3 := ⟨(But.of s2).trans hD.but, hD.pen⟩
    rcases List.mem_cons.mp hv with rfl | hv
    · exact k _ _ dr (.inl (hD.but _ _ hqp (s2 _ _ hq)))
    · rcases List.mem_cons.mp hv with rfl | hv
      · exact k _ _ dr (.inr (hD.but _ _ hrp (n2.same _ _ n1.here)))
      · cases hv
theorem sc_font : FnScope ["_law_pen_here", "_law_most", "_law_many", "_law_pool", "_law_signs", "_law_left", "_law_turns", "_law_one", "_law_way"] ["_law_pen_here", "_law_most"] (defScope s_font) := ⟨rfl, rfl, rfl, by decide +kernel, rfl, by decide +kernel, by decide +kernel⟩
theorem ok_font {f fD fP fS : Addr} {fd fdD fdP fdS : FuncData} (F : Fun K "_law_font" "_law_font" s_font f fd) (D : Def K mg "_law_draw" fD fdD ["_law_pen_here", "_law_many"]) (G : FnOk P w K mg base CX0 1 fD fdD ["_law_pen_here", "_law_many"] sp_draw)
    (DP : Def K mg "_law_pick" fP fdP ["_law_pen_here", "_law_options"]) (GP : FnOk P w K mg base CX0 2 fP fdP ["_law_pen_here", "_law_options"] (sp_pick K))
    (DS : Def K mg "_law_shuffled" fS fdS ["_law_pen_here", "_law_items"]) (GS : FnOk P w K mg base CX0 2 fS fdS ["_law_pen_here", "_law_items"] (sp_shuf K)) :
    FnOk P w K mg base CX0 3 f fd ["_law_pen_here", "_law_most"] (sp_font K) := by
  refine F.ok sc_font (fun vs H Q E h => ?_) (fun cdv A outer s H vs Q E hr h => ?_)
  · obtain ⟨p, c, m, n, rfl, _⟩ := h
    rfl
  · obtain ⟨p, c, m, n, rfl, hP, hn, hm2, hm, k⟩ := h
    have hr1 : Room 1 _ := hr.mono (by decide)
    refine ⟨_, pss_cons (ps_set (i := 2) sc_font.nd rfl (Or.inl rfl) (pe_op op_add pe_int (pe_call G hr1 rfl D.mgf D.kp D.bd .nil pass0 (pa_cons (pv 0) (pa_cons (pe_op op_sub (pv 1) pe_int) pa_nil)))))
      (pss_cons (ps_set (i := 3) sc_font.nd rfl (Or.inl rfl) (pe_call GP hr rfl DP.mgf DP.kp DP.bd .nil pass0 (pa_cons (pv 0) (pa_cons (pe_lst' (pa_cons pe_str (pa_cons pe_str (pa_cons pe_str (pa_cons pe_str pa_nil))))) pa_nil))))
      (pss_cons (ps_set (i := 4) sc_font.nd rfl (Or.inl rfl) (pe_join pe_str (pe_slice sl_list' (pe_call GS hr rfl DS.mgf DS.kp DS.bd .nil pass0 (pa_cons (pv 0) (pa_cons (pe_slice sl_str (pv 3) po_none (po_some pe_int)) pa_nil))) po_none (po_some (pv 2)))))
      (pss_cons (ps_par (i := 5) (j := 6) rfl sc_font.nd rfl rfl (by decide) rfl rfl (pa_cons (pe_call GS hr rfl DS.mgf DS.kp DS.bd .nil pass0 (pa_cons (pv 0) (pa_cons (pv 4) pa_nil))) (pa_cons (pe_lstB pa_nil) pa_nil)) (by rfl))
      (pss_cons (ps_while PassesOwn.never (pt_cmpR (op_neNil hr.units0) (pv 5) (pe_lst' pa_nil) (nomark _))
        (pss_cons (ps_par (i := 7) (j := 8) rfl sc_font.nd rfl rfl (by decide) rfl rfl (pa_cons (pe_bm0 PySem.F.plainAttrs_list PySem.F.slot_list_pop PySem.F.type_list_pop mt_pop' (pv 5)) (pa_cons (pe_call G hr1 rfl D.mgf D.kp D.bd .nil pass0 (pa_cons (pv 0) (pa_cons pe_int pa_nil))) pa_nil)) (by rfl))
        (pss_cons (ps_if (pt_cmpR op_eq (pv 8) pe_int (nomark _)) (pss_one (ps_expr (pe_bm PySem.F.plainAttrs_list PySem.F.slot_list_append PySem.F.type_list_append mt_append' (pv 6) (pa_cons (pe_tup' (pa_cons (pv 7) (pa_cons (pv 7) pa_nil))) pa_nil)))) pss_nil)
        (pss_one (ps_if (PW.pt (pw_and (pt_cmpR op_eq (pv 8) pe_int (nomark _)) (pw_and1 (pt_cmpR (op_neNil hr.units0) (pv 5) (pe_lst' pa_nil) (nomark _)))))
          (pss_one (ps_expr (pe_bm PySem.F.plainAttrs_list PySem.F.slot_list_append PySem.F.type_list_append mt_append' (pv 6) (pa_cons (pe_tup' (pa_cons (pv 7) (pa_cons (pe_bm0 PySem.F.plainAttrs_list PySem.F.slot_list_pop PySem.F.type_list_pop mt_pop' (pv 5)) pa_nil))) pa_nil)))) pss_nil)))))
      (pss_one (ps_ret (pe_tup' (pa_cons (pv 4) (pa_cons (pv 6) pa_nil))))))))), ?_⟩
    refine ⟨_, rfl, _, rfl, _, _, rfl, rfl, p, c, (m : Int) - 1, n, rfl, hP, by omega, by omega, by omega, fun H1 r d1 r0 r1 => ?_⟩
    refine ⟨_, _, rfl, rfl, ?_⟩
    obtain ⟨j, rfl⟩ : ∃ j : Nat, r = j := ⟨_, (Int.toNat_of_nonneg r0).symm⟩
    have hk2 : ((2 : Int) + (j : Int)) = ((2 + j : Nat) : Int) := by omega
    have hkm : 2 + j ≤ m := by omega
    refine ⟨_, rfl, by show 4 ≤ sizeLine; decide, fun a2 H2 n2 => ?_⟩
    have P2 := d1.pen.same n2.same
    refine ⟨p, c, a2, _, n + 1, rfl, P2, by omega, SqL.of n2.here, fun e => d1.pen.ne n2.free e.symm, by show 0 < 4; decide, by show 4 ≤ 1000000; decide, fun H3 v d3 hv => ?_⟩
    have pool : ∃ z : Str, v = .str z ∧ 10 ≤ z.length ∧ z.length ≤ 26 ∧ z.cps.toList.Nodup ∧ ∀ c ∈ z.cps.toList, c ∈ alphabet.cps.toList := by
      rcases List.mem_cons.mp hv with rfl | hv
      · exact ⟨_, rfl, by decide, by decide, by decide +kernel, by decide +kernel⟩
      rcases List.mem_cons.mp hv with rfl | hv
      · exact ⟨_, rfl, by decide, by decide, by decide +kernel, by decide +kernel⟩
      rcases List.mem_cons.mp hv with rfl | hv
      · exact ⟨_, rfl, by decide, by decide, by decide +kernel, by decide +kernel⟩
      rcases List.mem_cons.mp hv with rfl | hv
      · exact ⟨_, rfl, by decide, by decide, by decide +kernel, by decide +kernel⟩
      cases hv
    obtain ⟨z, rfl, z10, z26, znd, zab⟩ := pool
    have cutE : (cutS z none (some (10 : Int))).cps.toList = z.cps.toList.take 10 := by
      show (((z.cps.toList.drop (HT.sIx z.length 0 none)).take (HT.sIx z.length z.length (some ((10 : Nat) : Int)) - HT.sIx z.length 0 none)).toArray).toList = _
      rw [HT.sIx_none, HT.sIx_nat, List.drop_zero, Nat.sub_zero, Nat.min_eq_left z10]
    have cutL : (signs (cutS z none (some (10 : Int)))).length = 10 := by
      unfold signs
      rw [List.length_map, cutE, List.length_take]
      have : z.cps.toList.length = z.length := Array.length_toList
      omega
    have dA : DrewP H p c (n + 2) H3 := ⟨(d1.but.trans (.of n2.same)).trans d3.but, d3.pen⟩
    refine ⟨⟨_, rfl⟩, _, rfl, _, rfl, 10, rfl, z, rfl, Nat.le_trans z26 (by decide), ?_⟩
    refine ⟨p, c, _, _, n + 2, rfl, dA.pen, by rw [cutL]; omega, SqA.str (by rw [← signs_len, cutL]; decide), by rw [cutL]; decide, fun H4 r4 ys4 d4 f4 h4 hp4 => ?_⟩
    obtain ⟨l4, rfl, hl4⟩ := perm_signs hp4
    rw [cutE] at hl4
    have len4 : l4.length = 10 := by
      rw [hl4.length_eq, List.length_take]
      have : z.cps.toList.length = z.length := Array.length_toList
      omega
    refine ⟨_, rfl, _, rfl, r4, _, rfl, SqL.of h4, fun q5 H5 n5 => ?_⟩
    have cut5 : cutV (l4.map sg) none (some ((2 : Int) + (j : Int))) = ((l4.take (2 + j)).map fun c => (⟨#[c]⟩ : Str)).map V.str := by
      rw [hk2, cutV_to, List.map_map, ← List.map_take]
      rfl
    have n5' : New H4 q5 (.lst (((l4.take (2 + j)).map fun c => (⟨#[c]⟩ : Str)).map V.str)) H5 := by
      rw [← cut5]
      exact n5
    have hjl : (l4.take (2 + j)).length = 2 + j := by
      rw [List.length_take]
      omega
    refine ⟨_, q5, _, rfl, rfl, .inl (SqL.of n5'.here), ?_, ?_⟩
    · rw [sum_ones, hjl]
      have : (PySem.Str.ofString "").length = 0 := by decide
      rw [this]
      omega
    have jE : Txt.join (PySem.Str.ofString "") ((l4.take (2 + j)).map fun c => (⟨#[c]⟩ : Str)) = ⟨(l4.take (2 + j)).toArray⟩ := by
      rw [TL.join_eq]
      exact join_signs _
    rw [jE]
    have good : ∃ S : Str, S = ⟨(l4.take (2 + j)).toArray⟩ ∧ 2 ≤ S.length ∧ S.length ≤ m ∧ S.cps.toList.Nodup ∧ ∀ c ∈ S.cps.toList, c ∈ alphabet.cps.toList := by
      refine ⟨_, rfl, ?_, ?_, ?_, ?_⟩
      · show 2 ≤ (l4.take (2 + j)).toArray.size
        rw [List.size_toArray, hjl]
        omega
      · show (l4.take (2 + j)).toArray.size ≤ m
        rw [List.size_toArray, hjl]
        exact hkm
      · show (l4.take (2 + j)).Nodup
        exact (hl4.nodup_iff.mpr (znd.sublist (List.take_sublist _ _))).sublist (List.take_sublist _ _)
      · intro c hc
        have hc : c ∈ l4.take (2 + j) := hc
        exact zab c (List.mem_of_mem_take (hl4.mem_iff.mp (List.mem_of_mem_take hc)))
    obtain ⟨S, eS, S2, Sm, Snd, Sab⟩ := good
    rw [← eS]
    have dB : DrewP H p c (n + 12) H5 := by
      have d4' : DrewP H3 p c (n + 12) H4 := by
        have e : n + 2 + (signs (cutS z none (some (10 : Int)))).length = n + 12 := by rw [cutL]
        rw [← e]
        exact d4
      exact (dA.trans d4').new n5
    have lS : (signs S).length = S.length := signs_len S
    refine ⟨_, rfl, _, rfl, p, c, .str S, _, n + 12, rfl, dB.pen, by omega, SqA.str (Nat.le_trans Sm (Nat.le_trans hm (by decide))), by rw [lS]; omega, fun H6 a ys6 d6 f6 h6 hp6 => ⟨by decide, fun b H7 bs n7 => ⟨_, _, rfl, ?_⟩⟩⟩
    obtain ⟨l6, rfl, hl6⟩ := perm_signs hp6
    have dC : DrewP H p c (n + 22) H7 := ((dB.trans d6).new n7).mono (by rw [lS]; omega)
    have len6 : l6.length ≤ 10 := by
      rw [hl6.length_eq]
      have : S.cps.toList.length = S.length := Array.length_toList
      omega
    have hpa : p ≠ a := dB.pen.ne f6
    have hca : c ≠ a := dB.pen.neC f6
    have hpb : p ≠ b := d6.pen.ne n7.free
    have hcb : c ≠ b := d6.pen.neC n7.free
    have hab : a ≠ b := ne_of_none h6 n7.free
    have ha0 : H a = none := dB.but.free hpa.symm f6
    have hb0 : H b = none := (dB.but.trans d6.but).free hpb.symm n7.free
    refine while_by (fun σ H' => ∃ (l : List Nat) (ps : List (Nat × Nat)) (ys : List V) (w1 w2 : Option V) (cnt : Nat), σ = [some (.ref p), some (.int m), some (.int ((2 : Int) + (j : Int))), some (.str z), some (.str S), some (.ref a), some (.ref b), w1, w2] ∧
        H' a = some (.lst (l.map sg)) ∧ H' b = some (.lst ys) ∧ PairsAt H' ps ys ∧ But p H H' ∧ PenAt H' p c cnt ∧ cnt + l.length ≤ n + 32 ∧ l.length + ps.length ≤ 10 ∧ (l ++ ps.flatMap spread).Nodup ∧ ∀ c ∈ l ++ ps.flatMap spread, c ∈ S.cps.toList)
      (fun _ H' => match H' a with | some (.lst l) => l.length | _ => 0)
      ⟨l6, [], [], none, none, n + 22, rfl, n7.same _ _ h6, n7.here, .nil, dC.but, dC.pen, by omega, by simpa using len6, by simpa using hl6.nodup_iff.mpr Snd, by simpa using fun c hc => hl6.mem_iff.mp hc⟩ ?_ ?_
    · rintro σ H3 ⟨l, ps, ys, w1, w2, cnt, rfl, ha, hb, hPs, hB, hPen, hcnt, hlp, hnd, hin⟩
      refine ⟨_, rfl, by decide, fun q H4 n4 => ⟨a, q, _, rfl, rfl, SqL.of (n4.same _ _ ha), n4.here, _, rfl, ?_⟩⟩
      have ha4 := n4.same _ _ ha
      have hb4 := n4.same _ _ hb
      have hP4 := hPen.same n4.same
      have hPs4 := hPs.same n4.same
      have hB4 : But p H H4 := hB.trans (.of n4.same)
      refine ite2 (fun ht => ?_) (fun hf => ?_)
      · have lne : l ≠ [] := by
          intro e
          rw [e] at ht
          simp at ht
        obtain ⟨l', o, rfl⟩ : ∃ l' o, l = l' ++ [o] := ⟨l.dropLast, l.getLast lne, (List.dropLast_concat_getLast lne).symm⟩
        have hmap : (l' ++ [o]).map sg = l'.map sg ++ [sg o] := by simp
        rw [hmap] at ha4
        refine ⟨_, rfl, .inl ⟨rfl, _, SqL.of ha4⟩, a, _, sg o, rfl, rfl, ha4, by simp, fun H5 w5 => ⟨_, rfl, p, c, 3, cnt, rfl, hP4.els w5 hpa hca, by omega, by decide, by decide, fun H8 r d8 r0 r1 => ⟨_, _, rfl, ?_⟩⟩⟩
        rw [List.dropLast_concat] at w5
        rw [List.length_append, List.length_singleton] at hcnt hlp
        have hb5 : H5 b = some (.lst ys) := (w5.els b hab.symm).trans hb4
        have hPs5 : PairsAt H5 ps ys := Paired.map (fun e y hy => by
          obtain ⟨q', e1, e2⟩ := hy
          exact ⟨q', e1, (w5.els q' (ne_of e2 ha4 (by intro z; cases z))).trans e2⟩) hPs4
        have ha8 : H8 a = some (.lst (l'.map sg)) := d8.but _ _ hpa.symm w5.here
        have hb8 : H8 b = some (.lst ys) := d8.but _ _ hpb.symm hb5
        have hPs8 : PairsAt H8 ps ys := Paired.map (fun e y hy => by
          obtain ⟨q', e1, e2⟩ := hy
          exact ⟨q', e1, d8.but _ _ ((hP4.els w5 hpa hca).neT e2) e2⟩) hPs5
        have hB8 : But p H H8 := (But.wr hB4 ha0 w5).trans d8.but
        have ylen := hPs8.length
        have small : ys.length < sizeLine := Nat.lt_of_le_of_lt (show ys.length ≤ 100 by omega) (by decide)
        have less : l'.length < (l' ++ [o]).length := by simp
        have hr3 : r = 0 ∨ r = 1 ∨ r = 2 := by omega
        rcases hr3 with rfl | rfl | rfl
        · refine ⟨_, rfl, rfl, _, rfl, ?_⟩
          refine iteF ⟨_, rfl, rfl, _, rfl, ?_⟩
          refine iteF (iteF ?_)
          refine ⟨⟨l', ps, ys, _, _, cnt + 1, rfl, ha8, hb8, hPs8, hB8, d8.pen, by omega, by omega, ?_, ?_⟩, ?_⟩
          · exact (hnd.sublist (List.Sublist.append_right (List.sublist_append_left _ _) _))
          · intro c hc
            refine hin c ?_
            rw [List.append_assoc]
            rcases List.mem_append.mp hc with hc | hc
            · exact List.mem_append_left _ hc
            · exact List.mem_append_right _ (List.mem_append_right _ hc)
          · show (match H8 a with | some (.lst l) => l.length | _ => 0) < (match H3 a with | some (.lst l) => l.length | _ => 0)
            rw [ha8, ha]
            simp
        · refine ⟨_, rfl, rfl, _, rfl, ?_⟩
          refine iteT ⟨_, rfl, .inl ⟨rfl, _, SqL.of hb8⟩, _, rfl, _, rfl, by show 2 ≤ sizeLine; decide, fun e H9 n9 => ⟨b, ys, .ref e, rfl, rfl, n9.same _ _ hb8, small, fun H10 w10 => ?_⟩⟩
          refine ⟨_, rfl, rfl, _, rfl, ?_⟩
          refine iteF (iteF ?_)
          have hbe : e ≠ b := (ne_of_none hb8 n9.free).symm
          have hb9 : H9 b = some (.lst ys) := n9.same _ _ hb8
          have hP9 : PairsAt H10 (ps ++ [(o, o)]) (ys ++ [.ref e]) := Paired.snoc (Paired.map (fun e' y hy => by
            obtain ⟨q', e1, e2⟩ := hy
            exact ⟨q', e1, (w10.els q' (ne_of e2 hb9 (by intro z; cases z))).trans e2⟩) (hPs8.same n9.same)) ⟨e, rfl, (w10.els e hbe).trans n9.here⟩
          have fm : (ps ++ [(o, o)]).flatMap spread = ps.flatMap spread ++ [o] := by
            rw [List.flatMap_append]
            simp [spread]
          have pm : (l' ++ (ps ++ [(o, o)]).flatMap spread).Perm (l' ++ [o] ++ ps.flatMap spread) := by
            rw [fm, List.append_assoc]
            exact List.Perm.append_left l' List.perm_append_comm
          refine ⟨⟨l', ps ++ [(o, o)], ys ++ [.ref e], _, _, cnt + 1, rfl, (w10.els a hab).trans (n9.same _ _ ha8), w10.here, hP9, But.wr (hB8.trans (.of n9.same)) hb0 w10, (d8.pen.same n9.same).els w10 hpb hcb, by omega, by rw [List.length_append, List.length_singleton]; omega, pm.nodup_iff.mpr hnd, fun c hc => hin c (pm.mem_iff.mp hc)⟩, ?_⟩
          show (match H10 a with | some (.lst l) => l.length | _ => 0) < (match H3 a with | some (.lst l) => l.length | _ => 0)
          rw [(w10.els a hab).trans (n9.same _ _ ha8), ha]
          simp
        · refine ⟨_, rfl, rfl, _, rfl, ?_⟩
          refine iteF ⟨_, rfl, rfl, _, rfl, ?_⟩
          refine iteT ⟨_, rfl, by decide, fun q2 H9 n9 => ⟨a, q2, _, rfl, rfl, SqL.of (n9.same _ _ ha8), n9.here, _, rfl, ?_⟩⟩
          have ha9 := n9.same _ _ ha8
          have hb9 := n9.same _ _ hb8
          refine ite2 (fun ht2 => ?_) (fun hf2 => ?_)
          · have lne2 : l' ≠ [] := by
              intro e
              rw [e] at ht2
              simp at ht2
            obtain ⟨k', o2, rfl⟩ : ∃ k' o2, l' = k' ++ [o2] := ⟨l'.dropLast, l'.getLast lne2, (List.dropLast_concat_getLast lne2).symm⟩
            have hmap2 : (k' ++ [o2]).map sg = k'.map sg ++ [sg o2] := by simp
            rw [hmap2] at ha9
            refine ⟨_, rfl, .inl ⟨rfl, _, SqL.of hb9⟩, _, rfl, _, rfl, .inl ⟨rfl, _, SqL.of ha9⟩, a, _, sg o2, rfl, rfl, ha9, by simp, fun H10 w10 => ⟨by show 2 ≤ sizeLine; decide, fun e H11 n11 => ?_⟩⟩
            rw [List.dropLast_concat] at w10
            have hb10 : H10 b = some (.lst ys) := (w10.els b hab.symm).trans hb9
            have hb11 : H11 b = some (.lst ys) := n11.same _ _ hb10
            refine ⟨b, ys, .ref e, rfl, rfl, hb11, small, fun H12 w12 => ?_⟩
            have hbe : e ≠ b := (ne_of_none hb10 n11.free).symm
            have hP10 : PairsAt H10 ps ys := Paired.map (fun e' y hy => by
              obtain ⟨q', e1, e2⟩ := hy
              exact ⟨q', e1, (w10.els q' (ne_of e2 ha9 (by intro z; cases z))).trans e2⟩) (hPs8.same n9.same)
            have hP12 : PairsAt H12 (ps ++ [(o, o2)]) (ys ++ [.ref e]) := Paired.snoc (Paired.map (fun e' y hy => by
              obtain ⟨q', e1, e2⟩ := hy
              exact ⟨q', e1, (w12.els q' (ne_of e2 hb11 (by intro z; cases z))).trans e2⟩) (hP10.same n11.same)) ⟨e, rfl, (w12.els e hbe).trans n11.here⟩
            have one : o ≠ o2 := by
              intro z
              rw [z] at hnd
              have h1 : (k' ++ [o2] ++ [o2]).Nodup := hnd.sublist (List.sublist_append_left _ _)
              rw [List.append_assoc] at h1
              have h2 : ([o2] ++ [o2] : List Nat).Nodup := h1.sublist (List.sublist_append_right _ _)
              simp at h2
            have fm : (ps ++ [(o, o2)]).flatMap spread = ps.flatMap spread ++ [o, o2] := by
              rw [List.flatMap_append]
              simp [spread, one]
            have pm : (k' ++ (ps ++ [(o, o2)]).flatMap spread).Perm (k' ++ [o2] ++ [o] ++ ps.flatMap spread) := by
              rw [fm, List.append_assoc, List.append_assoc]
              refine List.Perm.append_left k' ?_
              refine List.perm_append_comm.trans ?_
              show (o :: o2 :: ps.flatMap spread).Perm (o2 :: o :: ps.flatMap spread)
              exact List.Perm.swap _ _ _
            have ha12 : H12 a = some (.lst (k'.map sg)) := (w12.els a hab).trans (n11.same _ _ w10.here)
            rw [List.length_append, List.length_singleton] at hcnt hlp
            refine ⟨⟨k', ps ++ [(o, o2)], ys ++ [.ref e], _, _, cnt + 1, rfl, ha12, w12.here, hP12, But.wr ((But.wr (hB8.trans (.of n9.same)) ha0 w10).trans (.of n11.same)) hb0 w12, (((d8.pen.same n9.same).els w10 hpa hca).same n11.same).els w12 hpb hcb, by omega, by rw [List.length_append, List.length_singleton]; omega, pm.nodup_iff.mpr hnd, fun c hc => hin c (pm.mem_iff.mp hc)⟩, ?_⟩
            show (match H12 a with | some (.lst l) => l.length | _ => 0) < (match H3 a with | some (.lst l) => l.length | _ => 0)
            rw [ha12, ha]
            simp
          · refine ⟨⟨l', ps, ys, _, _, cnt + 1, rfl, ha9, hb9, hPs8.same n9.same, hB8.trans (.of n9.same), d8.pen.same n9.same, by omega, by omega, ?_, ?_⟩, ?_⟩
            · exact (hnd.sublist (List.Sublist.append_right (List.sublist_append_left _ _) _))
            · intro c hc
              refine hin c ?_
              rw [List.append_assoc]
              rcases List.mem_append.mp hc with hc | hc
              · exact List.mem_append_left _ hc
              · exact List.mem_append_right _ (List.mem_append_right _ hc)
            · show (match H9 a with | some (.lst l) => l.length | _ => 0) < (match H3 a with | some (.lst l) => l.length | _ => 0)
              rw [ha9, ha]
              simp
      · have lnil : l = [] := by
          cases l with
          | nil => rfl
          | cons _ _ => simp at hf
        subst lnil
        rw [List.nil_append] at hnd hin
        refine ⟨_, rfl, _, rfl, by show 2 ≤ sizeLine; decide, fun t H9 n9 => k H9 t b S ys ps ⟨hB4.trans (.of n9.same), (hP4.same n9.same).mono (by rw [List.length_nil] at hcnt; omega)⟩ ?_ hb0 n9.here (n9.same _ _ hb4) (hPs4.same n9.same) ⟨S2, Sm, Snd, Sab, hnd, hin⟩ bs⟩
        exact hB4.free (fun e => by rw [e] at n9; exact hP4.ne n9.free rfl) n9.free
    · intro σ H Q Q' m h
      obtain ⟨v, e, h0, h⟩ := h
      refine ⟨v, e, h0, fun q H' n => ?_⟩
      obtain ⟨a, b, xs, e1, e2, h1, h2, k, e3, h3⟩ := h q H' n
      exact ⟨a, b, xs, e1, e2, h1, h2, k, e3, m _ _ h3⟩
end
end My
end
section
set_option Elab.async false
set_option linter.all false
set_option maxRecDepth 100000
set_option maxHeartbeats 4000000
namespace My
open PySem PySem.Spec PyProof.Rows L2
def lenD : PyData → Nat
  | .list ds => ds.length
  | .tuple ds => ds.length
  | _ => 0
end My
end
section
set_option Elab.async false
set_option linter.all false
set_option maxRecDepth 100000
set_option maxHeartbeats 4000000
namespace My
open PySem PySem.Spec PyProof.Rows L2
open PySem.HandSPX (excO)
/-! ### own errors over any built-in error -/
/-- what is asked of the chain of an own error's class -/
structure Chain (F : String) (bm : List Value) : Prop where
  base : bm.contains (.type F) = true
  attr : bm.contains (.type "AttributeError") = false
  name : bm.contains (.type "NameError") = false
  obj : bm.contains (.type "object") = true
  some : bm.isEmpty = false
  pass : ∀ self : Value, refuseLoop self "__setattr__" bm = pure ()
section
variable {prog : Program} {w : World} {A : Around} {E : Value → Shared → Prop} {R : Result → Shared → Prop} {h : Heap} {g : Array GenState} {d : Drawn} {t : Nat} {os : OsState}
variable {nm q : Str} {C N : Addr} {bs bm bmB : List Value} {sn : List Str} {sub : List Value} {ab : Bool} {col : Option Bool} {dd : Option Addr} {k0 k1 k2 k3 k5 : Option Value} {B newId initId : String}
/-- C(..): a fresh error, then the class's own __init__ -/
theorem make_own (F : ExcBaseFacts B newId initId bmB) (T : Chain B bm) {rest : List Value} {fI : Addr}
    (hC : h.get? C = some (excClassObj nm q C N bs bm true sn sub ab col dd k0 k1 k2 k3 k5 newId))
    (hi : PySem.W.Looks (model prog w) h (typeLookup (.ref C) "__init__") (some (.ref fI)))
    (hb : ∀ self, PySem.W.Looks (model prog w) h (bindSpecial (.ref fI) self) (.ref fI, [self])) (hl : rest.length ≤ sizeLine)
    (hq : codeAny (model prog w) (A.under (.builtin "type.__call__" ⟨.ref C :: rest, []⟩)) (.call (.ref fI) ⟨.ref (h.objs.size + 1) :: rest, []⟩) (PySem.W.InitBack (h.objs.size + 1) R)
      ⟨(h.push (PySem.W.kdv_tup rest)).push (excO C h.objs.size), g, d, t, os⟩) :
    codeAny (model prog w) A (.call (.ref C) ⟨rest, []⟩) R ⟨h, g, d, t, os⟩ := by
  have isB : (Value.ref C :: bm).contains (.type B) = true := by
    rw [List.contains_cons, T.base, Bool.or_true]
  have notA : (Value.ref C :: bm).contains (.type "AttributeError") = false := by
    rw [List.contains_cons, T.attr]; rfl
  have notN : (Value.ref C :: bm).contains (.type "NameError") = false := by
    rw [List.contains_cons, T.name]; rfl
  have isC : (Value.ref C :: bm).contains (.ref C) = true := by simp
  have ty : (⟨h, g, d, t, os⟩ : Shared).TypeIs (.ref C) "type" := ⟨_, hC, rfl⟩
  have t1 := tc_lookup
  have t2 := tc_bind (.ref C)
  have star := F.noStar
  have ends := F.ends
  have k : ∀ b o, h.get? b = some o → ((h.push (PySem.W.kdv_tup rest)).push (excO C h.objs.size)).get? b = some o := fun b o e =>
    Heap.get?_push_of_some _ (Heap.get?_push_of_some _ e)
  have i1 := hi.keeps k
  have b1 := (hb (.ref (h.objs.size + 1))).keeps k
  have new1 : ((h.push (PySem.W.kdv_tup rest)).push (excO C h.objs.size)).get? (h.objs.size + 1) = some (excO C h.objs.size) := by heap_get
  have hC1 := k _ _ hC
  refine codeAny_of_tree ?_
  show wpAny _ _ (callAny (.ref C) _) _ _ _
  repeat (any_goals (first
    | assumption
    | with_reducible refine wpAny_loadPart_at hC ?_
    | wp_step))
  refine ⟨rfl, ?_⟩
  refine codeAny_call_builtin_at (Code.quiet_builtin _ (by decide +kernel)) entry_typeCall (wpAny_check_type_call_sub hC ?_)
  repeat (first
    | with_reducible refine wpAny_loadPart_at hC ?_
    | with_reducible refine wpAny_madeBy_exc hC ?_
    | wp_step)
  refine codeAny_call_builtin_code (Code.quiet_builtin _ F.quiet) ?_
  · simp only [checkBuiltinCall, F.newKind, F.newSplit, F.newRow]
    repeat (first
      | refine wpAny_loadPart_at hC ?_
      | (refine wpAny_isSubtype_exc hC ?_
         rw [isB])
      | refine wpAny_staticBase_exc hC ?_
      | refine wpAny_madeBy_exc hC ?_
      | simp only [bne_self_eq_false, Bool.false_eq_true, if_false]
      | wp_step)
    refine codeAny_builtinAt F.entry ?_
    unfold Builtin.«BaseException.__new__»
    refine PySem.wpAt_bind ?_
    show PySem.wpAt _ _ _ (stack >>= _) _ _ _
    refine PySem.wpAt_bind (PySem.wpAt_stack fun p below => PySem.wpAt_of_wpAny ?_)
    wp_walk
    refine PySem.wpAt_of_wpAny ?_
    rw [F.owner]
    repeat (first
      | with_reducible refine wpAny_madeHere_exc F.canon hC ?_
      | with_reducible refine wpAny_loadPart_at hC ?_
      | (with_reducible refine wpAny_isSubtype_exc hC ?_
         first
           | rw [isB]
           | rw [notA]
           | rw [notN])
      | wp_step)
    rw [Heap.size_push]
    show wpAny _ _ (isSubtype (.ref C) (.ref C)) _ _ ⟨(h.push (PySem.W.kdv_tup rest)).push (excO C h.objs.size), g, d, t, os⟩
    refine wpAny_isSubtype_exc hC1 ?_
    rw [isC]
    repeat (first
      | with_reducible refine wpAny_loadPart_at new1 ?_
      | wp_step)
    show wpAny _ _ (typeLookup (.ref C) _) _ _ _
    refine i1.at ?_
    refine wpAny_holding (wpAny_bind (b1.at ?_))
    refine wpAny_bind (wpAny_call (codeAny_mono hq fun r s' z => ?_))
    rcases r with e | (v | _ | _ | _) <;> first | exact z | exact z.elim | skip
    obtain ⟨rfl, z⟩ := z
    first
      | exact wpAny_pure (wpAny_pure z)
      | (wp_walk; exact z)
end
end My
end
section
set_option Elab.async false
set_option linter.all false
set_option maxRecDepth 100000
set_option maxHeartbeats 4000000
namespace My
open PySem PySem.Spec PyProof.Rows L2
open PySem.HandSPX (excO)
/-! ### the field of an own error -/
section
open Builtin Builtin.ObjectAttr
variable {prog : Program} {w : World} {A : Around} {E : Value → Shared → Prop} {R : Result → Shared → Prop} {hp : Heap} {g : Array GenState} {d : Drawn} {t : Nat} {os : OsState}
/-- e.f = v, e an own error without a dict as yet -/
theorem err_store {K : PySem.W.Frag} {B : String} {bm : List Value} {f : Str} {tk : Tok} {v : Value} {x C : Addr} {fv : Array Value} {cd : ClassData} (T : Chain B bm)
    (X : K.In hp) (hx : hp.get? x = some { cls := .ref C, data := .fields fv }) (hcd : PySem.W.clsIn K C = some cd) (hm : cd.mro = .ref C :: bm) (hh : cd.hasDict = true)
    (ha : PySem.W.findIn K (.ref C) f = some none)
    (hq : ∀ h' tk' dx, (∀ b o, b ≠ x → hp.get? b = some o → h'.get? b = some o) → hp.objs.size ≤ dx → dx ≠ x →
      h'.get? x = some { cls := .ref C, dict := some dx, data := .fields fv } → h'.Ns1 dx (fun y => if y = f then some v else none) → R (.ok (.ret .none)) ⟨h', g, d, tk', os⟩) :
    codeAny (model prog w) A (.call (.builtin "object.__setattr__") ⟨[.ref x, .str f tk, v], []⟩) R ⟨hp, g, d, t, os⟩ := by
  have at0 : PySem.W.InstAt hp x { cls := .ref C, data := .fields fv } C none := ⟨hx, rfl, rfl, trivial⟩
  have st := F.store_object
  have obj : cd.mro.contains (.type "object") = true := by
    rw [hm, List.contains_cons, T.obj, Bool.or_true]
  have full : cd.mro.isEmpty = false := by rw [hm]; rfl
  have free : refuseLoop (.ref x) "__setattr__" cd.mro = pure () := by
    rw [hm, refuseLoop_ref]
    exact T.pass _
  have other : x ≠ hp.objs.size := Nat.ne_of_lt (Heap.lt_size hx)
  have isO : PySem.W.Looks (model prog w) hp (isInstance (.ref x) (.type "object")) true := at0.type.andThen
    (PySem.W.looks_mroIn X (by unfold PySem.W.mroIn; rw [hcd, Option.bind_some, if_neg (by rw [full]; decide), obj]))
  refine codeAny_call_builtin st.slot.plain st.entry (@PySem.W.check_slot (model prog w) _ _ ⟨hp, g, d, t, os⟩ "object.__setattr__" "object" "__setattr__"
    (.ref x) [.str f tk, v] [] _ st.kind st.split isO (st.args (.ref x) (.str f tk) v) ?_)
  have mro : PySem.W.Looks (model prog w) hp (mroOf (.ref C)) cd.mro := (PySem.W.looks_clsIn X hcd).andThen .now
  have taker : PySem.W.Looks (model prog w) hp (storeTaker? none) none := .now
  have data : PySem.W.Looks (model prog w) hp (classData C) cd := PySem.W.looks_clsIn X hcd
  rw [PySem.W.osa_eq, refuse_eq]
  refine wpAny_bind (wpAny_bind (at0.type.at (wpAny_bind (mro.at ?_))))
  rw [free]
  refine wpAny_pure (wpAny_bind (at0.type.at (wpAny_bind ((PySem.W.looks_findIn X ha).at (wpAny_bind (taker.at ?_))))))
  show wpAny _ _ (storeInOwnDict (.ref x) (.ref C) (.str f tk) f v false) _ _ _
  obtain ⟨nm, bs, mro, ns, qn, hd, sn, sb, ab, col, del⟩ := cd
  dsimp only at hh
  subst hh
  unfold storeInOwnDict ownDictForStores
  repeat (first
    | with_reducible refine PySem.HandSPX.store_in_new ?_ ?_
    | with_reducible refine wpAny_loadPart_at hx ?_
    | with_reducible refine data.at ?_
    | wp_step)
  · exact ⟨_, #[], _, (Heap.get?_update_ne _ _ _ _ other.symm).trans (Heap.get?_push_at rfl rfl), rfl, fun e he => absurd he (by simp), fun _ => rfl⟩
  · intro h' tk' hn' hs
    have hx1 : (hp.push { cls := .type "dict", data := .dict #[] }).get? x = some { cls := .ref C, data := .fields fv } := Heap.get?_push_of_some _ hx
    refine hq h' tk' hp.objs.size (fun b o hb ho => ?_) (Nat.le_refl _) other.symm ?_ hn'
    · exact (hs.2 b (Nat.ne_of_lt (Heap.lt_size ho))).trans ((Heap.get?_update_ne _ _ _ _ hb).trans (Heap.get?_push_of_some _ ho))
    · exact (hs.2 x other).trans (Heap.get?_update_self _ hx1 rfl)
end
/-! ### the class of an error that keeps one value -/
def eArgs (f : Str) (p1 p2 : Pos) : Arguments := { posonlyargs := [], args := [{ arg := "self", annotation := none, pos := p1 }, { arg := f, annotation := none, pos := p2 }], vararg := none, kwonlyargs := [], kw_defaults := [], kwarg := none, defaults := [] }
def eBody (f : Str) (q1 q2 q3 q4 : Pos) : List Stmt := [.Assign [.Attribute (.Name "self" q1) f q2] (.Name f q3) q4]
def eScope (f : Str) : Scope := { kind := .function, names := [(PySem.Str.ofString "self", .local), (f, .local)], isGenerator := false, isCoroutine := false, more := [] }
/-- the name of a field: no name that means something else in __init__ -/
structure Fld (f : Str) : Prop where
  bind : ∀ (qi : Str) (p1 p2 : Pos) (b : List Stmt) (doc pm : Value) (an : Option Addr) (cdv ct a v : Value),
    bindArgs (PySem.W.fnOf "__init__" qi (eArgs f p1 p2) b (eScope f) .none .none doc pm an cdv ct) ⟨[a, v], []⟩ = pure [(("self" : Str), a), (f, v)]
  loc : (eScope f).names.lookup f = some .local
  first : ∀ (qi : Str) (L a : Addr) (cd p v : Value), bindL (envOfC qi (eScope f) L a cd).kindOf [("self", p), (f, v)] (fun _ => none) "self" = some p
  snd : ∀ (qi : Str) (L a : Addr) (cd p v : Value), bindL (envOfC qi (eScope f) L a cd).kindOf [("self", p), (f, v)] (fun _ => none) f = some v
  dbg : (f == ("__debug__" : Str)) = false
theorem fld_value : Fld "value" where
  bind := fun _ _ _ _ _ _ _ _ _ _ _ => by first | rfl | with_unfolding_all rfl
  loc := by decide +kernel
  first := fun _ _ _ _ _ _ => by first | rfl | with_unfolding_all rfl
  snd := fun _ _ _ _ _ _ => by first | rfl | with_unfolding_all rfl
  dbg := by decide
/-- what the written part says of the class x at C, over the built-in error B, with the field f, and of its __init__ at fI -/
structure ErrC (K : PySem.W.Frag) (mg : Str → Option Value) (x f qi : Str) (B newId initId : String) (bmB bm : List Value) (C fI : Addr) : Prop where
  facts : ExcBaseFacts B newId initId bmB
  chain : Chain B bm
  gC : mg x = some (.ref C)
  cls : ∃ nm q N bs sn sub ab col dd k0 k1 k2 k3 k5, K.lookup C = some (excClassObj nm q C N bs bm true sn sub ab col dd k0 k1 k2 k3 k5 newId)
  sa : PySem.W.findIn K (.ref C) "__setattr__" = some (some (.builtin "object.__setattr__"))
  ga : PySem.W.findIn K (.ref C) "__getattribute__" = some (some (.builtin "BaseException.__getattribute__"))
  gg : PySem.W.findIn K (.ref C) "__getattr__" = some none
  noN : PySem.W.findIn K (.ref C) f = some none
  iC : PySem.W.findIn K (.ref C) "__init__" = some (some (.ref fI))
  tC : PySem.W.typeIn K (.ref fI) = some (.type "function")
  kC : PySem.W.keepIn K (.ref C) = true
  exC : PySem.W.subIn K (.ref C) (.type "BaseException") = some true
  tyC : PySem.W.typeIn K (.ref C) = some (.type "type")
  hdC : PySem.W.hasDictIn K C = true
  te : PySem.W.exmOne K (.ref C) (.ref C) = some true
  fn : ∃ (oc : Value) (od : Option Addr) (doc pm : Value) (an : Option Addr) (cdv ct : Value) (osl : Array (Option Value)) (p1 p2 q1 q2 q3 q4 : Pos),
    K.lookup fI = some ⟨oc, od, .func (PySem.W.fnOf "__init__" qi (eArgs f p1 p2) (eBody f q1 q2 q3 q4) (eScope f) .none .none doc pm an cdv ct), osl⟩ ∧ PySem.W.codeIn K cdv qi = true
/-- what __init__ leaves -/
structure Kept1 (h h' : Heap) (x C dx t1 : Addr) (f : Str) (v : Value) : Prop where
  keep : ∀ b o, b ≠ x → h.get? b = some o → h'.get? b = some o
  obj : h'.get? x = some { cls := .ref C, dict := some dx, data := .fields #[.ref t1, .none, .none, .none, .bool false, .none] }
  big : h.objs.size ≤ dx
  ne : dx ≠ x
  ns : h'.Ns1 dx (fun y => if y = f then some v else none)
/-- what C(v) leaves: the error at e, its dict at dx -/
structure Made1 (h h' : Heap) (e C dx : Addr) (f : Str) (v : Value) : Prop where
  keep : ∀ b o, h.get? b = some o → h'.get? b = some o
  new : h.objs.size ≤ e
  obj : ∃ oe vs, h'.get? e = some oe ∧ oe.cls = .ref C ∧ oe.dict = some dx ∧ oe.data = .fields vs ∧ vs[1]? = some .none
  big : h.objs.size ≤ dx
  ne : dx ≠ e
  ns : h'.Ns1 dx (fun y => if y = f then some v else none)
section
variable {prog : Program} {w : World} {A : Around} {E : Value → Shared → Prop} {R : Result → Shared → Prop} {s : Shared} {K : PySem.W.Frag} {mg : Str → Option Value} {x f qi : Str} {B newId initId : String} {bmB bm : List Value} {C fI : Addr}
theorem ld_local {M : Model} {s : Shared} {name : Str} {scope : Scope} {L a : Addr} {cd : Value} {m : Str → Option Value} {x : Str} {pos : Pos} {v : Value} {Q : Value → Shared → Prop} {A : Around} {E : Value → Shared → Prop}
    (hn : s.heap.Ns L m) (hv : m x = some v) (h : Q v s) (hk : scope.kind = .function) (hl : (envOfC name scope L a cd).kindOf x = some .local) (hd : (x == ("__debug__" : Str)) = false) :
    wpAny M A (eval (.Name x pos) (envOfC name scope L a cd)) Q E s :=
  wpAny_Name (wpAny_loadName_local hk hl hn hv h) hd
theorem err_init (T : ErrC K mg x f qi B newId initId bmB bm C fI) (Z : Fld f) {p t0 : Addr} {v : Value} (X : K.In s.heap) (hlim : s.heap.NoLimit) (hx : s.heap.get? p = some (excO C t0)) (room : A.depth < recursionLimit)
    (hq : ∀ h' tk dx, Kept1 s.heap h' p C dx t0 f v → R (.ok (.ret .none)) { s with heap := h', toks := tk }) :
    codeAny (model prog w) A (.call (.ref fI) ⟨[.ref p, v], []⟩) R s := by
  obtain ⟨oc, od, doc, pm, an, cdv, ct, osl, p1, p2, q1, q2, q3, q4, ho, hcd⟩ := T.fn
  obtain ⟨nm, q, N, bs, sn, sub, ab, col, dd, k0, k1, k2, k3, k5, hC⟩ := T.cls
  have hcl : PySem.W.clsIn K C = some { name := nm, bases := bs, mro := .ref C :: bm, ns := N, qualname := q, hasDict := true, slotNames := sn, subclasses := sub, abstract := ab, collection := col, hasDel := false } := by
    unfold PySem.W.clsIn
    rw [hC] <;> rfl
  refine Att.call_fn (binds := [("self", .ref p), (f, v)]) X hlim ho hcd room (BindsTo.of_eq (Z.bind ..)) ?_ (fun s₁ IC => ?_) rfl rfl rfl
  · have e : (eScope f).names.lookup ("self" : Str) = some .local := rfl
    show ((((eScope f).names.lookup ("self" : Str) == some .local) || ((eScope f).names.lookup ("self" : Str) == some .cell)) && ((((eScope f).names.lookup f == some .local) || ((eScope f).names.lookup f == some .cell)) && true)) = true
    rw [e, Z.loc]
    rfl
  obtain ⟨h₁, tk₁, rfl⟩ := IC.toInCall.same
  have k : ∀ b o, s.heap.get? b = some o → h₁.get? b = some o := IC.toInCall.keep
  have hn := IC.toInCall.ns
  have X1 : K.In h₁ := X.keeps k
  have hx1 := k _ _ hx
  show wpAny _ _ (execs _ _) _ _ _
  refine wpAny_execs_cons (plainObj_wpAny_Assign_Attribute ?_)
  refine ld_local (v := v) hn (Z.snd ..) (ld_local (v := .ref p) hn (Z.first ..) ?_ rfl rfl (by decide)) rfl Z.loc Z.dbg
  refine PySem.W.set_plain X1 (ox := excO C t0) (od := none) ⟨hx1, rfl, rfl, trivial⟩ T.sa ?_
  refine err_store T.chain X1 hx1 hcl rfl rfl T.noN (fun h₃ tk₃ dx k₃ dn dne hx₃ hn₃ => ?_)
  show wpAny _ _ (execs _ _) _ _ _
  have z : s.heap.objs.size < h₁.objs.size := hn.lt
  exact wpAny_execs_nil (hq h₃ tk₃ dx ⟨fun b o hb e => k₃ b o hb (k b o e), hx₃, Nat.le_of_lt (Nat.lt_of_lt_of_le z dn), dne, hn₃⟩)
theorem err_made (T : ErrC K mg x f qi B newId initId bmB bm C fI) (Z : Fld f) {v : Value} (X : K.In s.heap) (hlim : s.heap.NoLimit) (room : A.depth + 1 < recursionLimit)
    (hq : ∀ h' tk e d, Made1 s.heap h' e C d f v → R (.ok (.ret (.ref e))) { s with heap := h', toks := tk }) :
    codeAny (model prog w) A (.call (.ref C) ⟨[v], []⟩) R s := by
  obtain ⟨nm, q, N, bs, sn, sub, ab, col, dd, k0, k1, k2, k3, k5, hC⟩ := T.cls
  obtain ⟨hp, g, dr, tk, os⟩ := s
  have k : ∀ b o, hp.get? b = some o → ((hp.push (PySem.W.kdv_tup [v])).push (excO C hp.objs.size)).get? b = some o := fun b o e =>
    Heap.get?_push_of_some _ (Heap.get?_push_of_some _ e)
  have here : ((hp.push (PySem.W.kdv_tup [v])).push (excO C hp.objs.size)).get? (hp.objs.size + 1) = some (excO C hp.objs.size) := by heap_get
  have one : [v].length ≤ sizeLine := by
    rw [sizeLine_eq]
    exact (by decide : 1 ≤ 16777216)
  refine make_own T.facts T.chain (X _ _ hC) (PySem.W.looks_findIn X T.iC) (fun self => PySem.W.bind_fn X self T.tC) one ?_
  refine err_init (s := ⟨(hp.push (PySem.W.kdv_tup [v])).push (excO C hp.objs.size), g, dr, tk, os⟩) T Z (X.keeps k) (hlim.keeps k) here ?_ fun h' tk' dx ⟨k', hx, dn, dne, hns⟩ => ?_
  · show A.depth + 1 < recursionLimit
    exact room
  · have old : ∀ b o, hp.get? b = some o → h'.get? b = some o := fun b o e => k' b o (Nat.ne_of_lt (Nat.lt_succ_of_lt (Heap.lt_size e))) (k b o e)
    have z : hp.objs.size + 1 + 1 ≤ dx := by
      have q := dn
      rw [Heap.size_push, Heap.size_push] at q
      exact q
    exact ⟨rfl, hq h' tk' (hp.objs.size + 1) dx ⟨old, Nat.le_succ _, ⟨_, _, hx, rfl, rfl, rfl, rfl⟩, Nat.le_trans (Nat.le_trans (Nat.le_succ _) (Nat.le_succ _)) z, dne, hns⟩⟩
end
/-! ### the error in rules -/
theorem relO_one {f : Str} {v : V} {v' : Value} (r : RelV v v') (y : Str) : RelO (List.lookup y [(f, v)]) (if y = f then some v' else none) := by
  by_cases e : y = f
  · subst e
    rw [if_pos rfl]
    have q : List.lookup y [(y, v)] = some v := by simp [List.lookup]
    rw [q]
    exact r
  · rw [if_neg e]
    have q1 : (y == f) = false := by simpa using e
    have q2 : List.lookup y [(f, v)] = none := by simp [List.lookup, q1]
    rw [q2]
    trivial
section
variable {X : Cx} {x f qi : Str} {B newId initId : String} {bmB bm : List Value} {C fI : Addr}
/-- C(e) -/
def tErr (C : Addr) (f : Str) (ta : TA) : L2.St → Hp → XK → Prop := fun σ H Q => ta σ H fun vs H1 => ∃ v, vs = [v] ∧ ∀ d, H1 d = none → Q (.ref C) (some d) (upd H1 d (.xd [(f, v)]))
theorem pmk_err {a : Expr} {ta : TA} {p pos : Pos} {k : Nat} (T : ErrC X.K X.mg x f qi B newId initId bmB bm C fI) (Z : Fld f) (hr : Room k X.A) (hk : 1 ≤ k) (ha : PA X [a] ta) (hg : Gl X x)
    (hdb : (x == ("__debug__" : Str)) = false := by decide)
    (he : starEach (a :: []) X.env = (false, eval a X.env) :: starEach [] X.env := by rfl) (hpl : (backTo pos (starEach [] X.env)).any (·.1) = false := by rfl) :
    PMk X (.Call (.Name x p) [a] [] pos) (tErr C f ta) := by
  intro pins s σ H Q I h
  refine wpAny_Call_Name_kw (ld_glob I hg T.gC ?_ hdb)
  refine PySem.W.callWith_K (h₀ := X.base) I.ok.mod.kin T.kC (thn (ha.run pos pins s σ H _ I h) fun us s1 hh => ?_) he hpl
  obtain ⟨vs, H1, I1, r1, v, ev, q1⟩ := hh
  subst ev
  refine ⟨I1.kIn, ?_⟩
  obtain ⟨v', rfl, rv⟩ := vals1 r1
  show wpAny _ _ (call (.ref C) [v']) _ _ _
  have hlim := I1.nolimit
  obtain ⟨hp, g, dr, tk, os⟩ := s1
  refine wpAny_call (err_made T Z I1.kIn hlim (by have := hr.dp; omega) fun h' tk' e d M => ?_)
  show MkP X pins σ Q (.ref e) ⟨h', g, dr, tk', os⟩
  obtain ⟨oe, fv, hoe, hc, hd, hdat, h1⟩ := M.obj
  have hns := M.ns
  obtain ⟨G', g1, g2⟩ := restrict h' fun b => decide (b ≠ e)
  have gk : ∀ b, b ≠ e → G'.get? b = h'.get? b := fun b hb => g1 b (decide_eq_true hb)
  have ge : G'.get? e = none := g2 e (by simp)
  have old : ∀ b o, hp.get? b = some o → G'.get? b = some o := fun b o q => (gk b (Nat.ne_of_lt (Nat.lt_of_lt_of_le (Heap.lt_size q) M.new))).trans (M.keep b o q)
  have ob : ObjOk X.prog X.w (upd H1 d (.xd [(f, v)])) G' d (.xd [(f, v)]) := ⟨_, hns.at (fun o q => (gk d M.ne).trans q), fun y => relO_one rv y⟩
  have J : Inv X pins σ (upd H1 d (.xd [(f, v)])) ⟨G', g, dr, tk', os⟩ := I1.laid (t' := tk') old M.big ob
  refine ⟨e, oe, fv, ⟨G', g, dr, tk', os⟩, _, .ref C, some d, rfl, J, fun b o q => ?_, ge, hoe, ⟨hc, hd⟩, hdat, h1, ?_, rfl, I1.bare, raises_own T.exC T.tyC, q1 d (I1.hok.fresh M.big)⟩
  · by_cases hb : b = e
    · have q' : G'.get? b = some o := q
      rw [hb, ge] at q'
      cases q'
    · exact (gk b hb).symm.trans q
  · rw [upd_ne (Ne.symm M.ne)]
    exact I1.hok.fresh M.new
/-- raise C(e) -/
def tRaiseErr (C : Addr) (f : Str) (W : WX) (ta : TA) : TS := fun _ σ H => tErr C f ta σ H fun cls d H' => W cls d σ H'
theorem ps_raiseErr {a : Expr} {ta : TA} {W : WX} {p pos pos2 : Pos} {k : Nat} (hc : X.calm = true) (T : ErrC X.K X.mg x f qi B newId initId bmB bm C fI) (Z : Fld f) (hr : Room k X.A) (hk : 1 ≤ k) (tk : Takes X W) (ha : PA X [a] ta) (hg : Gl X x)
    (hdb : (x == ("__debug__" : Str)) = false := by decide)
    (he : starEach (a :: []) X.env = (false, eval a X.env) :: starEach [] X.env := by rfl) (hpl : (backTo pos (starEach [] X.env)).any (·.1) = false := by rfl) :
    PS X (.Raise (some (.Call (.Name x p) [a] [] pos)) none pos2) (tRaiseErr C f W ta) := ps_raise hc tk (pmk_err T Z hr hk ha hg hdb he hpl)
/-- e.f in the suite that holds e -/
def tErrF (C : Addr) (f : Str) (a : Addr) (cls : Value) (d : Option Addr) (te : TE) : TE := fun σ H Q => te σ H fun y H1 => y = .ref a ∧ cls = .ref C ∧ ∃ (dd : Addr) (v : V), d = some dd ∧ H1 dd = some (.xd [(f, v)]) ∧ Q v H1
theorem pe_errF {a : Addr} {oe : Obj} {cls : Value} {d : Option Addr} {pn : List (Addr × Obj)} {e : Expr} {te : TE} {pos : Pos} (T : ErrC X.K X.mg x f qi B newId initId bmB bm C fI) (hz : Zc cls d oe) (hf : ∃ vs, oe.data = .fields vs) (he : PE (X.suite a ((a, oe) :: pn)) e te)
    (hb : attributeBase e f X.env (eval e X.env) = eval e X.env := by rfl) :
    PE (X.suite a ((a, oe) :: pn)) (.Attribute e f pos) (tErrF C f a cls d te) := by
  refine ⟨fun pins s σ H Q I h => ?_⟩
  refine attr_of hb (thn (he.run pins s σ H _ I h) fun u s1 hh => ?_)
  obtain ⟨y, H1, I1, ry, ey, ec, dd, v, ed, ea, q⟩ := hh
  subst ey
  obtain rfl : u = Value.ref a := ry
  subst ec
  subst ed
  obtain ⟨ha, _⟩ := I1.pin (a, oe) (List.mem_append_left _ List.mem_cons_self)
  obtain ⟨vs, hd⟩ := hf
  have hx : ObjOk X.prog X.w H1 s1.heap dd (.xd [(f, v)]) := I1.hok dd _ ea
  obtain ⟨mA, hns, hr⟩ := hx
  obtain ⟨od, ho, hl⟩ := lookIn_ns hns
  have l : List.lookup f [(f, v)] = some v := by simp [List.lookup]
  obtain ⟨u, hu, ru⟩ := RelO.some_of (v := v) (o := mA f) (by rw [← l]; exact hr f)
  have J : PySem.W.InstAt s1.heap a oe C (some od) := ⟨ha, hz.1, by unfold PySem.W.notCls; rw [hd] <;> rfl, by rw [hz.2]; exact ho⟩
  exact HandSPX.exc_get I1.kIn J T.ga T.gg T.exC (PySem.W.findObj_own T.hdC T.noN rfl (by rw [hl, hu])) (handed_of ru) ⟨v, H1, I1.tok _, ru, q⟩
end
/-! ### the chains of the built-in errors -/
abbrev bmValue : List Value := [.type "ValueError", .type "Exception", .type "BaseException", .type "object"]
abbrev bmLookup : List Value := [.type "LookupError", .type "Exception", .type "BaseException", .type "object"]
abbrev bmKey : List Value := [.type "KeyError", .type "LookupError", .type "Exception", .type "BaseException", .type "object"]
theorem chain_Value : Chain "ValueError" bmValue := ⟨by decide +kernel, by decide +kernel, by decide +kernel, by decide +kernel, rfl, PySem.F.store_ValueError.passes⟩
theorem key_pass (self : Value) : refuseLoop self "__setattr__" bmKey = pure () := by
  first
    | kernel_rfl
    | rfl
theorem chain_Key : Chain "LookupError" bmKey := ⟨by decide +kernel, by decide +kernel, by decide +kernel, by decide +kernel, rfl, key_pass⟩
end My
end
section
set_option Elab.async false
set_option linter.all false
set_option maxRecDepth 100000
set_option maxHeartbeats 4000000
namespace My
open PySem PySem.Spec PyProof.Rows L2
/-- a statement of a class body -/
def inCls (s : Stmt) (i : Nat) : Stmt := match s with
  | .ClassDef _ _ _ b _ _ _ _ _ _ _ => b.getD i (.Pass ⟨0, 0, 0, 0⟩)
  | _ => .Pass ⟨0, 0, 0, 0⟩
abbrev s_cls : Stmt := topS 25
abbrev s_init : Stmt := inCls s_cls 1
/-- what a font keeps -/
def fontFs (S : Str) (r : Addr) : List (Str × V) := putF "_turns" (.ref r) (putF "_signs" (.str S) [])
theorem fs_signs (S : Str) (r : Addr) : List.lookup ("_signs" : Str) (fontFs S r) = some (V.str S) := rfl
theorem fs_turns (S : Str) (r : Addr) : List.lookup ("_turns" : Str) (fontFs S r) = some (V.ref r) := rfl
/-- a font at a -/
structure FontAt (H : Hp) (C a : Addr) (S : Str) (ps : List (Nat × Nat)) : Prop where
  at_ : ∃ dx r ys, H a = some (.ins C dx (fontFs S r)) ∧ H r = some (.tup ys) ∧ PairsAt H ps ys
theorem FontAt.same {H H1 : Hp} {C a : Addr} {S : Str} {ps : List (Nat × Nat)} (s : Same H H1) (h : FontAt H C a S ps) : FontAt H1 C a S ps := by
  obtain ⟨dx, r, ys, h1, h2, h3⟩ := h.at_
  exact ⟨dx, r, ys, s _ _ h1, s _ _ h2, h3.same s⟩
def sp_init (K : PySem.W.Frag) (C : Addr) : Sp := fun vs H Q _ => ∃ (a dx p : Addr) (S : Str) (v : V) (d : PyData) (ps : List (Nat × Nat)), vs = [.ref a, .str S, v] ∧ H a = some (.ins C dx []) ∧ Rp K p H false v d ∧ fit d = true ∧ fontD (.str S) = true ∧ keptD S d = some ps ∧
  ∀ H', But a H H' → FontAt H' C a S ps → Q .non H'
section
variable {P : Program} {w : World} {K : PySem.W.Frag} {mg : Str → Option Value} {base : Heap}
theorem sc_init : FnScope ["self", "signs", "turns", "pairs"] ["self", "signs", "turns"] (defScope s_init) := ⟨rfl, rfl, rfl, by decide +kernel, rfl, by decide +kernel, by decide +kernel⟩
theorem ok_init {f fF fK C : Addr} {fd fdF fdK : FuncData} {dvs : List V} (F : FunD K "__init__" "Font.__init__" (defArgs s_init) (defBody s_init) (defScope s_init) dvs [] f fd) (c : Cls K C) (n1 : NoAttr K C "_signs") (n2 : NoAttr K C "_turns")
    (DF : Def K mg "is_font_signs" fF fdF ["value"]) (GF : FnOk P w K mg base CX0 2 fF fdF ["value"] (sp_isFont K)) (DK : Def K mg "kept_turns" fK fdK ["signs", "turns"]) (GK : FnOk P w K mg base CX0 3 fK fdK ["signs", "turns"] (sp_kept K)) :
    FnOk P w K mg base CX0 4 f fd ["self", "signs", "turns"] (sp_init K C) := by
  refine F.ok sc_init (fun vs H Q E h => ?_) (fun cdv A outer s H vs Q E hr h => ?_)
  · obtain ⟨a, dx, p, S, v, d, ps, rfl, _⟩ := h
    rfl
  · obtain ⟨a, dx, p, S, v, d, ps, rfl, ha, hd, hf, hF, hK, k⟩ := h
    have hr2 : Room 2 _ := hr.mono (by decide)
    refine ⟨_, PSs.nox (pss_cons (ps_if (pt_not (pt_val (pe_call GF hr2 rfl DF.mgf DF.kp DF.bd .nil pass0 (pa_cons (pv 1) pa_nil)))) (pss_one ps_never) pss_nil)
      (pss_cons (ps_set (i := 3) sc_init.nd rfl (Or.inl rfl) (pe_call GK hr rfl DK.mgf DK.kp DK.bd .nil pass0 (pa_cons (pv 1) (pa_cons (pv 2) pa_nil))))
      (pss_cons (ps_if (pt_cmp (pc_isN (pv 3))) (pss_one ps_never) pss_nil)
      (pss_cons (ps_fld (pv 0) (pv 1) rfl)
      (pss_one (ps_fld (pv 0) (pv 3) rfl)))))), ?_⟩
    have hlen : S.length ≤ 10 := by
      rw [fontD_str, Bool.and_eq_true, decide_eq_true_eq] at hF
      exact hF.1.2
    refine ⟨_, rfl, .str S, .str S, p, rfl, Rp.str _ S, Nat.le_trans hlen (by decide), fun H1 s1 => ⟨_, rfl, ?_⟩⟩
    rw [hF]
    refine iteF ?_
    refine ⟨_, rfl, _, rfl, S, v, d, p, rfl, hd.but (.of s1), hf, Nat.le_trans hlen (by decide), fun e => absurd (e.symm.trans hK) (by intro z; cases z), fun ps' hps H2 r ys s2 f2 h2 hP2 => ?_⟩
    rw [hK] at hps
    obtain rfl := Option.some.inj hps
    have s12 : Same H H2 := s1.trans s2
    have ha2 := s12 _ _ ha
    refine ⟨_, rfl, _, rfl, iteF ?_⟩
    refine ⟨_, rfl, _, rfl, a, C, dx, [], rfl, ha2, c, n1, by decide, ?_⟩
    have w3 : Wr H2 a (.ins C dx (putF "_signs" (.str S) [])) (upd H2 a (.ins C dx (putF "_signs" (.str S) []))) := .mk'
    generalize upd H2 a (HO.ins C dx (putF "_signs" (V.str S) [])) = H3 at w3 ⊢
    refine ⟨_, rfl, _, rfl, a, C, dx, _, rfl, w3.here, c, n2, (show 1 < 1000 by decide), ?_⟩
    have w4 : Wr H3 a (.ins C dx (putF "_turns" (.ref r) (putF "_signs" (.str S) []))) (upd H3 a (.ins C dx (putF "_turns" (.ref r) (putF "_signs" (.str S) [])))) := .mk'
    generalize upd H3 a (HO.ins C dx (putF "_turns" (V.ref r) (putF "_signs" (V.str S) []))) = H4 at w4 ⊢
    have el : ∀ {q : Addr} {xs : List V}, H2 q = some (.tup xs) → H4 q = some (.tup xs) := fun {q xs} e => by
      have ne : q ≠ a := ne_of e ha2 (by intro z; cases z)
      exact (w4.els q ne).trans ((w3.els q ne).trans e)
    refine k _ (((But.of s12).trans w3.but).trans w4.but) ⟨dx, r, ys, w4.here, el h2, Paired.map (fun e y hy => ?_) hP2⟩
    obtain ⟨q, e1, e2⟩ := hy
    exact ⟨q, e1, el e2⟩
end
end My
end
section
set_option Elab.async false
set_option linter.all false
set_option maxRecDepth 100000
set_option maxHeartbeats 4000000
namespace My
open PySem PySem.Spec PyProof.Rows L2
/-! ### len(x), v in x, v not in x, x of an own class -/
/-- the class has the name as a def at f -/
structure Own (K : PySem.W.Frag) (C : Addr) (m : Str) (f : Addr) : Prop where
  at_ : PySem.W.findIn K (.ref C) m = some (some (.ref f))
  fn : PySem.W.isFn K (.ref f) = true
section
variable {X : Cx} {k : Nat} {C f : Addr} {fd : FuncData} {sp : Sp}
/-- len(x) -/
def qLenO (C : Addr) (sp : Sp) : List V → Hp → VK → Prop := fun xs H Q => ∃ a dx fs, xs = [.ref a] ∧ H a = some (.ins C dx fs) ∧ sp [.ref a] H (fun v H' => ∃ n : Nat, v = .int n ∧ n < 2 ^ 60 ∧ Q (.int n) H') E0
theorem call_lenO (O : Own X.K C "__len__" f) (F : FnOk X.prog X.w X.K X.mg X.base CX0 k f fd ["self"] sp) (hr : Room (k + 1) X.A) (hb : Binds X.K fd ["self"] []) : CallR X (.builtin "len") (qLenO C sp) := by
  intro pins s σ H xs us Q I r h
  obtain ⟨a, dx, fs, rfl, ea, q⟩ := h
  obtain ⟨u, rfl, rx⟩ := vals1 r
  obtain rfl : u = Value.ref a := rx
  obtain ⟨mA, od0, _, _, _, _⟩ := ins_get I.hok ea
  obtain ⟨od, J, _⟩ := od0.look
  obtain ⟨m, fr⟩ := I.fr
  refine PySem.W.len_K fr I.ok.mod.kin J O.at_ O.fn (wpAny_call ?_)
  refine codeAny_mono (F.run X.A.in1 X.stack s H ⟨[.ref a], []⟩ [.ref a] [.ref a] _ _ hr.in1 I.env0.in1 (hb _ [.ref a] I.kIn rfl) (.cons rfl .nil) q) fun r s' hq => ?_
  cases r with
  | error er => exact False.elim hq
  | ok fl =>
    cases fl with
    | ret u =>
      obtain ⟨v, H', I3, rv, n, ev, hn, q3⟩ := I.after hq
      subst ev
      obtain ⟨t, rfl⟩ := rv
      exact ⟨⟨by omega, by omega⟩, .int n, H', I3.tok _, ⟨_, rfl⟩, q3⟩
    | next => exact False.elim hq
    | brk => exact False.elim hq
    | cont => exact False.elim hq
/-- v in x -/
def qInO (C : Addr) (sp : Sp) (neg : Bool) : R2 := fun y x H Q => ∃ a dx fs, x = .ref a ∧ H a = some (.ins C dx fs) ∧ sp [.ref a, y] H (fun v H' => ∃ b : Bool, v = .bl b ∧ Q (.bl (if neg then !b else b)) H') E0
variable {it : Str}
theorem op_inO (O : Own X.K C "__contains__" f) (F : FnOk X.prog X.w X.K X.mg X.base CX0 k f fd ["self", it] sp) (hr : Room k X.A) (hb : Binds X.K fd ["self", it] []) : OpR X (compareOp .In) (qInO C sp false) := by
  intro pins s σ H y x v u Q I ry rx h
  obtain ⟨a, dx, fs, rfl, ea, q⟩ := h
  obtain rfl : u = Value.ref a := rx
  obtain ⟨mA, od0, _, _, _, _⟩ := ins_get I.hok ea
  obtain ⟨od, J, _⟩ := od0.look
  obtain ⟨m, fr⟩ := I.fr
  refine PySem.W.in_K fr I.ok.mod.kin J O.at_ O.fn (wpAny_call ?_)
  refine codeAny_mono (F.run X.A X.stack s H ⟨[.ref a, v], []⟩ [.ref a, v] [.ref a, y] _ _ hr I.env0 (hb _ [.ref a, v] I.kIn rfl) (.cons rfl (.cons ry .nil)) q) fun r s' hq => ?_
  cases r with
  | error er => exact False.elim hq
  | ok fl =>
    cases fl with
    | ret u =>
      obtain ⟨z, H', I3, rv, b, ev, q3⟩ := I.after hq
      subst ev
      obtain rfl : u = Value.bool b := rv
      exact wpAny_truthy_bool ⟨.bl b, H', I3, rfl, q3⟩
    | next => exact False.elim hq
    | brk => exact False.elim hq
    | cont => exact False.elim hq
theorem op_notInO (O : Own X.K C "__contains__" f) (F : FnOk X.prog X.w X.K X.mg X.base CX0 k f fd ["self", it] sp) (hr : Room k X.A) (hb : Binds X.K fd ["self", it] []) : OpR X (compareOp .NotIn) (qInO C sp true) := by
  intro pins s σ H y x v u Q I ry rx h
  obtain ⟨a, dx, fs, rfl, ea, q⟩ := h
  obtain rfl : u = Value.ref a := rx
  obtain ⟨mA, od0, _, _, _, _⟩ := ins_get I.hok ea
  obtain ⟨od, J, _⟩ := od0.look
  obtain ⟨m, fr⟩ := I.fr
  refine PySem.W.notIn_K fr I.ok.mod.kin J O.at_ O.fn (wpAny_call ?_)
  refine codeAny_mono (F.run X.A X.stack s H ⟨[.ref a, v], []⟩ [.ref a, v] [.ref a, y] _ _ hr I.env0 (hb _ [.ref a, v] I.kIn rfl) (.cons rfl (.cons ry .nil)) q) fun r s' hq => ?_
  cases r with
  | error er => exact False.elim hq
  | ok fl =>
    cases fl with
    | ret u =>
      obtain ⟨z, H', I3, rv, b, ev, q3⟩ := I.after hq
      subst ev
      obtain rfl : u = Value.bool b := rv
      exact wpAny_truthy_bool ⟨.bl (!b), H', I3, rfl, q3⟩
    | next => exact False.elim hq
    | brk => exact False.elim hq
    | cont => exact False.elim hq
end
end My
end
section
set_option Elab.async false
set_option linter.all false
set_option maxRecDepth 100000
set_option maxHeartbeats 4000000
namespace My
open PySem PySem.Spec PyProof.Rows L2
abbrev s_flen : Stmt := inCls s_cls 6
abbrev s_fcont : Stmt := inCls s_cls 7
def sp_flen (C : Addr) : Sp := fun vs H Q _ => ∃ (a : Addr) (S : Str) (ps : List (Nat × Nat)), vs = [.ref a] ∧ FontAt H C a S ps ∧ S.length ≤ 4000 ∧ Q (.int S.length) H
def sp_fcont (K : PySem.W.Frag) (C : Addr) : Sp := fun vs H Q _ => ∃ (a p : Addr) (S : Str) (ps : List (Nat × Nat)) (v : V) (d : PyData), vs = [.ref a, v] ∧ FontAt H C a S ps ∧ Rp K p H false v d ∧ textFits sizeLine d ∧ Q (.bl (signD S d)) H
section
variable {P : Program} {w : World} {K : PySem.W.Frag} {mg : Str → Option Value} {base : Heap}
theorem sc_flen : FnScope ["self"] ["self"] (defScope s_flen) := ⟨rfl, rfl, rfl, by decide +kernel, rfl, by decide +kernel, by decide +kernel⟩
theorem ok_flen {f C : Addr} {fd : FuncData} (F : Fun K "__len__" "Font.__len__" s_flen f fd) (T : TB mg) (c : Cls K C) (n1 : NoAttr K C "_signs") : FnOk P w K mg base CX0 1 f fd ["self"] (sp_flen C) := by
  refine F.ok sc_flen (fun vs H Q E h => ?_) (fun cdv A outer s H vs Q E hr h => ?_)
  · obtain ⟨a, S, ps, rfl, _⟩ := h
    rfl
  · obtain ⟨a, S, ps, rfl, hF, hS, k⟩ := h
    obtain ⟨dx, r, ys, h1, h2, h3⟩ := hF.at_
    refine ⟨_, pss_one (ps_ret (pe_callB call_len_str (by rfl) T.len PySem.boot_len (pa_cons (pe_fld (pv 0) rfl) pa_nil))), ?_⟩
    exact ⟨_, rfl, a, C, dx, _, _, rfl, h1, c, n1, fs_signs S r, S, rfl, Nat.le_trans hS (by decide), k⟩
theorem sc_fcont : FnScope ["self", "x"] ["self", "x"] (defScope s_fcont) := ⟨rfl, rfl, rfl, by decide +kernel, rfl, by decide +kernel, by decide +kernel⟩
theorem ok_fcont {f C fI : Addr} {fd fdI : FuncData} (F : Fun K "__contains__" "Font.__contains__" s_fcont f fd) (c : Cls K C) (n1 : NoAttr K C "_signs") (D : Def K mg "is_sign" fI fdI ["signs", "value"]) (G : FnOk P w K mg base CX0 1 fI fdI ["signs", "value"] (sp_isSign K)) :
    FnOk P w K mg base CX0 2 f fd ["self", "x"] (sp_fcont K C) := by
  refine F.ok sc_fcont (fun vs H Q E h => ?_) (fun cdv A outer s H vs Q E hr h => ?_)
  · obtain ⟨a, p, S, ps, v, d, rfl, _⟩ := h
    rfl
  · obtain ⟨a, p, S, ps, v, d, rfl, hF, hd, hz, k⟩ := h
    obtain ⟨dx, r, ys, h1, h2, h3⟩ := hF.at_
    refine ⟨_, pss_one (ps_ret (pe_call G hr rfl D.mgf D.kp D.bd .nil pass0 (pa_cons (pe_fld (pv 0) rfl) (pa_cons (pv 1) pa_nil)))), ?_⟩
    exact ⟨_, rfl, a, C, dx, _, _, rfl, h1, c, n1, fs_signs S r, _, rfl, S, v, d, p, rfl, hd, hz, k⟩
end
end My
end
section
set_option Elab.async false
set_option linter.all false
set_option maxRecDepth 100000
set_option maxHeartbeats 4000000
namespace My
open PySem PySem.Spec PyProof.Rows L2
/-! ### what turns tell of heads -/
theorem headsAll_at (ps : List (Nat × Nat)) (e : Nat × Nat) (c : Nat) : headOf (headsAll (ps ++ [e])) c = if c = e.2 then some e.1 else if c = e.1 then some e.2 else headOf (headsAll ps) c := by
  rw [headsAll_snoc, headOf_putN, headOf_putN]
theorem mem_spread {e : Nat × Nat} {c : Nat} : c ∈ spread e ↔ c = e.1 ∨ c = e.2 := by
  unfold spread
  split
  · rename_i h
    rw [List.mem_singleton]
    exact ⟨.inl, fun q => q.elim id fun q => q.trans h.symm⟩
  · simp
/-- by the last turn -/
theorem snoc_ind {P : List (Nat × Nat) → Prop} (h0 : P []) (h1 : ∀ l e, P l → P (l ++ [e])) (l : List (Nat × Nat)) : P l := by
  have : ∀ n (l : List (Nat × Nat)), l.length = n → P l := by
    intro n
    induction n with
    | zero =>
      intro l hl
      rw [List.length_eq_zero_iff.mp hl]
      exact h0
    | succ n ih =>
      intro l hl
      have ne : l ≠ [] := by
        intro e
        rw [e] at hl
        simp at hl
      rw [← List.dropLast_concat_getLast ne]
      exact h1 _ _ (ih _ (by rw [List.length_dropLast]; omega))
  exact this _ l rfl
theorem heads_dom : ∀ (ps : List (Nat × Nat)) (c b : Nat), headOf (headsAll ps) c = some b → c ∈ ps.flatMap spread ∧ b ∈ ps.flatMap spread := by
  intro ps
  induction ps using snoc_ind with
  | h0 => intro c b h; cases h
  | h1 l e ih =>
    intro c b h
    rw [headsAll_at] at h
    rw [List.flatMap_append, List.flatMap_singleton]
    have m : ∀ x, x = e.1 ∨ x = e.2 → x ∈ l.flatMap spread ++ spread e := fun x q => List.mem_append_right _ (mem_spread.mpr q)
    split at h
    · rename_i q
      exact ⟨m c (.inr q), m b (.inl (Option.some.inj h).symm)⟩
    · split at h
      · rename_i q
        exact ⟨m c (.inl q), m b (.inr (Option.some.inj h).symm)⟩
      · obtain ⟨h1, h2⟩ := ih c b h
        exact ⟨List.mem_append_left _ h1, List.mem_append_left _ h2⟩
theorem heads_sym : ∀ (ps : List (Nat × Nat)), (ps.flatMap spread).Nodup → ∀ c b, headOf (headsAll ps) c = some b → headOf (headsAll ps) b = some c := by
  intro ps
  induction ps using snoc_ind with
  | h0 => intro _ c b h; cases h
  | h1 l e ih =>
    intro nd c b h
    rw [List.flatMap_append, List.flatMap_singleton, List.nodup_append] at nd
    obtain ⟨n1, n2, n3⟩ := nd
    rw [headsAll_at] at h ⊢
    split at h
    · rename_i q
      obtain rfl := Option.some.inj h
      by_cases z : e.1 = e.2
      · rw [if_pos z, q, z]
      · rw [if_neg z, if_pos rfl, q]
    · rename_i q
      split at h
      · rename_i q1
        obtain rfl := Option.some.inj h
        rw [if_pos rfl, q1]
      · rename_i q1
        obtain ⟨d1, d2⟩ := heads_dom l c b h
        have b1 : b ≠ e.1 := fun z => n3 b d2 e.1 (mem_spread.mpr (.inl rfl)) z
        have b2 : b ≠ e.2 := fun z => n3 b d2 e.2 (mem_spread.mpr (.inr rfl)) z
        rw [if_neg b2, if_neg b1]
        exact ih n1 c b h
/-- turns found again by what a font keeps -/
theorem turn_due {S : Str} {h : List (Nat × Nat)} (sym : ∀ c b, headOf h c = some b → headOf h b = some c) (inS : ∀ c b, headOf h c = some b → b ∈ S.cps.toList) {c : Nat} (hc : c ∈ S.cps.toList) : turnOf (dueOf S h) c = headOf h c := by
  have mem : ∀ e ∈ dueOf S h, headOf h e.1 = some e.2 := by
    intro e he
    unfold dueOf at he
    obtain ⟨h1, _⟩ := List.mem_filter.mp he
    obtain ⟨x, hx, rfl⟩ := List.mem_map.mp h1
    obtain ⟨_, h3⟩ := List.mem_filter.mp hx
    obtain ⟨b, hb⟩ := Option.isSome_iff_exists.mp h3
    show headOf h x = some ((headOf h x).getD 0)
    rw [hb]
    rfl
  have find : ∀ l : List (Nat × Nat), (∀ e ∈ l, headOf h e.1 = some e.2) → (∃ e ∈ l, c = e.1 ∨ c = e.2) → turnOf l c = headOf h c := by
    intro l
    induction l with
    | nil => intro _ ⟨e, he, _⟩; cases he
    | cons e l ih =>
      intro m ⟨e', he', q⟩
      have me := m e List.mem_cons_self
      show (if c = e.1 then some e.2 else if c = e.2 then some e.1 else turnOf l c) = _
      split
      · rename_i z
        rw [z, me]
      · rename_i z
        split
        · rename_i z2
          rw [z2]
          exact (sym _ _ me).symm
        · rename_i z2
          refine ih (fun x hx => m x (List.mem_cons_of_mem _ hx)) ⟨e', ?_, q⟩
          rcases List.mem_cons.mp he' with rfl | he'
          · exact absurd q (fun q => q.elim z z2)
          · exact he'
  have none' : ∀ l : List (Nat × Nat), (∀ e ∈ l, c ≠ e.1 ∧ c ≠ e.2) → turnOf l c = none := by
    intro l
    induction l with
    | nil => intro _; rfl
    | cons e l ih =>
      intro m
      obtain ⟨m1, m2⟩ := m e List.mem_cons_self
      show (if c = e.1 then some e.2 else if c = e.2 then some e.1 else turnOf l c) = _
      rw [if_neg m1, if_neg m2]
      exact ih fun x hx => m x (List.mem_cons_of_mem _ hx)
  cases hh : headOf h c with
  | none =>
    refine none' _ fun e he => ⟨fun z => ?_, fun z => ?_⟩
    · have := mem e he
      rw [← z, hh] at this
      cases this
    · have := sym _ _ (mem e he)
      rw [← z, hh] at this
      cases this
  | some b =>
    rw [← hh]
    refine find _ mem ?_
    have hb := inS c b hh
    have put : ∀ x y, x ∈ S.cps.toList → headOf h x = some y → S.cps.toList.idxOf x ≤ S.cps.toList.idxOf y → (x, y) ∈ dueOf S h := by
      intro x y hx hxy le
      unfold dueOf
      refine List.mem_filter.mpr ⟨List.mem_map.mpr ⟨x, List.mem_filter.mpr ⟨hx, by rw [hxy]; rfl⟩, by rw [hxy]; rfl⟩, decide_eq_true le⟩
    by_cases le : S.cps.toList.idxOf c ≤ S.cps.toList.idxOf b
    · exact ⟨_, put c b hc hh le, .inl rfl⟩
    · exact ⟨_, put b c hb (sym _ _ hh) (by omega), .inr rfl⟩
end My
end
section
set_option Elab.async false
set_option linter.all false
set_option maxRecDepth 100000
set_option maxHeartbeats 4000000
namespace My
open PySem PySem.Spec PyProof.Rows L2
theorem heads_iff : ∀ (ps : List (Nat × Nat)), (ps.flatMap spread).Nodup → ∀ c b, headOf (headsAll ps) c = some b ↔ (c, b) ∈ ps ∨ (b, c) ∈ ps := by
  intro ps
  induction ps using snoc_ind with
  | h0 => intro _ c b; simp [headsAll, headOf]
  | h1 l e ih =>
    intro nd c b
    rw [List.flatMap_append, List.flatMap_singleton, List.nodup_append] at nd
    obtain ⟨n1, n2, n3⟩ := nd
    obtain ⟨e1, e2⟩ := e
    have off : ∀ x y, (x, y) ∈ l → x ≠ e1 ∧ x ≠ e2 ∧ y ≠ e1 ∧ y ≠ e2 := by
      intro x y h
      have hx : x ∈ l.flatMap spread := List.mem_flatMap.mpr ⟨_, h, mem_spread.mpr (.inl rfl)⟩
      have hy : y ∈ l.flatMap spread := List.mem_flatMap.mpr ⟨_, h, mem_spread.mpr (.inr rfl)⟩
      exact ⟨fun z => n3 x hx e1 (mem_spread.mpr (.inl rfl)) z, fun z => n3 x hx e2 (mem_spread.mpr (.inr rfl)) z, fun z => n3 y hy e1 (mem_spread.mpr (.inl rfl)) z, fun z => n3 y hy e2 (mem_spread.mpr (.inr rfl)) z⟩
    rw [headsAll_at]
    simp only [List.mem_append, List.mem_singleton, Prod.mk.injEq]
    constructor
    · intro h
      split at h
      · rename_i q
        exact .inr (.inr ⟨(Option.some.inj h).symm, q⟩)
      · split at h
        · rename_i q
          exact .inl (.inr ⟨q, (Option.some.inj h).symm⟩)
        · exact ((ih n1 c b).mp h).elim (fun z => .inl (.inl z)) fun z => .inr (.inl z)
    · rintro ((h | ⟨rfl, rfl⟩) | (h | ⟨rfl, rfl⟩))
      · obtain ⟨a1, a2, _, _⟩ := off _ _ h
        rw [if_neg a2, if_neg a1]
        exact (ih n1 c b).mpr (.inl h)
      · by_cases z : c = b
        · rw [if_pos z, z]
        · rw [if_neg z, if_pos rfl]
      · obtain ⟨_, _, a1, a2⟩ := off _ _ h
        rw [if_neg a2, if_neg a1]
        exact (ih n1 c b).mpr (.inr h)
      · rw [if_pos rfl]
/-- turns in another order, some of them the other way round -/
structure SameTurns (ps qs : List (Nat × Nat)) : Prop where
  mem : ∀ c b, (c, b) ∈ ps ∨ (b, c) ∈ ps ↔ (c, b) ∈ qs ∨ (b, c) ∈ qs
  perm : (qs.flatMap spread).Perm (ps.flatMap spread)
theorem same_heads {ps qs : List (Nat × Nat)} (s : SameTurns ps qs) (nd : (ps.flatMap spread).Nodup) (c : Nat) : headOf (headsAll qs) c = headOf (headsAll ps) c := by
  have nq := s.perm.nodup_iff.mpr nd
  have key : ∀ b, headOf (headsAll qs) c = some b ↔ headOf (headsAll ps) c = some b := fun b => (heads_iff qs nq c b).trans ((s.mem c b).symm.trans (heads_iff ps nd c b).symm)
  cases h : headOf (headsAll ps) c with
  | some b => exact (key b).mpr h
  | none =>
    cases h2 : headOf (headsAll qs) c with
    | none => rfl
    | some b =>
      have := (key b).mp h2
      rw [h] at this
      cases this
theorem due_congr {S : Str} {h k : List (Nat × Nat)} (e : ∀ c, headOf h c = headOf k c) : dueOf S h = dueOf S k := by
  unfold dueOf
  have e2 : (fun c => (headOf h c).isSome) = fun c => (headOf k c).isSome := funext fun c => by rw [e]
  have e3 : (fun c => (c, (headOf h c).getD 0)) = fun c => (c, (headOf k c).getD 0) := funext fun c => by rw [e]
  rw [e2, e3]
theorem spread_swap (a b : Nat) : (spread (b, a)).Perm (spread (a, b)) := by
  unfold spread
  by_cases h : a = b
  · subst h
    exact .refl _
  · rw [if_neg (fun z => h z.symm), if_neg h]
    exact List.Perm.swap _ _ _
theorem same_perm {ps qs : List (Nat × Nat)} (p : qs.Perm ps) : SameTurns ps qs := ⟨fun c b => by rw [p.mem_iff, p.mem_iff], p.flatMap_right _⟩
theorem same_trans {ps qs rs : List (Nat × Nat)} (a : SameTurns ps qs) (b : SameTurns qs rs) : SameTurns ps rs := ⟨fun x y => (a.mem x y).trans (b.mem x y), b.perm.trans a.perm⟩
theorem same_flip : ∀ {ps qs : List (Nat × Nat)}, Paired (fun e e' => e' = e ∨ e' = (e.2, e.1)) ps qs → SameTurns ps qs
  | _, _, .nil => ⟨fun _ _ => Iff.rfl, .refl _⟩
  | _, _, .cons (a := e) (b := e') h t => by
    have r := same_flip t
    obtain ⟨a, b⟩ := e
    refine ⟨fun c d => ?_, ?_⟩
    · have rm := r.mem c d
      simp only [List.mem_cons]
      rcases h with rfl | rfl
      · constructor
        · rintro ((z | z) | (z | z))
          · exact .inl (.inl z)
          · exact (rm.mp (.inl z)).elim (fun z => .inl (.inr z)) fun z => .inr (.inr z)
          · exact .inr (.inl z)
          · exact (rm.mp (.inr z)).elim (fun z => .inl (.inr z)) fun z => .inr (.inr z)
        · rintro ((z | z) | (z | z))
          · exact .inl (.inl z)
          · exact (rm.mpr (.inl z)).elim (fun z => .inl (.inr z)) fun z => .inr (.inr z)
          · exact .inr (.inl z)
          · exact (rm.mpr (.inr z)).elim (fun z => .inl (.inr z)) fun z => .inr (.inr z)
      · simp only [Prod.mk.injEq]
        constructor
        · rintro ((⟨rfl, rfl⟩ | z) | (⟨rfl, rfl⟩ | z))
          · exact .inr (.inl ⟨rfl, rfl⟩)
          · exact (rm.mp (.inl z)).elim (fun z => .inl (.inr z)) fun z => .inr (.inr z)
          · exact .inl (.inl ⟨rfl, rfl⟩)
          · exact (rm.mp (.inr z)).elim (fun z => .inl (.inr z)) fun z => .inr (.inr z)
        · rintro ((⟨rfl, rfl⟩ | z) | (⟨rfl, rfl⟩ | z))
          · exact .inr (.inl ⟨rfl, rfl⟩)
          · exact (rm.mpr (.inl z)).elim (fun z => .inl (.inr z)) fun z => .inr (.inr z)
          · exact .inl (.inl ⟨rfl, rfl⟩)
          · exact (rm.mpr (.inr z)).elim (fun z => .inl (.inr z)) fun z => .inr (.inr z)
    · rw [List.flatMap_cons, List.flatMap_cons]
      rcases h with rfl | rfl
      · exact List.Perm.append_left _ r.perm
      · exact (spread_swap a b).append r.perm
/-- what the program keeps of such turns -/
theorem heads_from {S : Str} : ∀ (l l0 : List (Nat × Nat)), ((l0 ++ l).flatMap spread).Nodup → (∀ c ∈ l.flatMap spread, c ∈ S.cps.toList) → headsFrom S (headsAll l0) (l.map fun e => .tuple [.str ⟨#[e.1]⟩, .str ⟨#[e.2]⟩]) = some (headsAll (l0 ++ l)) := by
  intro l
  induction l with
  | nil => intro l0 _ _; rw [List.append_nil]; rfl
  | cons e l ih =>
    intro l0 nd inS
    obtain ⟨a, b⟩ := e
    have ia : a ∈ S.cps.toList := inS a (List.mem_flatMap.mpr ⟨_, List.mem_cons_self, mem_spread.mpr (.inl rfl)⟩)
    have ib : b ∈ S.cps.toList := inS b (List.mem_flatMap.mpr ⟨_, List.mem_cons_self, mem_spread.mpr (.inr rfl)⟩)
    have sD : ∀ x, x ∈ S.cps.toList → signD S (.str ⟨#[x]⟩) = true := by
      intro x hx
      rw [signD_str]
      have e1 : (⟨#[x]⟩ : Str).length = 1 := rfl
      rw [e1]
      simp only [decide_true, Bool.true_and, List.all_cons, List.all_nil, Bool.and_true]
      exact decide_eq_true hx
    have pD : pairOf S (.tuple [.str ⟨#[a]⟩, .str ⟨#[b]⟩]) = some (a, b) := by
      show (if (signD S (.str ⟨#[a]⟩) && signD S (.str ⟨#[b]⟩)) = true then some _ else none) = _
      rw [sD a ia, sD b ib]
      rfl
    rw [List.flatMap_append, List.nodup_append] at nd
    obtain ⟨n1, n2, n3⟩ := nd
    have off : ∀ x, x = a ∨ x = b → headOf (headsAll l0) x = none := by
      intro x hx
      cases h : headOf (headsAll l0) x with
      | none => rfl
      | some y =>
        obtain ⟨d1, _⟩ := heads_dom l0 x y h
        exact absurd rfl (n3 x d1 x (List.mem_flatMap.mpr ⟨(a, b), List.mem_cons_self, mem_spread.mpr hx⟩))
    rw [List.map_cons, headsFrom_cons, pD]
    show (if ((headOf (headsAll l0) a).isSome || (headOf (headsAll l0) b).isSome) = true then none else headsFrom S (putN (putN (headsAll l0) a b) b a) _) = _
    rw [off a (.inl rfl), off b (.inr rfl), if_neg (by decide)]
    have e2 : putN (putN (headsAll l0) a b) b a = headsAll (l0 ++ [(a, b)]) := (headsAll_snoc l0 (a, b)).symm
    rw [e2, ih (l0 ++ [(a, b)]) ?_ ?_, List.append_assoc]
    · rfl
    · rw [List.append_assoc]
      show ((l0 ++ (a, b) :: l).flatMap spread).Nodup
      rw [List.flatMap_append, List.nodup_append]
      exact ⟨n1, n2, n3⟩
    · intro c hc
      refine inS c ?_
      rw [List.flatMap_cons]
      exact List.mem_append_right _ hc
theorem kept_same {S : Str} {ps qs : List (Nat × Nat)} (s : SameTurns ps qs) (nd : (ps.flatMap spread).Nodup) (inS : ∀ c ∈ ps.flatMap spread, c ∈ S.cps.toList) :
    (headsFrom S [] (qs.map fun e => .tuple [.str ⟨#[e.1]⟩, .str ⟨#[e.2]⟩])).map (dueOf S) = some (dueOf S (headsAll ps)) := by
  have := heads_from (S := S) qs [] (by simpa using s.perm.nodup_iff.mpr nd) (fun c hc => inS c (s.perm.mem_iff.mp hc))
  have e : headsFrom S [] (qs.map fun e => .tuple [.str ⟨#[e.1]⟩, .str ⟨#[e.2]⟩]) = some (headsAll qs) := by
    rw [List.nil_append] at this
    exact this
  rw [e, Option.map_some, due_congr (same_heads s nd)]
end My
end
section
set_option Elab.async false
set_option linter.all false
set_option maxRecDepth 100000
set_option maxHeartbeats 4000000
namespace My
open PySem PySem.Spec PyProof.Rows L2
section
variable {X : Cx} {CX : CXT} {k i : Nat} {C f p g : Addr} {mc : Value} {fd : FuncData} {ps : List Str} {sp : Sp} {dvs : List V} {ds : List Value} {E : XK} {x m : Str} {np pos apos : Pos} {o e : Expr} {es : List Expr} {ta : TE} {t : TA}
/-- c(a, ..), the name c a local that holds the class at C -/
def tMakeL (i : Nat) (C : Addr) (sp : Sp) (dvs : List V) (E : XK) (t : TA) : TE := fun σ H Q => σ[i]? = some (some (.ref C)) ∧ tMake C sp dvs E t σ H Q
theorem pe_makeL (M : Mk X.K C f) (F : FnOk X.prog X.w X.K X.mg X.base CX k f fd ps sp) (hr : Room (k + 1) X.A) (hN : X.N[i]? = some x) (hv : Vis X.env.scope x) (hb : Binds X.K fd ps ds) (hd : Vals dvs ds) (hx : Passes CX X E) (ha : PA X (e :: es) t)
    (hdb : (x == ("__debug__" : Str)) = false := by decide) (hcd : (x == ("__classdict__" : Str)) = false := by decide)
    (he : starEach (e :: es) X.env = (false, eval e X.env) :: starEach es X.env := by rfl) (hpl : (backTo pos (starEach es X.env)).any (·.1) = false := by rfl) :
    PE X (.Call (.Name x np) (e :: es) [] pos) (tMakeL i C sp dvs E t) := by
  refine ⟨fun pins s σ H Q I h => ?_⟩
  obtain ⟨hs, ht⟩ := h
  refine wpAny_Call_Name_kw (thn ((pe_var (pos := np) hN hv hdb hcd).run pins s σ H (fun v H1 => v = .ref C ∧ H1 = H) I ⟨.ref C, hs, rfl, rfl⟩) fun u s1 ⟨v, H1, I1, r1, q1⟩ => ?_)
  obtain ⟨rfl, rfl⟩ := q1
  cases r1
  refine PySem.W.callWith_K (h₀ := X.base) I.ok.mod.kin M.kp (thn (ha.run pos pins s1 σ _ _ I1 ht) fun us s2 ⟨vs, H2, I2, r, q⟩ => ⟨I2.kIn, ?_⟩) he hpl
  exact run_make M F hr hb hd hx I2 r q
/-- C.m(), m a classmethod -/
theorem pe_cmeth0 {pl : Sem Bool} (he : PE X o ta) (r : ClX.CRead X.K C mc) (c : ClX.CMet X.K C mc m p g) (F : FnR X.prog X.w X.K X.mg X.base CX k g sp) (hr : Room k X.A) (hx : Passes CX X E)
    (ht : eval (.Call (.Attribute o m apos) [] [] pos) X.env = (do
      let ov ← eval o X.env
      standAt apos.atName
      let (f, first) ← holding [ov] (getMethod ov m pl)
      callWith pos f first (backTo pos (starEach [] X.env)) (backToKw pos (keywordEach [] X.env))) := by rfl) :
    PE X (.Call (.Attribute o m apos) [] [] pos) (ClX.tCMeth C sp E ta tNil) := by
  refine ⟨fun pins s σ H Q I h => ?_⟩
  refine PySem.W.methodCall_KW (pl := pl) (thn (he.run pins s σ H _ I h) fun u s1 ⟨x, H1, I1, rx, ex, q⟩ => ?_) ht
  subst ex
  obtain rfl : u = Value.ref C := rx
  refine ClX.getmethcm_ok I1 r c fun s2 I2 => ?_
  have at_ : PySem.W.MethP X.K s1.heap.objs.size g (.ref C) s2.heap := ⟨ClX.pin_at I2, I2.kIn⟩
  exact PySem.W.callWith_M0 (first := []) at_ c.fi (ClX.run_cm (us := []) (vs := []) F hr hx I2 .nil q)
end
end My
end
section
set_option Elab.async false
set_option linter.all false
set_option maxRecDepth 100000
set_option maxHeartbeats 4000000
namespace My
open PySem PySem.Spec PyProof.Rows L2
theorem made_same {H H' : Hp} {C x dx : Addr} (hx : H x = none) (hdx : H dx = none) (b : But x (upd (upd H dx (.own x)) x (.ins C dx [])) H') : Same H H' := fun q o e =>
  b q o (ne_of_none e hx) (by rw [upd_ne (ne_of_none e hx), upd_ne (ne_of_none e hdx)]; exact e)
theorem made_up {H : Hp} {C x dx : Addr} (hx : H x = none) (hdx : H dx = none) : Same H (upd (upd H dx (.own x)) x (.ins C dx [])) := fun q o e => by
  rw [upd_ne (ne_of_none e hx), upd_ne (ne_of_none e hdx)]
  exact e
abbrev digitsS : Str := "0123456789"
def digitsPs : List (Nat × Nat) := [(48, 48), (49, 49), (54, 57), (56, 56)]
def pairD (e : Nat × Nat) : PyData := .tuple [.str ⟨#[e.1]⟩, .str ⟨#[e.2]⟩]
theorem digits_kept : keptD digitsS (.tuple (digitsPs.map pairD)) = some (dueOf digitsS (headsAll digitsPs)) := by decide +kernel
section
variable {P : Program} {w : World} {K : PySem.W.Frag} {mg : Str → Option Value} {base : Heap}
end
end My
end
section
set_option Elab.async false
set_option linter.all false
set_option maxRecDepth 100000
set_option maxHeartbeats 4000000
namespace My
open PySem PySem.Spec PyProof.Rows L2
theorem due_nil (S : Str) : dueOf S [] = [] := by
  unfold dueOf
  have : S.cps.toList.filter (fun c => (headOf [] c).isSome) = [] := by
    rw [List.filter_eq_nil_iff]
    intro c _
    simp [headOf]
  rw [this]
  rfl
theorem kept_nilT (S : Str) : keptD S (.tuple []) = some [] := by
  show some (dueOf S []) = _
  rw [due_nil]
theorem kept_nilL (S : Str) : keptD S (.list []) = some [] := by
  show some (dueOf S []) = _
  rw [due_nil]
end My
end
section
set_option Elab.async false
set_option linter.all false
set_option maxRecDepth 100000
set_option maxHeartbeats 4000000
namespace My
open PySem PySem.Spec PyProof.Rows L2
/-! ### how long a shown value can be -/
mutual
def wt : PyData → Nat
  | .str z => 10 * z.length + 2
  | .list ds => wtAll ds + 4
  | .tuple ds => wtAll ds + 4
  | d => d.shown.length
def wtAll : List PyData → Nat
  | [] => 0
  | d :: ds => wt d + 2 + wtAll ds
end
mutual
/-- every character of every text is a character -/
def chr : PyData → Bool
  | .str z => z.cps.toList.all fun c => decide (c < 16 ^ 8)
  | .list ds => chrAll ds
  | .tuple ds => chrAll ds
  | _ => true
def chrAll : List PyData → Bool
  | [] => true
  | d :: ds => chr d && chrAll ds
end
theorem sum_shown (ds : List PyData) (h : ∀ d ∈ ds, d.shown.length ≤ wt d) : ((PyData.shownAll ds).map (·.length)).sum + (PyData.shownAll ds).length * 2 ≤ wtAll ds := by
  induction ds with
  | nil => exact Nat.le_refl _
  | cons d ds ih =>
    have h1 := h d List.mem_cons_self
    have h2 := ih fun x hx => h x (List.mem_cons_of_mem _ hx)
    show ((d.shown :: PyData.shownAll ds).map (·.length)).sum + (d.shown :: PyData.shownAll ds).length * 2 ≤ wt d + 2 + wtAll ds
    rw [List.map_cons, List.sum_cons, List.length_cons]
    omega
theorem len_app (x y : Str) : (x ++ y).length = x.length + y.length := by
  show (x.cps ++ y.cps).size = _
  rw [Array.size_append]
  rfl
theorem from_le : ∀ (ts : List Str) (k : Nat) (acc : Str), (textFrom k acc ts).length ≤ acc.length + (ts.map (·.length)).sum + ts.length * 2
  | [], k, acc => Nat.le_refl _
  | t :: r, k, acc => by
    have ih := from_le r (k + 1) (acc ++ (if k > 0 then ", " else "" : String) ++ t)
    have hs : ((if k > 0 then ", " else "" : String) : Str).length ≤ 2 := by
      by_cases h : k > 0
      · rw [if_pos h]; decide
      · rw [if_neg h]; decide
    rw [len_app, len_app] at ih
    show (textFrom (k + 1) (acc ++ (if k > 0 then ", " else "" : String) ++ t) r).length ≤ _
    rw [List.map_cons, List.sum_cons, List.length_cons]
    omega
theorem list_le (ts : List Str) : (listText ts).length ≤ (ts.map (·.length)).sum + ts.length * 2 + 4 := by
  have := from_le ts 0 "["
  show (textFrom 0 "[" ts ++ "]").length ≤ _
  rw [len_app]
  have e1 : ("[" : Str).length = 1 := by decide
  have e2 : ("]" : Str).length = 1 := by decide
  omega
theorem tuple_le (ts : List Str) : (tupleText ts).length ≤ (ts.map (·.length)).sum + ts.length * 2 + 4 := by
  have := StrLaws.join_length_le ", " ts
  have e : (PySem.Str.ofString ", ").length = 2 := by decide
  rw [e] at this
  have hs : ((if ts.length == 1 then ",)" else ")" : String) : Str).length ≤ 2 := by
    by_cases h : (ts.length == 1) = true
    · rw [if_pos h]; decide
    · rw [if_neg h]; decide
  show (("(" : Str) ++ Str.join ", " ts ++ (if ts.length == 1 then ",)" else ")" : String)).length ≤ _
  rw [len_app, len_app]
  have e1 : ("(" : Str).length = 1 := by decide
  omega
mutual
theorem shown_wt : ∀ d : PyData, chr d = true → d.shown.length ≤ wt d
  | .none, _ => Nat.le_refl _
  | .bool _, _ => Nat.le_refl _
  | .int _, _ => Nat.le_refl _
  | .dict _, _ => Nat.le_refl _
  | .str z, h => by
    simp only [chr, List.all_eq_true, decide_eq_true_eq] at h
    exact StrLaws.reprText_len z h
  | .list ds, h => by
    have h1 := sum_shown ds (shown_wtA ds h)
    have h2 := list_le (PyData.shownAll ds)
    show (listText (PyData.shownAll ds)).length ≤ wtAll ds + 4
    omega
  | .tuple ds, h => by
    have h1 := sum_shown ds (shown_wtA ds h)
    have h2 := tuple_le (PyData.shownAll ds)
    show (tupleText (PyData.shownAll ds)).length ≤ wtAll ds + 4
    omega
theorem shown_wtA : ∀ ds : List PyData, chrAll ds = true → ∀ d ∈ ds, d.shown.length ≤ wt d
  | [], _, d, hd => by cases hd
  | e :: ds, h, d, hd => by
    simp only [chrAll, Bool.and_eq_true] at h
    rcases List.mem_cons.mp hd with he | hd
    · rw [he]
      exact shown_wt e h.1
    · exact shown_wtA ds h.2 d hd
end
end My
end
section
set_option Elab.async false
set_option linter.all false
set_option maxRecDepth 100000
set_option maxHeartbeats 4000000
namespace My
open PySem PySem.Spec PyProof.Rows L2
/-! ### data that a law shows -/
theorem alpha_small : ∀ c ∈ alphabet.cps.toList, c < 16 ^ 8 := by decide +kernel
theorem pairs_data : ∀ l : List (Nat × Nat), (∀ e ∈ l, e.1 ∈ alphabet.cps.toList ∧ e.2 ∈ alphabet.cps.toList) →
    chrAll (l.map pairD) = true ∧ PyData.showableAll (l.map pairD) = true ∧ PyData.depthAll (l.map pairD) ≤ 3 ∧ wtAll (l.map pairD) ≤ 40 * l.length ∧ PyData.hasDictAll (l.map pairD) = false := by
  intro l
  induction l with
  | nil => intro _; exact ⟨rfl, rfl, Nat.zero_le _, Nat.zero_le _, rfl⟩
  | cons e l ih =>
    intro h
    obtain ⟨a, b⟩ := e
    obtain ⟨h1, h2⟩ := h (a, b) List.mem_cons_self
    obtain ⟨i1, i2, i3, i4, i5⟩ := ih fun x hx => h x (List.mem_cons_of_mem _ hx)
    have ca : a < 16 ^ 8 := alpha_small a h1
    have cb : b < 16 ^ 8 := alpha_small b h2
    have c1 : chr (pairD (a, b)) = true := by
      simp only [pairD, chr, chrAll, Bool.and_eq_true, List.all_eq_true, decide_eq_true_eq]
      refine ⟨fun x hx => ?_, fun x hx => ?_, trivial⟩
      · have : x = a := by simpa using hx
        rw [this]; exact ca
      · have : x = b := by simpa using hx
        rw [this]; exact cb
    refine ⟨?_, ?_, ?_, ?_, ?_⟩
    · show (chr (pairD (a, b)) && chrAll (l.map pairD)) = true
      rw [c1, i1]
      rfl
    · show (PyData.showable (pairD (a, b)) && PyData.showableAll (l.map pairD)) = true
      rw [i2]
      rfl
    · show max (PyData.depth (pairD (a, b))) (PyData.depthAll (l.map pairD)) ≤ 3
      exact Nat.max_le.mpr ⟨by show 1 ≤ 3; decide, i3⟩
    · show wt (pairD (a, b)) + 2 + wtAll (l.map pairD) ≤ 40 * (l.length + 1)
      have : wt (pairD (a, b)) = 32 := rfl
      omega
    · show (PyData.hasDict (pairD (a, b)) || PyData.hasDictAll (l.map pairD)) = false
      rw [i5]
      rfl
/-- pairs as a font keeps them -/
theorem rp_pairs {K : PySem.W.Frag} {H : Hp} {p : Addr} {o : HO} (hp : H p = some o) (no : ∀ xs, o ≠ .tup xs) {st : Bool} : ∀ {ps : List (Nat × Nat)} {ys : List V}, PairsAt H ps ys → RpAll K p H st ys (ps.map pairD)
  | _, _, .nil => .nil _
  | _, _, .cons ⟨q, e, h⟩ t => by
    subst e
    exact .cons (.tup h (fun z => by rw [z, hp] at h; exact no _ (Option.some.inj h)) (.cons (.str _ _) (.cons (.str _ _) (.nil _)))) (rp_pairs hp no t)
theorem due_le (S : Str) (h : List (Nat × Nat)) : (dueOf S h).length ≤ S.length := by
  unfold dueOf
  refine Nat.le_trans (List.length_filter_le _ _) ?_
  rw [List.length_map]
  refine Nat.le_trans (List.length_filter_le _ _) ?_
  exact Nat.le_of_eq Array.length_toList
theorem due_in {S : Str} {h : List (Nat × Nat)} (inS : ∀ c b, headOf h c = some b → b ∈ S.cps.toList) : ∀ e ∈ dueOf S h, e.1 ∈ S.cps.toList ∧ e.2 ∈ S.cps.toList := by
  intro e he
  unfold dueOf at he
  obtain ⟨h1, _⟩ := List.mem_filter.mp he
  obtain ⟨x, hx, rfl⟩ := List.mem_map.mp h1
  obtain ⟨h2, h3⟩ := List.mem_filter.mp hx
  obtain ⟨b, hb⟩ := Option.isSome_iff_exists.mp h3
  refine ⟨h2, ?_⟩
  show (headOf h x).getD 0 ∈ _
  rw [hb]
  exact inS x b hb
/-- what is shown of a font: its signs, its turns, how many signs -/
def fontData (S : Str) (l : List (Nat × Nat)) : PyData := .tuple [.str S, .tuple (l.map pairD), .int S.length]
theorem small_int : ∀ n : Fin 11, (PyData.int ((n : Nat) : Int)).shown.length ≤ 10 ∧ (PyData.int ((n : Nat) : Int)).showable = true := by decide +kernel
theorem font_data {S : Str} {l : List (Nat × Nat)} (hS : S.length ≤ 10) (ab : ∀ c ∈ S.cps.toList, c ∈ alphabet.cps.toList) (hl : l.length ≤ 10) (inS : ∀ e ∈ l, e.1 ∈ S.cps.toList ∧ e.2 ∈ S.cps.toList) :
    (fontData S l).showable = true ∧ (fontData S l).shown.length ≤ sizeLine ∧ (fontData S l).depth ≤ 60 ∧ (fontData S l).hasDict = false := by
  obtain ⟨h1, h2, h3, h4, h5⟩ := pairs_data l fun e he => ⟨ab _ (inS e he).1, ab _ (inS e he).2⟩
  obtain ⟨n1, n2⟩ := small_int ⟨S.length, by omega⟩
  have cS : chr (.str S) = true := by
    simp only [chr, List.all_eq_true, decide_eq_true_eq]
    exact fun c hc => alpha_small c (ab c hc)
  refine ⟨?_, ?_, ?_, ?_⟩
  · show (true && (PyData.showableAll (l.map pairD) && (PyData.showable (.int S.length) && true))) = true
    rw [h2, n2]
    rfl
  · refine Nat.le_trans (shown_wt _ ?_) ?_
    · show (chr (.str S) && (chrAll (l.map pairD) && (true && true))) = true
      rw [cS, h1]
      rfl
    · show (10 * S.length + 2 + 2 + (wtAll (l.map pairD) + 4 + 2 + ((PyData.int S.length).shown.length + 2 + 0))) + 4 ≤ sizeLine
      have : (1000 : Nat) ≤ sizeLine := by decide
      have n3 : (PyData.int S.length).shown.length ≤ 10 := n1
      omega
  · show max 0 (max (PyData.depthAll (l.map pairD) + 1) (max 0 0)) + 1 ≤ 60
    omega
  · show (false || (PyData.hasDictAll (l.map pairD) || (false || false))) = false
    rw [h5]
    rfl
end My
end
section
set_option Elab.async false
set_option linter.all false
set_option maxRecDepth 100000
set_option maxHeartbeats 4000000
namespace My
open PySem PySem.Spec PyProof.Rows L2 LamX
/-! ### frames that let tables grow -/
section
variable {K : PySem.W.Frag} {p : Addr} {H H1 : Hp}
mutual
theorem Rp.ext (s : ExtN H H1) : ∀ {st : Bool} {d : PyData} {v : V}, Rp K p H st v d → Rp K p H1 st v d
  | _, _, _, .non _ => .non _
  | _, _, _, .bl _ b => .bl _ b
  | _, _, _, .int _ i => .int _ i
  | _, _, _, .str _ z => .str _ z
  | _, _, _, .lst h n m r => .lst (s _ _ h fun _ z => by cases z) n m (RpAll.ext s r)
  | _, _, _, .tup h n r => .tup (s _ _ h fun _ z => by cases z) n (RpAll.ext s r)
  | _, _, _, .dct h n r1 r2 e => .dct (s _ _ h fun _ z => by cases z) n (RpAll.ext s r1) (RpAll.ext s r2) e
  | _, _, _, .emp h => .emp h
theorem RpAll.ext (s : ExtN H H1) : ∀ {st : Bool} {ds : List PyData} {vs : List V}, RpAll K p H st vs ds → RpAll K p H1 st vs ds
  | _, _, _, .nil _ => .nil _
  | _, _, _, .cons a b => .cons (Rp.ext s a) (RpAll.ext s b)
end
theorem PairsAt.ext (s : ExtN H H1) : ∀ {ps : List (Nat × Nat)} {ys : List V}, PairsAt H ps ys → PairsAt H1 ps ys
  | _, _, .nil => .nil
  | _, _, .cons ⟨q, e, h⟩ t => .cons ⟨q, e, s _ _ h fun _ z => by cases z⟩ (PairsAt.ext s t)
theorem FontAt.ext {C a : Addr} {S : Str} {ps : List (Nat × Nat)} (s : ExtN H H1) (h : FontAt H C a S ps) : FontAt H1 C a S ps := by
  obtain ⟨dx, r, ys, h1, h2, h3⟩ := h.at_
  exact ⟨dx, r, ys, s _ _ h1 (fun _ z => by cases z), s _ _ h2 (fun _ z => by cases z), h3.ext s⟩
theorem PenAt.ext {c : Addr} {n : Nat} (s : ExtN H H1) (h : PenAt H p c n) : PenAt H1 p c n := by
  obtain ⟨cs, u, z, h1, h2, h3, h4, h5⟩ := h
  exact ⟨cs, u, z, s _ _ h1 (fun _ z => by cases z), s _ _ h2 (fun _ z => by cases z), h3, h4, h5⟩
/-- tables stay what they are where only the pen changes -/
theorem Tabs.but {c : Addr} {n : Nat} {T : List (Addr × Str)} (h : PenAt H p c n) (b : But p H H1) (t : Tabs T H) : Tabs T H1 := fun e he => by
  obtain ⟨ps, h1, h2, h3⟩ := t e he
  obtain ⟨cs, u, z, hp, _⟩ := h
  refine ⟨ps, b _ _ (ne_of h1 hp (by intro z; cases z)) h1, h2, fun pos cv hc => ?_⟩
  obtain ⟨c', e1, e2⟩ := h3 pos cv hc
  exact ⟨c', e1, b _ _ (fun z => by rw [z, hp] at e2; have := Option.some.inj e2; unfold CodeO at this; cases this) e2⟩
end
/-- data that a law may show: what it is about -/
structure Shown (K : PySem.W.Frag) (p : Addr) (H : Hp) (v : V) (d : PyData) : Prop where
  rp : Rp K p H d.hasDict v d
  fit : fit d = true
  dep : d.depth ≤ 4
  shw : d.showable = true
  len : d.shown.length ≤ 200
section
variable {K : PySem.W.Frag} {p : Addr} {H H1 : Hp} {v : V} {d : PyData}
theorem Shown.but (s : But p H H1) (h : Shown K p H v d) : Shown K p H1 v d := ⟨h.rp.but s, h.fit, h.dep, h.shw, h.len⟩
theorem Shown.same (s : Same H H1) (h : Shown K p H v d) : Shown K p H1 v d := h.but (.of s)
theorem Shown.ext (s : ExtN H H1) (h : Shown K p H v d) : Shown K p H1 v d := ⟨h.rp.ext s, h.fit, h.dep, h.shw, h.len⟩
theorem Shown.text (h : Shown K p H v d) : textFits sizeLine d := (fit.text h.fit).more (by decide)
/-- a list of one: it does not stand at sys.modules' place -/
theorem Shown.one {r : Addr} (h : Shown K p H v d) (hr : H r = some (.lst [v])) (n : r ≠ p) (n2 : r ≠ sysModules) : Rp K p H false (.ref r) (.list [d]) := by
  refine .lst hr n (fun _ => n2) (.cons ?_ (.nil _))
  show Rp K p H (d.hasDict || false) v d
  rw [Bool.or_false]
  exact h.rp
theorem one_data (h1 : d.showable = true) (h2 : d.shown.length ≤ 200) (h3 : d.depth ≤ 4) : (PyData.list [d]).showable = true ∧ (PyData.list [d]).shown.length ≤ sizeLine ∧ (PyData.list [d]).depth ≤ 60 := by
  refine ⟨?_, ?_, ?_⟩
  · show (d.showable && true) = true
    rw [h1]; rfl
  · have e : (PyData.list [d]).shown.length ≤ d.shown.length + 10 := by
      have := list_le [d.shown]
      have e2 : ([d.shown].map (·.length)).sum = d.shown.length := by simp
      rw [e2] at this
      show (listText [d.shown]).length ≤ _
      simp only [List.length_cons, List.length_nil] at this
      omega
    have : (1000 : Nat) ≤ sizeLine := by decide
    omega
  · show max d.depth 0 + 1 ≤ 60
    omega
theorem shown_str {z : Str} (h : z.length ≤ 10) (hc : ∀ c ∈ z.cps.toList, c < 16 ^ 8) : Shown K p H (.str z) (.str z) := by
  refine ⟨.str _ _, ?_, Nat.zero_le _, rfl, ?_⟩
  · show decide (z.length ≤ 4000) = true
    exact decide_eq_true (Nat.le_trans h (by decide))
  · refine Nat.le_trans (shown_wt _ ?_) ?_
    · simp only [chr, List.all_eq_true, decide_eq_true_eq]
      exact hc
    · show 10 * z.length + 2 ≤ 200
      omega
end
end My
end
section
set_option Elab.async false
set_option linter.all false
set_option maxRecDepth 100000
set_option maxHeartbeats 4000000
namespace My
open PySem PySem.Spec PyProof.Rows L2 LamX
/-! ### a statement's reading, weakened -/
theorem PS.weak {X : Cx} {st : Stmt} {t t' : TS} (h : PS X st t) (hw : ∀ D σ H, t' D σ H → t D σ H) : PS X st t' := ⟨fun pins s σ H D I q => h.run pins s σ H D I (hw D σ H q)⟩
/-! ### where no list is changed but one -/
def ExtL (H H' : Hp) : Prop := ∀ b o, H b = some o → (∀ xs, o ≠ .lst xs) → H' b = some o
section
variable {K : PySem.W.Frag} {H H1 : Hp}
theorem ExtL.wr {l : Addr} {xs : List V} {o : HO} (h : H l = some (.lst xs)) (w : Wr H l o H1) : ExtL H H1 := fun b u e n => by
  rw [w.els b (fun z => n xs (by rw [z, h] at e; exact (Option.some.inj e).symm))]
  exact e
theorem PairsAt.extL (s : ExtL H H1) : ∀ {ps : List (Nat × Nat)} {ys : List V}, PairsAt H ps ys → PairsAt H1 ps ys
  | _, _, .nil => .nil
  | _, _, .cons ⟨q, e, h⟩ t => .cons ⟨q, e, s _ _ h fun _ z => by cases z⟩ (PairsAt.extL s t)
theorem FontAt.extL {C a : Addr} {S : Str} {ps : List (Nat × Nat)} (s : ExtL H H1) (h : FontAt H C a S ps) : FontAt H1 C a S ps := by
  obtain ⟨dx, r, ys, h1, h2, h3⟩ := h.at_
  exact ⟨dx, r, ys, s _ _ h1 (fun _ z => by cases z), s _ _ h2 (fun _ z => by cases z), h3.extL s⟩
theorem Tabs.extL {T : List (Addr × Str)} (s : ExtL H H1) (t : Tabs T H) : Tabs T H1 := fun e he => by
  obtain ⟨ps, h1, h2, h3⟩ := t e he
  refine ⟨ps, s _ _ h1 (fun _ z => by cases z), h2, fun pos cv hc => ?_⟩
  obtain ⟨c', e1, e2⟩ := h3 pos cv hc
  exact ⟨c', e1, s _ _ e2 (fun _ z => by unfold CodeO at z; cases z)⟩
theorem PairsAt.but {p : Addr} {o : HO} (hp : H p = some o) (no : ∀ xs, o ≠ .tup xs) (s : But p H H1) : ∀ {ps : List (Nat × Nat)} {ys : List V}, PairsAt H ps ys → PairsAt H1 ps ys
  | _, _, .nil => .nil
  | _, _, .cons ⟨q, e, h⟩ t => .cons ⟨q, e, s _ _ (fun z => by rw [z, hp] at h; exact no _ (Option.some.inj h)) h⟩ (PairsAt.but hp no s t)
theorem PairsAt.pen {p c : Addr} {n : Nat} (hP : PenAt H p c n) (s : But p H H1) {ps : List (Nat × Nat)} {ys : List V} (h : PairsAt H ps ys) : PairsAt H1 ps ys := by
  obtain ⟨cs, u, z, hp, _⟩ := hP
  exact h.but hp (fun xs z => by cases z) s
theorem FontAt.pen {p c : Addr} {n : Nat} (hP : PenAt H p c n) (s : But p H H1) {C a : Addr} {S : Str} {ps : List (Nat × Nat)} (h : FontAt H C a S ps) : FontAt H1 C a S ps := by
  obtain ⟨dx, r, ys, h1, h2, h3⟩ := h.at_
  have h3' := h3.pen hP s
  obtain ⟨cs, u, z, hp, _⟩ := hP
  exact ⟨dx, r, ys, s _ _ (ne_of h1 hp (by intro z; cases z)) h1, s _ _ (ne_of h2 hp (by intro z; cases z)) h2, h3'⟩
/-- turns that are passed: what they are as data -/
theorem fit_pairs : ∀ qs : List (Nat × Nat), fitAll (qs.map pairD) = true
  | [] => rfl
  | e :: qs => by
    show (fit (pairD e) && fitAll (qs.map pairD)) = true
    rw [fit_pairs qs]
    rfl
theorem passed_data {qs : List (Nat × Nat)} (hl : qs.length ≤ 10) (ab : ∀ e ∈ qs, e.1 ∈ alphabet.cps.toList ∧ e.2 ∈ alphabet.cps.toList) {d : PyData} (hd : d = .list (qs.map pairD) ∨ d = .tuple (qs.map pairD)) :
    fit d = true ∧ d.showable = true ∧ d.shown.length ≤ sizeLine ∧ d.depth ≤ 60 := by
  obtain ⟨h1, h2, h3, h4, h5⟩ := pairs_data qs ab
  have f := fit_pairs qs
  have big : (1000 : Nat) ≤ sizeLine := by decide
  have hl2 : (qs.map pairD).length ≤ 4000 := by rw [List.length_map]; omega
  rcases hd with rfl | rfl
  · refine ⟨?_, h2, ?_, ?_⟩
    · show (decide ((qs.map pairD).length ≤ 4000) && fitAll (qs.map pairD)) = true
      rw [f, decide_eq_true hl2]; rfl
    · refine Nat.le_trans (shown_wt _ h1) ?_
      show wtAll (qs.map pairD) + 4 ≤ sizeLine
      omega
    · show PyData.depthAll (qs.map pairD) + 1 ≤ 60
      omega
  · refine ⟨?_, h2, ?_, ?_⟩
    · show (decide ((qs.map pairD).length ≤ 4000) && fitAll (qs.map pairD)) = true
      rw [f, decide_eq_true hl2]; rfl
    · refine Nat.le_trans (shown_wt _ h1) ?_
      show wtAll (qs.map pairD) + 4 ≤ sizeLine
      omega
    · show PyData.depthAll (qs.map pairD) + 1 ≤ 60
      omega
theorem good_fontD {m : Nat} {S : Str} {ps : List (Nat × Nat)} (hm : m ≤ 10) (g : Good m S ps) : fontD (.str S) = true := by
  rw [fontD_str, setD_str, decide_eq_true (p := 2 ≤ S.length ∧ S.length ≤ 10) ⟨g.lo, Nat.le_trans g.hi hm⟩, decide_eq_true g.nd, Bool.true_and, Bool.true_and, List.all_eq_true]
  exact fun c hc => decide_eq_true (g.ab c hc)
theorem good_nil {m : Nat} {S : Str} {ps : List (Nat × Nat)} (g : Good m S ps) : Good m S [] := ⟨g.lo, g.hi, g.nd, g.ab, List.nodup_nil, fun c hc => by cases hc⟩
end
/-! ### Font(..) -/
def qMk (K : PySem.W.Frag) (C : Addr) (dvs : List V) (t : TA) : TE := fun σ H Q => t σ H fun vs H1 => ∃ (S : Str) (v : V) (d : PyData) (ps : List (Nat × Nat)) (p : Addr), vs ++ dvs = [.str S, v] ∧ Rp K p H1 false v d ∧ fit d = true ∧ fontD (.str S) = true ∧ keptD S d = some ps ∧
  ∀ H' a, Same H1 H' → H1 a = none → FontAt H' C a S ps → Q (.ref a) H'
theorem pe_font {X : Cx} {C f : Addr} {fd : FuncData} {ds : List Value} {dvs : List V} {e : Expr} {es : List Expr} {p pos : Pos} {t : TA} (M : Mk X.K C f) (G : FnOk X.prog X.w X.K X.mg X.base CX0 4 f fd ["self", "signs", "turns"] (sp_init X.K C)) (hr : Room 5 X.A) (hg : Gl X "Font") (hm : X.mg "Font" = some (.ref C))
    (hb : Binds X.K fd ["self", "signs", "turns"] ds) (hd : Vals dvs ds) (ha : PA X (e :: es) t) (he : starEach (e :: es) X.env = (false, eval e X.env) :: starEach es X.env := by rfl) (hpl : (backTo pos (starEach es X.env)).any (·.1) = false := by rfl) :
    PE X (.Call (.Name "Font" p) (e :: es) [] pos) (qMk X.K C dvs t) :=
  PE.weak (pe_make M G hr hg hm hb hd pass0 (PA.mc ha) (by decide) he hpl) fun σ H Q q => ⟨_, q, fun vs H1 z => by
    obtain ⟨S, v, d, ps, p, e, hv, hf, hF, hK, k⟩ := z
    intro x dx hx hdx ne
    rw [e]
    exact ⟨x, dx, p, S, v, d, ps, rfl, upd_same, hv.but (.of (made_up hx hdx)), hf, hF, hK, fun H' bt ft => ⟨rfl, k H' x (made_same hx hdx bt) hx ft⟩⟩⟩
end My
end
section
set_option Elab.async false
set_option linter.all false
set_option maxRecDepth 100000
set_option maxHeartbeats 4000000
namespace My
open PySem PySem.Spec PyProof.Rows L2
/-! ### the turns, some of them the other way round -/
theorem lc_flip {K : PySem.W.Frag} {a D p c : Addr} {xs : List V} {ps : List (Nat × Nat)} {n i : Nat} {te : TE} {vs : List Nat} {σ : L2.St} {H1 : Hp} {Qd : Hp → Prop} (hP : PenAt H1 p c n) (hA : H1 a = some (.lst xs)) (hap : a ≠ p) (hps : PairsAt H1 ps xs) (small : xs.length ≤ 10) (free : H1 D = none)
    (hw : ∀ x, wipe ((wipe σ vs).set i (some x)) vs = wipe σ vs)
    (he : ∀ (j q : Nat) (e : Nat × Nat) (H' : Hp) (C : VK), j < xs.length → PenAt H' p c (n + j) → H' q = some (.tup [sg e.1, sg e.2]) → (∀ H2 r e', DrewP H' p c (n + j + 1) H2 → (e' = e ∨ e' = (e.2, e.1)) → H2 r = some (.tup [sg e'.1, sg e'.2]) → C (.ref r) H2) → te ((wipe σ vs).set i (some (.ref q))) H' C)
    (hd : ∀ H' zs qs, DrewP H1 p c (n + 10) H' → H' D = some (.lst zs) → PairsAt H' qs zs → SameTurns ps qs → qs.length ≤ 10 → Qd H') :
    ∃ W : Nat → Nat → Hp → Prop, (∃ m, W 0 m (upd H1 D (.lst []))) ∧ ∀ j m H, W j m H →
      ((Itl K a).stop j H ∧ Qd H) ∨ ((Itl K a).go j H ∧ ∃ Nx : Hp → Prop, (∀ H', Nx H' → ∃ m', m' < m ∧ W (j + 1) m' H') ∧ ∀ x H', (Itl K a).yld j H x H' → gName i x (wipe σ vs) H' fun σ2 H2 => wipe σ2 vs = wipe σ vs ∧ tYes σ2 H2 fun b H3 =>
        if b = true then te σ2 H3 fun y H4 => ∃ acc, H4 D = some (.lst acc) ∧ acc.length < sizeLine ∧ Nx (upd H4 D (.lst (acc ++ [y]))) else Nx H3) := by
  have pD : p ≠ D := hP.ne free
  have cD : c ≠ D := hP.neC free
  have hl := hps.length
  refine lc_it walk_list (fun j H' => But p H1 H' ∧ PenAt H' p c (n + j) ∧ ∃ zs qs, H' D = some (.lst zs) ∧ PairsAt H' qs zs ∧ Paired (fun e e' => e' = e ∨ e' = (e.2, e.1)) (ps.take j) qs ∧ zs.length = j)
    ⟨But.wr (But.refl H1) free .mk', (hP.mono (by omega)).els .mk' pD cD, [], [], upd_same, .nil, by simp; exact .nil, rfl⟩ (fun j H' _ q => SqL.of (q.1 _ _ hap hA)) ?_ ?_
  · rintro j x H2 H3 hj ⟨hB, hPj, zs, qs, hD, hqs, hpr, hzl⟩ ⟨rfl, hx⟩
    obtain ⟨e, he0, q, rfl, hq⟩ := Paired.at hps hx
    have qp : q ≠ p := hP.neT hq
    refine ⟨hw _, ?_⟩
    unfold tYes
    refine iteT (he j q e _ _ hj hPj (hB _ _ qp hq) fun H4 r e' d4 e'eq hr => ?_)
    have hD4 : H4 D = some (.lst zs) := d4.but _ _ pD.symm hD
    have hqs4 : PairsAt H4 qs zs := hqs.pen hPj d4.but
    have w5 : Wr H4 D (.lst (zs ++ [.ref r])) (upd H4 D (.lst (zs ++ [.ref r]))) := .mk'
    have rD : r ≠ D := ne_of hr hD4 (by intro z; cases z)
    refine ⟨zs, hD4, Nat.lt_of_le_of_lt (show zs.length ≤ 10 by omega) (by decide), But.wr (hB.trans d4.but) free w5, d4.pen.els w5 pD cD, _, qs ++ [e'], upd_same, Paired.snoc (hqs4.extL (ExtL.wr hD4 w5)) ⟨r, rfl, (w5.els r rD).trans hr⟩, ?_, by simp [hzl]⟩
    have nx : ps.take (j + 1) = ps.take j ++ [e] := by
      rw [List.take_add_one, he0]
      rfl
    rw [nx]
    exact Paired.snoc hpr e'eq
  · rintro H' ⟨hB, hPn, zs, qs, hD, hqs, hpr, hzl⟩
    rw [← hl, List.take_length] at hpr
    exact hd H' zs qs ⟨hB, hPn.mono (by omega)⟩ hD hqs (same_flip hpr) (by have := hpr.length; omega)
theorem paired_perm {α β : Type} {R : α → β → Prop} {r r' : List β} (p : r'.Perm r) : ∀ {l : List α}, Paired R l r → ∃ l', Paired R l' r' ∧ l'.Perm l := by
  induction p with
  | nil =>
    intro l h
    cases h
    exact ⟨[], .nil, .nil⟩
  | cons x _ ih =>
    intro l h
    cases h with
    | cons a t =>
      obtain ⟨l', h1, h2⟩ := ih t
      exact ⟨_ :: l', .cons a h1, h2.cons _⟩
  | swap x y l0 =>
    intro l h
    cases h with
    | cons a t =>
      cases t with
      | cons b t =>
        exact ⟨_, .cons b (.cons a t), .swap _ _ _⟩
  | trans _ _ ih1 ih2 =>
    intro l h
    obtain ⟨l1, h1, h2⟩ := ih2 h
    obtain ⟨l2, h3, h4⟩ := ih1 h1
    exact ⟨l2, h3, h4.trans h2⟩
end My
end
section
set_option Elab.async false
set_option linter.all false
set_option maxRecDepth 100000
set_option maxHeartbeats 4000000
/-! Qgood: drawn fonts. -/
namespace My
open PySem PySem.Spec PyProof.Rows L2
theorem good_mono {m n : Nat} {S : Str} {ps : List (Nat × Nat)} (h : m ≤ n) (g : Good m S ps) : Good n S ps := ⟨g.lo, Nat.le_trans g.hi h, g.nd, g.ab, g.tnd, g.tin⟩
theorem nodup_len {l m : List Nat} (nd : l.Nodup) (s : ∀ x ∈ l, x ∈ m) : l.length ≤ m.length := by
  induction l generalizing m with
  | nil => exact Nat.zero_le _
  | cons a l ih =>
    have ha := s a List.mem_cons_self
    obtain ⟨n1, n2⟩ := List.nodup_cons.mp nd
    have := ih (m := m.erase a) n2 fun x hx => (List.mem_erase_of_ne (fun z => n1 (by rw [← z]; exact hx))).mpr (s x (List.mem_cons_of_mem _ hx))
    rw [List.length_erase_of_mem ha] at this
    have pos : 0 < m.length := List.length_pos_of_mem ha
    rw [List.length_cons]
    omega
theorem pairs_len {S : Str} {ps : List (Nat × Nat)} (hG : Good 10 S ps) : ps.length ≤ 10 := by
  have h1 : ps.length ≤ (ps.flatMap spread).length := by
    clear hG
    induction ps with
    | nil => exact Nat.le_refl _
    | cons e l ih =>
      rw [List.flatMap_cons, List.length_append, List.length_cons]
      have : 1 ≤ (spread e).length := by unfold spread; split <;> simp
      omega
  have h2 : (ps.flatMap spread).length ≤ S.cps.toList.length := nodup_len hG.tnd fun c hc => hG.tin c hc
  have h3 : S.cps.toList.length = S.length := Array.length_toList
  have := hG.hi
  omega
theorem turns_ab {S : Str} {ps qs : List (Nat × Nat)} (hG : Good 10 S ps) (sm : SameTurns ps qs) : ∀ e ∈ qs, e.1 ∈ alphabet.cps.toList ∧ e.2 ∈ alphabet.cps.toList := fun e he =>
  ⟨hG.ab _ (hG.tin _ (sm.perm.mem_iff.mp (List.mem_flatMap.mpr ⟨e, he, mem_spread.mpr (.inl rfl)⟩))), hG.ab _ (hG.tin _ (sm.perm.mem_iff.mp (List.mem_flatMap.mpr ⟨e, he, mem_spread.mpr (.inr rfl)⟩)))⟩
end My
end
section
set_option Elab.async false
set_option linter.all false
set_option maxRecDepth 100000
set_option maxHeartbeats 4000000
namespace My
open PySem PySem.Spec PyProof.Rows L2
abbrev s_isKind : Stmt := topS 30
/-- whether a side is a sign or blank -/
def sideB (S : Str) (c : Nat) : Bool := decide (c = 45) || decide (c ∈ S.cps.toList)
/-- whether data is a kind of plates -/
def kindD (S : Str) : PyData → Bool
  | .str z => decide (z.length = 2) && !decide (z = (⟨#[45, 45]⟩ : Str)) && z.cps.toList.all (sideB S)
  | _ => false
def sp_isKind (K : PySem.W.Frag) : Sp := fun vs H Q _ => ∃ (S : Str) (v : V) (d : PyData) (p : Addr), vs = [.str S, v] ∧ Rp K p H false v d ∧ textFits 4000 d ∧ ∀ H', Same H H' → Q (.bl (kindD S d)) H'
section
variable {P : Program} {w : World} {K : PySem.W.Frag} {mg : Str → Option Value} {base : Heap}
theorem sc_isKind : FnScope ["signs", "value", "side"] ["signs", "value"] (defScope s_isKind) := ⟨rfl, rfl, rfl, by decide +kernel, rfl, by decide +kernel, by decide +kernel⟩
theorem ok_isKind {f : Addr} {fd : FuncData} {tB : Tok} (F : Fun K "is_kind" "is_kind" s_isKind f fd) (T : TB mg) (gB : mg "BLANK" = some (.str "-" tB)) : FnOk P w K mg base CX0 1 f fd ["signs", "value"] (sp_isKind K) := by
  refine F.ok sc_isKind (fun vs H Q E h => ?_) (fun cdv A outer s H vs Q E hr h => ?_)
  · obtain ⟨S, v, d, p, rfl, _⟩ := h
    rfl
  · obtain ⟨S, v, d, p, rfl, hd, hz, k⟩ := h
    refine ⟨_, pss_cons (ps_if (PW.pt (pw_or (pt_not (pt_val (pe_callB (id := "isinstance") call_isi (by rfl) T.isi (by decide +kernel) (pa_cons (pv 1) (pa_cons (pe_bltn (v := .ty "str") (by rfl) T.str (by decide +kernel) rfl) pa_nil)))))
        (pw_or (pt_cmpR op_ne (pe_callB call_len_str (by rfl) T.len PySem.boot_len (pa_cons (pv 1) pa_nil)) pe_int (nomark _)) (pw_or1 (pt_cmpR op_eq (pv 1) (pe_op op_add_str (pe_glob (v := .str "-") rfl gB ⟨_, rfl⟩) (pe_glob (v := .str "-") rfl gB ⟨_, rfl⟩)) (nomark _))))))
      (pss_one (ps_ret pe_bl)) pss_nil)
      (pss_one (ps_ret (pe_callB (cr_all rfl) (by rfl) T.all (by decide +kernel) (pa_cons (by exact (pe_lc (own := [("side", 2)]) (g := gName 2) (tt := tYes) rfl sc_isKind.nd (pi_str (pv 1)) (blkOk_by (own := [("side", 2)]) (N := ["signs", "value", "side"]) (sc := defScope s_isKind) (by decide +kernel))
        (fun _ _ _ _ _ => pg_name (i := 2) sc_isKind.nd rfl (Or.inl rfl)) (fun _ _ _ _ _ => pts_nil) (fun _ _ _ _ _ => pe_or (pe_cmpR op_eq (pv 2) (pe_glob (v := .str "-") rfl gB ⟨_, rfl⟩) (nomark _)) (pe_one (pe_cmpR op_in_sign (pv 2) (pv 0) (by rfl)))))) pa_nil)))), ?_⟩
    refine ⟨_, rfl, _, _, _, _, _, rfl, .ty "str", hd.ty, kit_str d, _, rfl, ?_⟩
    cases d with
    | str z =>
      cases hd
      have hz : z.length ≤ 4000 := hz
      have zl : z.cps.toList.length = z.length := Array.length_toList
      refine iteF ⟨_, rfl, z, rfl, Nat.le_trans hz (by decide), rfl, _, rfl, ?_⟩
      refine ite2 (fun h1 => iteT ?_) (fun h1 => ?_)
      · have h2 : z.length ≠ 2 := fun e => by rw [e] at h1; simp at h1
        have e : kindD S (.str z) = false := by
          show (decide (z.length = 2) && !decide (z = (⟨#[45, 45]⟩ : Str)) && z.cps.toList.all (sideB S)) = false
          rw [decide_eq_false h2, Bool.false_and, Bool.false_and]
        rw [e] at k
        exact k H (Same.refl H)
      have h2 : z.length = 2 := by
        by_cases e : z.length = 2
        · exact e
        · refine absurd ?_ h1
          rw [decide_eq_false (fun q => e (by injection q with q; omega))]
          rfl
      refine ⟨_, rfl, _, _, rfl, rfl, by decide, rfl, _, rfl, ?_⟩
      have dash : (PySem.Str.ofString "-" ++ PySem.Str.ofString "-") = (⟨#[45, 45]⟩ : Str) := by decide
      rw [dash]
      refine ite2 (fun h3 => ?_) (fun h3 => ?_)
      · have h3 : z = (⟨#[45, 45]⟩ : Str) := by
          have := of_decide_eq_true h3
          injection this
        have e : kindD S (.str z) = false := by
          show (decide (z.length = 2) && !decide (z = (⟨#[45, 45]⟩ : Str)) && z.cps.toList.all (sideB S)) = false
          rw [decide_eq_true h3, Bool.not_true, Bool.and_false, Bool.false_and]
        rw [e] at k
        exact k H (Same.refl H)
      have h3 : z ≠ (⟨#[45, 45]⟩ : Str) := fun e => h3 (by rw [e]; exact decide_eq_true rfl)
      have eK : kindD S (.str z) = z.cps.toList.all (sideB S) := by
        show (decide (z.length = 2) && !decide (z = (⟨#[45, 45]⟩ : Str)) && z.cps.toList.all (sideB S)) = _
        rw [decide_eq_true h2, decide_eq_false h3]
        rfl
      refine ⟨_, rfl, z, rfl, fun D hD => lc_ff walk_signs (fun _ => true) (fun x => match x with | .str y => .bl (y.cps.toList.all (sideB S)) | _ => .non) hD (fun _ _ => trivial) (by rw [signs_len]; exact Nat.lt_of_le_of_lt hz (by decide)) (fun x => rfl) (fun x H' C _ _ h => h _ (Same.refl _)) ?_ ?_⟩
      · intro x H' C hx _ _ hC
        obtain ⟨c, _, rfl⟩ := mem_signs hx
        have hC := hC H' (Same.refl _)
        have eS : (match V.str ⟨#[c]⟩ with | .str y => V.bl (y.cps.toList.all (sideB S)) | _ => .non) = .bl (sideB S c) := by
          show V.bl ([c].all (sideB S)) = _
          simp
        rw [eS] at hC
        refine ⟨_, rfl, rfl, _, rfl, ?_⟩
        have d45 : (V.str ⟨#[c]⟩ = V.str (PySem.Str.ofString "-")) ↔ c = 45 := by
          have : PySem.Str.ofString "-" = (⟨#[45]⟩ : Str) := by decide
          rw [this]
          exact ⟨fun z => sign_inj.mp (by injection z), fun z => by rw [z]⟩
        refine ite2 (fun h4 => ?_) (fun h4 => ?_)
        · have h4 := d45.mp (of_decide_eq_true h4)
          have e : sideB S c = true := by
            unfold sideB
            rw [decide_eq_true h4]
            rfl
          rw [e] at hC
          exact hC
        · have h4 : c ≠ 45 := fun z => h4 (decide_eq_true (d45.mpr z))
          have e : sideB S c = decide (c ∈ S.cps.toList) := by
            unfold sideB
            rw [decide_eq_false h4]
            rfl
          rw [e] at hC
          exact ⟨_, rfl, _, rfl, c, S, rfl, rfl, hC⟩
      · intro H' sm hl
        refine ⟨D, z.cps.toList.map (sideB S), rfl, SqL.of ?_, ?_⟩
        · rw [hl, pv_filter_true]
          simp [signs]
        · have e : kindD S (.str z) = (z.cps.toList.map (sideB S)).all id := by
            rw [eK, List.all_map]
            rfl
          rw [← e]
          exact k H' sm
    | _ => exact iteT (iteT (k H (Same.refl H)))
end
end My
end
section
set_option Elab.async false
set_option linter.all false
set_option maxRecDepth 100000
set_option maxHeartbeats 4000000
/-! B11: errors over a value. -/
namespace My
open PySem PySem.Spec PyProof.Rows L2
abbrev VErr (K : PySem.W.Frag) (mg : Str → Option Value) (x qi : Str) (U fI : Addr) : Prop := ErrC K mg x "value" qi "ValueError" "ValueError.__new__" "ValueError.__init__" bmValue bmValue U fI
/-- what is told of an error over a value -/
def Err (E : XK) (U : Addr) (v : V) (H : Hp) : Prop := ∀ H' dd, Same H H' → H dd = none → H' dd = some (.xd [("value", v)]) → E (.ref U) (some dd) H'
theorem Err.at {E : XK} {U : Addr} {v : V} {H H1 : Hp} {dd : Addr} (h : Err E U v H) (s : Same H H1) (f : H1 dd = none) : E (.ref U) (some dd) (upd H1 dd (.xd [("value", v)])) := by
  have n : New H1 dd (.xd [("value", v)]) (upd H1 dd (.xd [("value", v)])) := .mk' f
  refine h _ dd (s.trans n.same) ?_ n.here
  cases e : H dd with
  | none => rfl
  | some o => have := s _ _ e; rw [f] at this; cases this
theorem Same.free {H H1 : Hp} {a : Addr} (s : Same H H1) (f : H1 a = none) : H a = none := by
  cases e : H a with
  | none => rfl
  | some o => have := s _ _ e; rw [f] at this; cases this
theorem Err.up {E : XK} {U : Addr} {v : V} {H H1 : Hp} (h : Err E U v H) (s : Same H H1) : Err E U v H1 := fun H' dd s2 f e => h H' dd (L2.Same.trans s s2) (My.Same.free s f) e
theorem passN {P : Program} {w : World} {X : Cx} : Passes (L2.CX P w) X E0 := fun _ _ _ _ _ _ _ h => by
  obtain ⟨_, _, _, _, _, _, _, _, _, _, _, _, hE⟩ := h
  exact hE.elim
/-- a wish is asked only at slots of the def's own number -/
theorem takes_len {X : Cx} {W : WX} (t : Takes X W) : Takes X (fun c d σ H => σ.length = X.N.length → W c d σ H) := fun u s' ⟨a, B, sI, pins, σ, H, cls, d, e, I, nb, up, sky, na, os, ag, w⟩ =>
  t u s' ⟨a, B, sI, pins, σ, H, cls, d, e, I, nb, up, sky, na, os, ag, w I.len⟩
theorem set_at1 {σ : L2.St} {x : Option V} (h : σ.length = 2) : (σ.set 1 x)[1]? = some x := by
  rw [List.getElem?_set_self (by omega)]
theorem cx_up {P : Program} {w : World} {K : PySem.W.Frag} {mg : Str → Option Value} {base : Heap} {k : Nat} {f : Addr} {fd : FuncData} {ps : List Str} {sp : Sp} (F : FnOk P w K mg base CX0 k f fd ps sp) : FnOk P w K mg base (L2.CX P w) k f fd ps sp := by
  refine ⟨F.len, fun A o s H args us vs Q E hr e b v q => codeAny_mono (F.run A o s H args us vs Q E hr e b v q) fun r s' hq => ?_⟩
  cases r with
  | error er => exact False.elim hq
  | ok fl => cases fl <;> exact hq
end My
end
section
set_option Elab.async false
set_option linter.all false
set_option maxRecDepth 100000
set_option maxHeartbeats 2000000
namespace My
open PySem PySem.Spec PyProof.Rows L2
abbrev s_isSign : Stmt := topS 27
abbrev s_isSet : Stmt := topS 28
section
variable {P : Program} {w : World} {K : PySem.W.Frag} {mg : Str → Option Value} {base : Heap}
theorem sc_isSign : FnScope ["signs", "value"] ["signs", "value"] (defScope s_isSign) := ⟨rfl, rfl, rfl, by decide +kernel, rfl, by decide +kernel, by decide +kernel⟩
theorem ok_isSign {f : Addr} {fd : FuncData} (F : Fun K "is_sign" "is_sign" s_isSign f fd) (T : TB mg) : FnOk P w K mg base CX0 1 f fd ["signs", "value"] (sp_isSign K) := by
  refine F.ok sc_isSign (fun vs H Q E h => ?_) (fun cdv A outer s H vs Q E hr h => ?_)
  · obtain ⟨S, v, d, p, rfl, _⟩ := h
    rfl
  · obtain ⟨S, v, d, p, rfl, hd, hz, k⟩ := h
    refine ⟨_, pss_one (ps_ret (pe_and (pe_callB call_isi (by rfl) T.isi (by decide +kernel) (pa_cons (pv 1) (pa_cons (pe_bltn (v := .ty "str") (by rfl) T.str (by decide +kernel) rfl) pa_nil)))
      (pe_and (pe_cmpR op_eq (pe_callB call_len (by rfl) T.len PySem.boot_len (pa_cons (pv 1) pa_nil)) pe_int (nomark _)) (pe_one (pe_cmpR op_in_sign (pv 1) (pv 0) (by rfl)))))), ?_⟩
    refine ⟨_, rfl, _, _, _, _, _, rfl, .ty "str", hd.ty, kit_str d, _, rfl, ?_⟩
    cases d with
    | str z =>
      cases hd
      refine iteT ⟨_, rfl, _, z.length, rfl, ⟨hz, rfl⟩, rfl, _, rfl, ?_⟩
      refine ite2 (fun h1 => ?_) (fun h1 => ?_)
      · have h1 : z.length = 1 := by
          have := of_decide_eq_true h1
          injection this with e
          omega
        obtain ⟨c, rfl⟩ := one_sign h1
        refine ⟨_, rfl, _, rfl, c, S, rfl, rfl, ?_⟩
        have e : signD S (.str ⟨#[c]⟩) = decide (c ∈ S.cps.toList) := by
          rw [signD_str, h1]
          simp
        rw [e] at k
        exact k
      · have h2 : z.length ≠ 1 := fun e => h1 (by rw [e]; rfl)
        have e : signD S (.str z) = false := by
          rw [signD_str, decide_eq_false h2, Bool.false_and]
        rw [e] at k
        exact k
    | _ => exact iteF k
theorem sc_isSet : FnScope ["signs", "value", "sign"] ["signs", "value"] (defScope s_isSet) := ⟨rfl, rfl, rfl, by decide +kernel, rfl, by decide +kernel, by decide +kernel⟩
theorem ok_isSet {f : Addr} {fd : FuncData} (F : Fun K "is_set" "is_set" s_isSet f fd) (T : TB mg) : FnOk P w K mg base CX0 1 f fd ["signs", "value"] (sp_isSet K) := by
  refine F.ok sc_isSet (fun vs H Q E h => ?_) (fun cdv A outer s H vs Q E hr h => ?_)
  · obtain ⟨S, v, d, p, rfl, _⟩ := h
    rfl
  · obtain ⟨S, v, d, p, rfl, hd, hz, k⟩ := h
    refine ⟨_, pss_one (ps_ret (pe_and (pe_callB call_isi (by rfl) T.isi (by decide +kernel) (pa_cons (pv 1) (pa_cons (pe_bltn (v := .ty "str") (by rfl) T.str (by decide +kernel) rfl) pa_nil)))
      (pe_and (pe_cmpR op_eq (pe_lenSet (by rfl) T.len (by rfl) T.set (pv 1)) (pe_callB call_len (by rfl) T.len PySem.boot_len (pa_cons (pv 1) pa_nil)) (nomark _))
      (pe_one (pe_callB (cr_all rfl) (by rfl) T.all (by decide +kernel) (pa_cons (pe_lc (own := [("sign", 2)]) (g := gName 2) (tt := tYes) rfl sc_isSet.nd (pi_str (pv 1)) (blkOk_by (own := [("sign", 2)]) (N := ["signs", "value", "sign"]) (sc := defScope s_isSet) (by decide +kernel))
        (fun _ _ _ _ _ => pg_name (i := 2) sc_isSet.nd rfl (Or.inl rfl)) (fun _ _ _ _ _ => pts_nil) (fun _ _ _ _ _ => pe_cmpR op_in_sign (pv 2) (pv 0) (by rfl))) pa_nil)))))), ?_⟩
    refine ⟨_, rfl, _, _, _, _, _, rfl, .ty "str", hd.ty, kit_str d, _, rfl, ?_⟩
    cases d with
    | str z =>
      cases hd
      have hz : z.length ≤ 4000 := hz
      refine iteT ⟨_, rfl, z, rfl, hz, _, rfl, _, z.length, rfl, ⟨Nat.le_trans hz (by decide), rfl⟩, rfl, _, rfl, ?_⟩
      have ol := once_eq z.cps.toList
      have zl : z.cps.toList.length = z.length := Array.length_toList
      rw [zl] at ol
      refine ite2 (fun h1 => ?_) (fun h1 => ?_)
      · have h1 : z.cps.toList.Nodup := by
          have := of_decide_eq_true h1
          injection this with e
          exact ol.mp (by omega)
        refine ⟨_, rfl, z, rfl, fun D hD => lc_ff walk_signs (fun _ => true) (fun x => match x with | .str y => .bl (y.cps.toList.all fun c => decide (c ∈ S.cps.toList)) | _ => .non) hD (fun _ _ => trivial) (by rw [signs_len]; exact Nat.lt_of_le_of_lt hz (by decide)) (fun x => rfl) (fun x H' C _ _ h => h _ (Same.refl _)) ?_ ?_⟩
        · intro x H' C hx _ _ hC
          obtain ⟨c, _, rfl⟩ := mem_signs hx
          refine ⟨_, rfl, _, rfl, c, S, rfl, rfl, ?_⟩
          have := hC H' (Same.refl _)
          simpa using this
        · intro H' sm hl
          refine ⟨D, z.cps.toList.map fun c => decide (c ∈ S.cps.toList), rfl, SqL.of ?_, ?_⟩
          · rw [hl, pv_filter_true]
            simp [signs]
          · have e : setD S (.str z) = (z.cps.toList.map fun c => decide (c ∈ S.cps.toList)).all id := by
              rw [setD_str, decide_eq_true h1, Bool.true_and, List.all_map]
              rfl
            rw [← e]
            exact k H' sm
      · have h2 : ¬ z.cps.toList.Nodup := fun n => h1 (by rw [ol.mpr n]; simp)
        have e : setD S (.str z) = false := by
          rw [setD_str, decide_eq_false h2, Bool.false_and]
        rw [e] at k
        exact k H (Same.refl H)
    | _ => exact iteF (k H (Same.refl H))
abbrev s_isFont : Stmt := topS 26
theorem sc_isFont : FnScope ["value"] ["value"] (defScope s_isFont) := ⟨rfl, rfl, rfl, by decide +kernel, rfl, by decide +kernel, by decide +kernel⟩
theorem ok_isFont {f fS C : Addr} {fd fdS : FuncData} (F : Fun K "is_font_signs" "is_font_signs" s_isFont f fd) (T : TB mg) (D : Def K mg "is_set" fS fdS ["signs", "value"]) (G : FnOk P w K mg base CX0 1 fS fdS ["signs", "value"] (sp_isSet K))
    (gF : mg "Font" = some (.ref C)) (cM : ClassV K C "MAX_SIGNS" (.int 10)) {tA : Tok} (gA : mg "ALPHABET" = some (.str alphabet tA)) : FnOk P w K mg base CX0 2 f fd ["value"] (sp_isFont K) := by
  refine F.ok sc_isFont (fun vs H Q E h => ?_) (fun cdv A outer s H vs Q E hr h => ?_)
  · obtain ⟨v, d, p, rfl, _⟩ := h
    rfl
  · obtain ⟨v, d, p, rfl, hd, hz, k⟩ := h
    obtain ⟨mc, u, c1, c2⟩ := cM.ok
    refine ⟨_, pss_one (ps_ret (pe_and (pe_callB call_isi (by rfl) T.isi (by decide +kernel) (pa_cons (pv 0) (pa_cons (pe_bltn (v := .ty "str") (by rfl) T.str (by decide +kernel) rfl) pa_nil)))
      (pe_and (pe_chain op_le op_le pe_int (pe_callB call_len (by rfl) T.len PySem.boot_len (pa_cons (pv 0) pa_nil)) (ClX.pe_cval (pe_glob (v := .ref C) rfl gF rfl)))
      (pe_one (pe_call G hr rfl D.mgf D.kp D.bd .nil pass0 (pa_cons (pe_glob (v := .str alphabet) rfl gA ⟨_, rfl⟩) (pa_cons (pv 0) pa_nil))))))), ?_⟩
    refine ⟨_, rfl, _, _, _, _, _, rfl, .ty "str", hd.ty, kit_str d, _, rfl, ?_⟩
    cases d with
    | str z =>
      cases hd
      have hz : z.length ≤ 4000 := hz
      refine iteT ⟨_, rfl, _, z.length, rfl, ⟨Nat.le_trans hz (by decide), rfl⟩, _, _, rfl, rfl, _, rfl, ?_⟩
      refine ite2 (fun h1 => ?_) (fun h1 => ?_)
      · refine ⟨C, mc, _, u, rfl, c1, c2, _, _, rfl, rfl, _, rfl, ?_⟩
        refine ite2 (fun h2 => ?_) (fun h2 => ?_)
        · refine ⟨_, rfl, alphabet, _, _, p, rfl, Rp.str _ z, hz, fun H' sm => ?_⟩
          have e : fontD (.str z) = setD alphabet (.str z) := by
            rw [fontD_str, decide_eq_true (p := 2 ≤ z.length ∧ z.length ≤ 10) ⟨by have := of_decide_eq_true h1; omega, by have := of_decide_eq_true h2; omega⟩, Bool.true_and]
          rw [e] at k
          exact k H' sm
        · have e : fontD (.str z) = false := by
            rw [fontD_str, decide_eq_false (p := 2 ≤ z.length ∧ z.length ≤ 10) (fun q => h2 (decide_eq_true (by omega))), Bool.false_and]
          rw [e] at k
          exact k H (Same.refl H)
      · have e : fontD (.str z) = false := by
          rw [fontD_str, decide_eq_false (p := 2 ≤ z.length ∧ z.length ≤ 10) (fun q => h1 (decide_eq_true (by omega))), Bool.false_and]
        rw [e] at k
        exact ⟨_, rfl, iteF (k H (Same.refl H))⟩
    | _ => exact iteF (k H (Same.refl H))
abbrev s_isListed : Stmt := topS 6
theorem sc_isListed : FnScope ["value"] ["value"] (defScope s_isListed) := ⟨rfl, rfl, rfl, by decide +kernel, rfl, by decide +kernel, by decide +kernel⟩
theorem ok_isListed {f : Addr} {fd : FuncData} (F : Fun K "is_listed" "is_listed" s_isListed f fd) (T : TB mg) : FnOk P w K mg base CX0 1 f fd ["value"] (sp_isListed K) := by
  refine F.ok sc_isListed (fun vs H Q E h => ?_) (fun cdv A outer s H vs Q E hr h => ?_)
  · obtain ⟨v, d, p, rfl, _⟩ := h
    rfl
  · obtain ⟨v, d, p, rfl, hd, k⟩ := h
    refine ⟨_, pss_one (ps_ret (pe_callB call_isiT (by rfl) T.isi (by decide +kernel) (pa_cons (pv 0) (pa_cons (pe_tup' (pa_cons (pe_bltn (v := .ty "list") (by rfl) T.list (by decide +kernel) rfl) (pa_cons (pe_bltn (v := .ty "tuple") (by rfl) T.tuple (by decide +kernel) rfl) pa_nil))) pa_nil)))), ?_⟩
    refine ⟨_, rfl, by decide, fun q H1 n1 => ⟨_, q, _, _, _, _, rfl, n1.here, .cons (.ty "list") (.cons (.ty "tuple") .nil), (hd.but (.of n1.same) : Rp K p H1 false v d).ty, kit_seq d, k H1 n1.same⟩⟩
abbrev s_isPair : Stmt := topS 32
theorem sc_isPair : FnScope ["signs", "value", "sign"] ["signs", "value"] (defScope s_isPair) := ⟨rfl, rfl, rfl, by decide +kernel, rfl, by decide +kernel, by decide +kernel⟩
theorem ok_isPair {f fS : Addr} {fd fdS : FuncData} (F : Fun K "_is_pair" "_is_pair" s_isPair f fd) (T : TB mg) (D : Def K mg "is_sign" fS fdS ["signs", "value"]) (G : FnOk P w K mg base CX0 1 fS fdS ["signs", "value"] (sp_isSign K)) : FnOk P w K mg base CX0 2 f fd ["signs", "value"] (sp_isPair K) := by
  refine F.ok sc_isPair (fun vs H Q E h => ?_) (fun cdv A outer s H vs Q E hr h => ?_)
  · obtain ⟨S, v, d, p, rfl, _⟩ := h
    rfl
  · obtain ⟨S, v, d, p, rfl, hd, hf, k⟩ := h
    refine ⟨_, pss_one (ps_ret (pe_and (pe_callB call_isi (by rfl) T.isi (by decide +kernel) (pa_cons (pv 1) (pa_cons (pe_bltn (v := .ty "tuple") (by rfl) T.tuple (by decide +kernel) rfl) pa_nil)))
      (pe_and (pe_cmpR op_eq (pe_callB call_len_seq (by rfl) T.len PySem.boot_len (pa_cons (pv 1) pa_nil)) pe_int (nomark _))
      (pe_one (pe_callB (cr_all rfl) (by rfl) T.all (by decide +kernel) (pa_cons (pe_lc (own := [("sign", 2)]) (g := gName 2) (tt := tYes) rfl sc_isPair.nd (pi_tup (pv 1)) (blkOk_by (own := [("sign", 2)]) (N := ["signs", "value", "sign"]) (sc := defScope s_isPair) (by decide +kernel))
        (fun _ _ _ _ _ => pg_name (i := 2) sc_isPair.nd rfl (Or.inl rfl)) (fun _ _ _ _ _ => pts_nil) (fun _ _ _ _ _ => pe_call G hr rfl D.mgf D.kp D.bd .nil pass0 (pa_cons (pv 0) (pa_cons (pv 2) pa_nil)))) pa_nil)))))), ?_⟩
    refine ⟨_, rfl, _, _, _, _, _, rfl, .ty "tuple", hd.ty, kit_tup d, _, rfl, ?_⟩
    cases d with
    | tuple ds =>
      obtain ⟨a, xs, st2, rfl, ha, hr2⟩ := hd.tupS
      · simp only [fit, Bool.and_eq_true, decide_eq_true_eq] at hf
        have hlen := hr2.len
        refine iteT ⟨_, rfl, a, xs, rfl, .inr (ha), rfl, _, rfl, ?_⟩
        refine ite2 (fun h1 => ?_) (fun h1 => ?_)
        · have h2 : xs.length = 2 := by
            have := of_decide_eq_true h1
            injection this with e
            omega
          refine ⟨_, rfl, a, rfl, ⟨_, ha⟩, fun D hD => lc_pair walk_tup ds hlen.symm (fun _ => true) (fun d y _ => y = .bl (signD S d)) (fun _ _ _ _ _ _ h => h) hD (fun H' sm => sm.tupl (ha)) (by rw [h2]; decide) (fun x => rfl) (fun _ _ _ H' C _ _ _ h => h H' (Same.refl _)) ?_ ?_⟩
          · intro j x d' H' C hx hd' _ sm hC
            exact ⟨_, rfl, _, rfl, S, x, d', p, rfl, (hr2.at hx hd').loose2.but (.of sm), (fit.text (fitAll.at hf.2 hd')).more (by decide), hC H' _ (Same.refl _) rfl⟩
          · intro H' ys sm hD' hP
            refine ⟨D, ds.map (signD S), rfl, SqL.of ?_, ?_⟩
            · rw [pv_filter_true] at hP
              rw [hD', paired_eq hP, List.map_map]
              rfl
            · have e : (pairOf S (.tuple ds)).isSome = (ds.map (signD S)).all id := by
                match ds, (show ds.length = 2 by omega) with
                | [x, y], _ => rw [pairOf_two]; simp
              rw [← e]
              exact k H' sm
        · have h2 : ds.length ≠ 2 := fun e => h1 (by rw [hlen, e]; rfl)
          rw [pairOf_len S h2] at k
          exact k H (Same.refl H)
    | _ => exact iteF (k H (Same.refl H))
end
end My
end
section
set_option Elab.async false
set_option linter.all false
set_option maxRecDepth 100000
set_option maxHeartbeats 4000000
namespace My
open PySem PySem.Spec PyProof.Rows L2
abbrev s_kept : Stmt := topS 31
theorem find_one (z : Str) (c : Nat) (h : c ∈ z.cps.toList) : Txt.find z ⟨#[c]⟩ = ((z.cps.toList.idxOf c : Nat) : Int) := by
  have e := index0_one z c h
  unfold Txt.index0 at e
  unfold Txt.find
  revert e
  generalize Builtin.Str.occurrences z ⟨#[c]⟩ 0 z.length 1 = o
  intro e
  cases o with
  | nil => cases e
  | cons a l => exact congrArg Int.ofNat (Option.some.inj e)
section
variable {P : Program} {w : World} {K : PySem.W.Frag} {mg : Str → Option Value} {base : Heap}
theorem sc_kept : FnScope ["signs", "turns", "heads", "pair", "both", "sign"] ["signs", "turns"] (defScope s_kept) := ⟨rfl, rfl, rfl, by decide +kernel, rfl, by decide +kernel, by decide +kernel⟩
theorem ok_kept {f fL fP : Addr} {fd fdL fdP : FuncData} (F : Fun K "kept_turns" "kept_turns" s_kept f fd) (T : TB mg) (DL : Def K mg "is_listed" fL fdL ["value"]) (GL : FnOk P w K mg base CX0 1 fL fdL ["value"] (sp_isListed K))
    (DP : Def K mg "_is_pair" fP fdP ["signs", "value"]) (GP : FnOk P w K mg base CX0 2 fP fdP ["signs", "value"] (sp_isPair K)) : FnOk P w K mg base CX0 3 f fd ["signs", "turns"] (sp_kept K) := by
  refine F.ok sc_kept (fun vs H Q E h => ?_) (fun cdv A outer s H vs Q E hr h => ?_)
  · obtain ⟨S, v, d, p, rfl, _⟩ := h
    rfl
  · obtain ⟨S, v, d, p, rfl, hd, hf, hS, kN, kS⟩ := h
    have hu := hu_of hr
    have hr1 : Room 1 _ := hr.mono (by decide)
    refine ⟨_, pss_cons (ps_if (pt_not (pt_val (pe_call GL hr1 rfl DL.mgf DL.kp DL.bd .nil pass0 (pa_cons (pv 1) pa_nil)))) (pss_one (ps_ret pe_non)) pss_nil)
      (pss_cons (ps_set (i := 2) sc_kept.nd rfl (Or.inr rfl) pe_dnew')
      (pss_cons (ps_for PassesOwn.never rfl (pi_seq (pv 1)) (pg_name (i := 3) sc_kept.nd rfl (Or.inl rfl))
        (pss_cons (ps_if (PW.pt (pw_or (pt_not (pt_val (pe_call GP hr rfl DP.mgf DP.kp DP.bd .nil pass0 (pa_cons (pv 0) (pa_cons (pv 3) pa_nil)))))
            (pw_or (pt_cmp (pc_din hu (pe_ix ix_tup (pv 3) pe_int (fun _ _ => rfl)) (pv 2))) (pw_or1 (pt_cmp (pc_din hu (pe_ix ix_tup (pv 3) pe_int (fun _ _ => rfl)) (pv 2)))))))
          (pss_one (ps_ret pe_non)) pss_nil)
        (pss_cons (ps_dput hu (pv 2) (pe_ix ix_tup (pv 3) pe_int (fun _ _ => rfl)) (pe_ix ix_tup (pv 3) pe_int (fun _ _ => rfl)) rfl)
        (pss_one (ps_dput hu (pv 2) (pe_ix ix_tup (pv 3) pe_int (fun _ _ => rfl)) (pe_ix ix_tup (pv 3) pe_int (fun _ _ => rfl)) rfl)))))
      (pss_cons (ps_setLc (i := 4) (own := [("sign", 5)]) (g := gName 5) rfl sc_kept.nd rfl rfl (sw_true rfl rfl rfl (by decide +kernel)) (pi_str (pv 0)) (blkOk_by (own := [("sign", 5)]) (N := ["signs", "turns", "heads", "pair", "both", "sign"]) (sc := defScope s_kept) (by decide +kernel))
        (fun _ _ _ _ _ => pg_name (i := 5) sc_kept.nd rfl (Or.inl rfl)) (fun _ _ _ _ _ => pts_one (pt_cmp (pc_din hu (pv 5) (pv 2)))) (fun _ _ _ _ _ => pe_tup' (pa_cons (pv 5) (pa_cons (pe_dget hu (pv 2) (pv 5) (fun _ _ => rfl)) pa_nil))))
      (pss_one (ps_ret (pe_callTy call_tupOfL (by rfl) T.tuple (by decide +kernel) (pa_cons (by exact (pe_lc (own := [("pair", 3)]) (g := gName 3) rfl sc_kept.nd (pi_list (pv 4)) (blkOk_by (own := [("pair", 3)]) (N := ["signs", "turns", "heads", "pair", "both", "sign"]) (sc := defScope s_kept) (by decide +kernel))
        (fun _ _ _ _ _ => pg_name (i := 3) sc_kept.nd rfl (Or.inl rfl))
        (fun _ _ _ _ _ => pts_one (pt_cmpR op_le (pe_m1 PySem.F.slot_str_find PySem.F.type_str_find mt_find (pv 0) (pe_ix (ix_tupK (K := K) (by rfl)) (pv 3) pe_int (fun _ _ => rfl)))
          (pe_m1 PySem.F.slot_str_find PySem.F.type_str_find mt_find (pv 0) (pe_ix (ix_tupK (K := K) (by rfl)) (pv 3) pe_int (fun _ _ => rfl))) (nomark _)))
        (fun _ _ _ _ _ => pv 3))) pa_nil))))))), ?_⟩
    refine ⟨_, rfl, v, d, p, rfl, hd, fun H1 s1 => ⟨_, rfl, ?_⟩⟩
    cases hq : isSeqD d with
    | false =>
      refine iteT (kN ?_ H1 s1)
      cases d <;> first | rfl | exact absurd (show true = false from hq) (by decide)
    | true =>
      obtain ⟨a, xs, ds, st2, rfl, hseq, hall, hds⟩ := rp_seq hd hq
      have hk : keptD S d = (headsFrom S [] ds).map (dueOf S) := by
        rcases hds with rfl | rfl <;> rfl
      have hfa : fitAll ds = true ∧ ds.length ≤ 4000 := by
        rcases hds with rfl | rfl <;> (simp only [fit, Bool.and_eq_true, decide_eq_true_eq] at hf; exact ⟨hf.2, hf.1⟩)
      have hlen := hall.len
      refine iteF (fun hD H2 n2 => ?_)
      have s2 : Same H H2 := s1.trans n2.same
      have fD : H hD = none := by
        cases e : H hD with
        | none => rfl
        | some o => have := s1 _ _ e; rw [n2.free] at this; cases this
      show tFor (iSeq K (tVar 1)) (gName 3) _ _ [some (.str S), some (.ref a), some (.ref hD), none, none, none] H2
      refine tFor_seq (H0 := H) (fun C h => ⟨_, rfl, h⟩) hseq (fun i σ H' => ∃ (h : List (Nat × Nat)) (pr : Option V), σ = [some (.str S), some (.ref a), some (.ref hD), pr, none, none] ∧ Same H H' ∧ H' hD = some (.dK (toK h)) ∧ headsFrom S [] ds = headsFrom S h (ds.drop i) ∧ h.length ≤ 2 * i ∧ ∀ c b, headOf h c = some b → b ∈ S.cps.toList)
        ⟨[], none, rfl, s2, n2.here, rfl, Nat.le_refl _, fun c b e => by cases e⟩ (fun i σ' H' q => by obtain ⟨_, _, _, q, _⟩ := q; exact q) ?_ ?_
      · rintro i x σ H3 hi hx ⟨h, pr, rfl, s3, hH, hfr, hl, hin⟩
        obtain ⟨d', hd'⟩ : ∃ d', ds[i]? = some d' := ⟨ds[i]'(by omega), by simp [show i < ds.length by omega]⟩
        have hdrop : ds.drop i = d' :: ds.drop (i + 1) := by
          have := List.getElem?_eq_some_iff.mp hd'
          obtain ⟨hil, e⟩ := this
          rw [← e, List.getElem_cons_drop]
        rw [hdrop, headsFrom_cons] at hfr
        have hrp := ((hall.but2 s3).at hx hd').loose2
        refine ⟨_, rfl, _, rfl, S, x, d', p, rfl, hrp, fitAll.at hfa.1 hd', fun H4 s4 => ⟨_, rfl, ?_⟩⟩
        cases hp : pairOf S d' with
        | none =>
          rw [hp] at hfr
          refine iteT (iteT (kN (by rw [hk, hfr]; rfl) H4 (s3.trans s4)))
        | some ab =>
          obtain ⟨x1, x2⟩ := ab
          rw [hp] at hfr
          have hfr : headsFrom S [] ds = if ((headOf h x1).isSome || (headOf h x2).isSome) = true then none else headsFrom S (putN (putN h x1 x2) x2 x1) (ds.drop (i + 1)) := hfr
          obtain ⟨rfl, m1, m2⟩ := pairOf_some hp
          obtain ⟨q, rfl, hq4, _⟩ := rp_pair (hrp.but (.of s4))
          have hH4 := s4 _ _ hH
          refine iteF ⟨_, rfl, q, _, _, _, rfl, rfl, SqT.of hq4, at0 _ _, _, rfl, hD, _, rfl, dget_toK x1 hH4, _, rfl, ?_⟩
          cases e1 : headOf h x1 with
          | some y =>
            rw [e1] at hfr
            exact iteT (iteT (kN (by rw [hk, hfr]; rfl) H4 (s3.trans s4)))
          | none =>
            refine iteF ⟨_, rfl, q, _, _, _, rfl, rfl, SqT.of hq4, at1 _ _, _, rfl, hD, _, rfl, dget_toK x2 hH4, _, rfl, ?_⟩
            cases e2 : headOf h x2 with
            | some y =>
              rw [e1, e2] at hfr
              exact iteT (kN (by rw [hk, hfr]; rfl) H4 (s3.trans s4))
            | none =>
              rw [e1, e2] at hfr
              have l1 := putN_length h x1 x2
              have l2 := putN_length (putN h x1 x2) x2 x1
              refine iteF ⟨_, rfl, q, _, _, _, rfl, rfl, SqT.of hq4, at1 _ _, _, rfl, _, rfl, q, _, _, _, rfl, rfl, SqT.of hq4, at0 _ _, hD, _, rfl, dput_toK x1 x2 hH4 (Nat.lt_of_le_of_lt (show h.length ≤ 8000 by omega) (by decide)), ?_⟩
              have w5 : Wr H4 hD (.dK (toK (putN h x1 x2))) (upd H4 hD (.dK (toK (putN h x1 x2)))) := .mk'
              generalize upd H4 hD (HO.dK (toK (putN h x1 x2))) = H5 at w5 ⊢
              have hq5 : H5 q = some (.tup [sg x1, sg x2]) := w5.but q _ (ne_of hq4 hH4 (by intro z; cases z)) hq4
              refine ⟨_, rfl, q, _, _, _, rfl, rfl, SqT.of hq5, at0 _ _, _, rfl, _, rfl, q, _, _, _, rfl, rfl, SqT.of hq5, at1 _ _, hD, _, rfl, dput_toK x2 x1 w5.here (Nat.lt_of_le_of_lt (show (putN h x1 x2).length ≤ 9000 by omega) (by decide)), ?_⟩
              refine ⟨_, _, rfl, Same.wr (Same.wr (s3.trans s4) fD w5) fD .mk', upd_same, hfr, by omega, ?_⟩
              intro c b hcb
              rw [headOf_putN, headOf_putN] at hcb
              split at hcb
              · exact Option.some.inj hcb ▸ m1
              · split at hcb
                · exact Option.some.inj hcb ▸ m2
                · exact hin c b hcb
      · rintro σ' H3 ⟨h, pr, rfl, s3, hH, hfr, hl, hin⟩
        have hkd : keptD S d = some (dueOf S h) := by
          rw [hk, hfr, hlen, List.drop_length]
          rfl
        have hz : S.cps.toList.length = (signs S).length := by rw [signs_len]; exact Array.length_toList
        have hsm : (signs S).length < sizeLine := by rw [signs_len]; exact Nat.lt_of_le_of_lt hS (by decide)
        have tupStay : ∀ (H H' : Hp) (D q : Addr) (e : Nat × Nat), (∃ zs, H D = some (.lst zs)) → But D H H' → H q = some (.tup [sg e.1, sg e.2]) → H' q = some (.tup [sg e.1, sg e.2]) := by
          rintro H H' D q e ⟨zs, hz⟩ b hq
          exact b q _ (ne_of hq hz (by intro z; cases z)) hq
        refine ⟨_, rfl, S, rfl, fun D1 hD1 => lc_pair walk_signs S.cps.toList hz (fun c => (headOf h c).isSome) (fun c y H' => ∃ q, y = V.ref q ∧ H' q = some (.tup [sg c, sg ((headOf h c).getD 0)])) ?_ hD1 (fun _ _ => trivial) hsm (fun x => rfl) ?_ ?_ ?_⟩
        · rintro c y H5 H6 hl5 hb ⟨q, e, hq⟩
          exact ⟨q, e, tupStay H5 H6 D1 q (c, (headOf h c).getD 0) hl5 hb hq⟩
        · intro j x c H5 C hx hc s5 hC
          obtain rfl : x = sg c := by
            unfold signs at hx
            rw [List.getElem?_map, hc] at hx
            exact (Option.some.inj hx).symm
          refine ⟨_, rfl, _, rfl, hD, _, rfl, dget_toK c (s5 _ _ hH), _, rfl, ?_⟩
          have e : ((headOf h c).map sg).isSome = (headOf h c).isSome := by cases headOf h c <;> rfl
          rw [e]
          exact hC H5 (Same.refl _)
        · intro j x c H5 C hx hc hp s5 hC
          obtain rfl : x = sg c := by
            unfold signs at hx
            rw [List.getElem?_map, hc] at hx
            exact (Option.some.inj hx).symm
          obtain ⟨b, hb⟩ := Option.isSome_iff_exists.mp hp
          refine ⟨_, rfl, _, rfl, _, rfl, hD, sg b, rfl, ?_, (by show 2 ≤ sizeLine; decide), fun q H6 n6 => hC H6 _ n6.same ⟨q, rfl, ?_⟩⟩
          · have := dget_toK c (s5 _ _ hH)
            rw [hb] at this
            exact this
          · rw [hb]
            exact n6.here
        · intro H4 ys s4 hD4 hP
          -- the pairs that the dict tells
          have hP2 : PairsAt H4 ((S.cps.toList.filter fun c => (headOf h c).isSome).map fun c => (c, (headOf h c).getD 0)) ys := by
            clear hD4
            generalize S.cps.toList.filter (fun c => (headOf h c).isSome) = l at hP
            induction hP with
            | nil => exact .nil
            | cons a b ih => exact .cons a ih
          have hL : ∀ e ∈ (S.cps.toList.filter fun c => (headOf h c).isSome).map fun c => (c, (headOf h c).getD 0), e.1 ∈ S.cps.toList ∧ e.2 ∈ S.cps.toList := by
            intro e he
            obtain ⟨c, hc, rfl⟩ := List.mem_map.mp he
            obtain ⟨h1, h2⟩ := List.mem_filter.mp hc
            obtain ⟨b, hb⟩ := Option.isSome_iff_exists.mp h2
            exact ⟨h1, by rw [hb]; exact hin c b hb⟩
          have hdue : dueOf S h = ((S.cps.toList.filter fun c => (headOf h c).isSome).map fun c => (c, (headOf h c).getD 0)).filter fun e => decide (S.cps.toList.idxOf e.1 ≤ S.cps.toList.idxOf e.2) := rfl
          have hLl : ((S.cps.toList.filter fun c => (headOf h c).isSome).map fun c => (c, (headOf h c).getD 0)).length ≤ 4000 := by
            rw [List.length_map]
            refine Nat.le_trans (List.length_filter_le _ _) ?_
            rw [Array.length_toList]
            exact hS
          generalize (S.cps.toList.filter fun c => (headOf h c).isSome).map (fun c => (c, (headOf h c).getD 0)) = L at hP2 hL hdue hLl
          have hpl := hP2.length
          refine ⟨_, rfl, D1, rfl, ⟨ys, SqL.of hD4⟩, fun D2 hD2 => lc_pair walk_list L hpl (fun e => decide (S.cps.toList.idxOf e.1 ≤ S.cps.toList.idxOf e.2)) (fun e y H' => ∃ q, y = V.ref q ∧ H' q = some (.tup [sg e.1, sg e.2])) ?_ hD2 (fun H' sm => sm.seq (SqL.of hD4)) (by rw [← hpl]; exact Nat.lt_of_le_of_lt hLl (by decide)) (fun x => rfl) ?_ ?_ ?_⟩
          · rintro e y H5 H6 hl5 hb ⟨q, e1, hq⟩
            exact ⟨q, e1, tupStay H5 H6 D2 q e hl5 hb hq⟩
          · intro j x e H5 C hx he s5 hC
            obtain ⟨e', he', q, rfl, hq⟩ := Paired.at hP2 hx
            rw [he] at he'
            obtain rfl : e = e' := Option.some.inj he'
            obtain ⟨i1, i2⟩ := hL e (List.mem_of_getElem? he)
            have hq5 := s5 _ _ hq
            refine ⟨_, rfl, ⟨_, rfl⟩, _, rfl, q, _, _, _, rfl, rfl, SqT.of hq5, at0 _ _, S, ⟨#[e.1]⟩, rfl, rfl, ?_⟩
            rw [find_one S e.1 i1]
            refine ⟨_, rfl, ⟨_, rfl⟩, _, rfl, q, _, _, _, rfl, rfl, SqT.of hq5, at1 _ _, S, ⟨#[e.2]⟩, rfl, rfl, ?_⟩
            rw [find_one S e.2 i2]
            refine ⟨_, _, rfl, rfl, _, rfl, ?_⟩
            have e3 : decide (((S.cps.toList.idxOf e.1 : Nat) : Int) ≤ ((S.cps.toList.idxOf e.2 : Nat) : Int)) = decide (S.cps.toList.idxOf e.1 ≤ S.cps.toList.idxOf e.2) := by
              rw [decide_eq_decide]
              omega
            rw [e3]
            exact hC H5 (Same.refl _)
          · intro j x e H5 C hx he _ s5 hC
            obtain ⟨e', he', q, rfl, hq⟩ := Paired.at hP2 hx
            rw [he] at he'
            obtain rfl : e = e' := Option.some.inj he'
            exact ⟨_, rfl, hC H5 _ (Same.refl _) ⟨q, rfl, s5 _ _ hq⟩⟩
          · intro H5 zs s5 hD5 hP5
            refine ⟨D2, zs, rfl, SqL.of hD5, fun r H6 n6 => ?_⟩
            have sA : Same H H5 := (s3.trans s4).trans s5
            have fr : H r = none := by
              cases e : H r with
              | none => rfl
              | some o => have := sA _ _ e; rw [n6.free] at this; cases this
            have hP6 : PairsAt H5 (dueOf S h) zs := by
              rw [hdue]
              exact hP5
            exact kS _ hkd H6 r zs (sA.trans n6.same) fr n6.here (hP6.same n6.same)
end
end My
end
section
set_option Elab.async false
set_option linter.all false
set_option maxRecDepth 100000
set_option maxHeartbeats 4000000
namespace My
open PySem PySem.Spec PyProof.Rows L2
abbrev s_keptM : Stmt := inCls s_cls 11
abbrev s_shownM : Stmt := inCls s_cls 10
/-- where a side stands in the order -/
def sideAt (S : Str) (c : Nat) : Nat := (S.cps.toList ++ [45]).idxOf c
/-- a kind as it is kept -/
def keptK (S : Str) (x y : Nat) : Str := if sideAt S y < sideAt S x then mkS [y, x] else mkS [x, y]
theorem kind_two {S z : Str} (h : kindD S (.str z) = true) : ∃ x y, z = mkS [x, y] ∧ sideB S x = true ∧ sideB S y = true ∧ ¬ (x = 45 ∧ y = 45) := by
  have h : (decide (z.length = 2) && !decide (z = (⟨#[45, 45]⟩ : Str)) && z.cps.toList.all (sideB S)) = true := h
  rw [Bool.and_eq_true, Bool.and_eq_true] at h
  obtain ⟨⟨h1, h2⟩, h3⟩ := h
  have h1 := of_decide_eq_true h1
  have zl : z.cps.toList.length = 2 := Array.length_toList.trans h1
  obtain ⟨x, y, e⟩ : ∃ x y, z.cps.toList = [x, y] := by
    match z.cps.toList, zl with
    | [x, y], _ => exact ⟨x, y, rfl⟩
  have ez : z = mkS [x, y] := by rw [← e, mkS_self]
  rw [e] at h3
  simp only [List.all_cons, List.all_nil, Bool.and_true, Bool.and_eq_true] at h3
  refine ⟨x, y, ez, h3.1, h3.2, fun q => ?_⟩
  rw [ez, q.1, q.2] at h2
  revert h2
  decide
theorem side_mem {S : Str} {c : Nat} (h : sideB S c = true) : c ∈ S.cps.toList ++ [45] := by
  unfold sideB at h
  rw [Bool.or_eq_true] at h
  rcases h with h | h
  · exact List.mem_append_right _ (by rw [of_decide_eq_true h]; exact List.mem_cons_self)
  · exact List.mem_append_left _ (of_decide_eq_true h)
theorem order_cps (S : Str) : (S ++ PySem.Str.ofString "-").cps.toList = S.cps.toList ++ [45] := by
  show (S.cps ++ (PySem.Str.ofString "-").cps).toList = _
  rw [Array.toList_append]
  have : (PySem.Str.ofString "-").cps.toList = [45] := by decide
  rw [this]
def sp_keptM (K : PySem.W.Frag) (C IK : Addr) : Sp := fun vs H Q E => ∃ (a p : Addr) (S : Str) (ps : List (Nat × Nat)) (v : V) (d : PyData), vs = [.ref a, v] ∧ FontAt H C a S ps ∧ S.length ≤ 4000 ∧ Rp K p H false v d ∧ textFits 4000 d ∧
  (kindD S d = false → ∀ H' dd, Same H H' → H' dd = none → E (.ref IK) (some dd) (upd H' dd (.xd [("value", v)]))) ∧ (∀ x y, d = .str (mkS [x, y]) → kindD S d = true → ∀ H', Same H H' → Q (.str (keptK S x y)) H')
section
variable {P : Program} {w : World} {K : PySem.W.Frag} {mg : Str → Option Value} {base : Heap}
theorem sc_keptM : FnScope ["self", "kind", "order"] ["self", "kind"] (defScope s_keptM) := ⟨rfl, rfl, rfl, by decide +kernel, rfl, by decide +kernel, by decide +kernel⟩
theorem ok_keptM {f C fK IK fI : Addr} {fd fdK : FuncData} {tB : Tok} (F : Fun K "kept" "Font.kept" s_keptM f fd) (c : Cls K C) (n1 : NoAttr K C "_signs") (gB : mg "BLANK" = some (.str "-" tB)) (D : Def K mg "is_kind" fK fdK ["signs", "value"]) (G : FnOk P w K mg base CX0 1 fK fdK ["signs", "value"] (sp_isKind K))
    (T : VErr K mg "InvalidKind" "InvalidKind.__init__" IK fI) : FnOk P w K mg base (L2.CX P w) 2 f fd ["self", "kind"] (sp_keptM K C IK) := by
  refine F.okX sc_keptM (fun vs H Q E h => ?_) (fun cdv A outer s H vs Q E hr h => ?_)
  · obtain ⟨a, p, S, ps, v, d, rfl, _⟩ := h
    rfl
  · obtain ⟨a, p, S, ps, v, d, rfl, hF, hS, hd, hz, kE, kQ⟩ := h
    obtain ⟨dx, r, ys, h1, h2, h3⟩ := hF.at_
    refine ⟨_, pss_cons (ps_if (pt_not (pt_val (pe_call (E := E0) G hr rfl D.mgf D.kp D.bd .nil pass0 (pa_cons (pe_fld (pv 0) rfl) (pa_cons (pv 1) pa_nil))))) (pss_one (ps_raiseErr rfl T fld_value hr (show 1 ≤ 1 by decide) (takes_of rfl rfl rfl rfl) (by exact (pa_cons (pv 1) pa_nil)) rfl)) pss_nil)
      (PSs.nox (pss_cons (ps_set (i := 2) sc_keptM.nd rfl (Or.inl rfl) (pe_op op_add_str (pe_fld (pv 0) rfl) (pe_glob (v := .str "-") rfl gB ⟨_, rfl⟩)))
      (pss_cons (ps_if (pt_cmpR op_gt (pe_m1 PySem.F.slot_str_find PySem.F.type_str_find mt_find (pv 2) (pe_ix ix_str (pv 1) pe_int (fun _ _ => rfl))) (pe_m1 PySem.F.slot_str_find PySem.F.type_str_find mt_find (pv 2) (pe_ix ix_str (pv 1) pe_int (fun _ _ => rfl))) (nomark _))
        (pss_one (ps_ret (pe_op op_add_str (pe_ix ix_str (pv 1) pe_int (fun _ _ => rfl)) (pe_ix ix_str (pv 1) pe_int (fun _ _ => rfl))))) pss_nil)
      (pss_one (ps_ret (pv 1)))))), ?_⟩
    refine ⟨_, rfl, a, _, dx, _, _, rfl, h1, c, n1, fs_signs S r, _, rfl, S, v, d, p, rfl, hd, hz, fun H1 s1 => ⟨_, rfl, ?_⟩⟩
    cases hs : kindD S d with
    | false => exact iteT ⟨_, rfl, _, rfl, fun dd hdd => kE hs H1 dd s1 hdd⟩
    | true =>
      obtain ⟨z, rfl⟩ : ∃ z, d = .str z := by
        cases d with
        | str z => exact ⟨z, rfl⟩
        | _ => cases hs
      obtain ⟨x, y, rfl, bx, by_, _⟩ := kind_two hs
      cases hd
      have fin := kQ x y rfl hs H1 s1
      have h1' := s1 _ _ h1
      have l1 : (PySem.Str.ofString "-").length = 1 := by decide
      have l2 : (mkS [x, y]).length ≤ sizeLine := by rw [mkS_len]; show 2 ≤ sizeLine; decide
      have a0 : atI (mkS [x, y]).cps.toList (0 : Int) = some x := atI_nat (j := 0) rfl
      have a1 : atI (mkS [x, y]).cps.toList (1 : Int) = some y := atI_nat (j := 1) rfl
      have f0 : Txt.find (S ++ PySem.Str.ofString "-") ⟨#[x]⟩ = ((sideAt S x : Nat) : Int) := by
        rw [find_one _ x (by rw [order_cps]; exact side_mem bx), order_cps]
        rfl
      have f1 : Txt.find (S ++ PySem.Str.ofString "-") ⟨#[y]⟩ = ((sideAt S y : Nat) : Int) := by
        rw [find_one _ y (by rw [order_cps]; exact side_mem by_), order_cps]
        rfl
      refine iteF ⟨_, rfl, a, _, dx, _, _, rfl, h1', c, n1, fs_signs S r, S, _, rfl, rfl, ?_, ?_⟩
      · rw [l1]
        exact Nat.le_trans (show S.length + 1 ≤ 4001 by omega) (by decide)
      refine ⟨_, rfl, ⟨_, rfl⟩, _, rfl, _, _, _, rfl, rfl, l2, a0, _, ⟨#[x]⟩, rfl, rfl, ?_⟩
      rw [f0]
      refine ⟨_, rfl, ⟨_, rfl⟩, _, rfl, _, _, _, rfl, rfl, l2, a1, _, ⟨#[y]⟩, rfl, rfl, ?_⟩
      rw [f1]
      refine ⟨_, _, rfl, rfl, _, rfl, ?_⟩
      refine ite2 (fun h => ?_) (fun h => ?_)
      · have h : sideAt S y < sideAt S x := by have := of_decide_eq_true h; omega
        unfold keptK at fin
        rw [if_pos h] at fin
        refine ⟨_, rfl, _, _, _, rfl, rfl, l2, a1, _, rfl, _, _, _, rfl, rfl, l2, a0, _, _, rfl, rfl, by show 1 + 1 ≤ sizeLine; decide, ?_⟩
        exact fin
      · have h : ¬ sideAt S y < sideAt S x := fun z => h (decide_eq_true (by omega))
        unfold keptK at fin
        rw [if_neg h] at fin
        exact ⟨_, rfl, fin⟩
end
end My
end
section
set_option Elab.async false
set_option linter.all false
set_option maxRecDepth 100000
set_option maxHeartbeats 4000000
namespace My
open PySem PySem.Spec PyProof.Rows L2
abbrev s_kinds : Stmt := topS 52
/-- all kinds with this first side -/
def kindsAt (S : Str) (k : Nat) : List (Nat × Nat) := (S.cps.toList.drop k ++ [45]).map fun c => ((S.cps.toList[k]?).getD 0, c)
def kindV (e : Nat × Nat) : V := .str (mkS [e.1, e.2])
/-- all kinds of the first n first sides -/
def kindsTo (S : Str) : Nat → List (Nat × Nat)
  | 0 => []
  | n + 1 => kindsTo S n ++ kindsAt S n
def sp_kinds : Sp := fun vs H Q _ => ∃ S : Str, vs = [.str S] ∧ S.length ≤ 10 ∧ ∀ H' r, Same H H' → H r = none → H' r = some (.lst ((kindsTo S S.length).map kindV)) → Q (.ref r) H'
theorem kindsAt_len (S : Str) (h : S.length ≤ 10) (k : Nat) : (kindsAt S k).length ≤ 11 := by
  unfold kindsAt
  have : S.cps.toList.length = S.length := Array.length_toList
  rw [List.length_map, List.length_append, List.length_drop]
  simp only [List.length_cons, List.length_nil]
  omega
theorem kindsTo_len (S : Str) (h : S.length ≤ 10) : ∀ k, (kindsTo S k).length ≤ 11 * k
  | 0 => Nat.le_refl _
  | k + 1 => by
    have := kindsTo_len S h k
    have := kindsAt_len S h k
    show (kindsTo S k ++ kindsAt S k).length ≤ _
    rw [List.length_append]
    omega
/-- xs.extend(ys) -/
def qExt : V → List V → Hp → VK → Prop := fun x vs H Q => ∃ l b xs zs, x = .ref l ∧ vs = [.ref b] ∧ H l = some (.lst xs) ∧ H b = some (.lst zs) ∧ xs.length + zs.length ≤ sizeLine ∧ ∀ H', Wr H l (.lst (xs ++ zs)) H' → Q .non H'
theorem mt_extend' {X : Cx} : MtM X "list.extend" qExt := MtM.weak mt_extend fun x vs H Q q => by
  obtain ⟨l, b, xs, zs, e1, e2, h1, h2, hl, k⟩ := q
  exact ⟨l, b, xs, zs, e1, e2, h1, h2, hl, k _ .mk'⟩
theorem cut_from (S : Str) (k : Nat) : (cutS S (some ((k : Nat) : Int)) none).cps.toList = S.cps.toList.drop k := by
  have zl : S.cps.toList.length = S.length := Array.length_toList
  show (((S.cps.toList.drop (HT.sIx S.length 0 (some ((k : Nat) : Int)))).take (HT.sIx S.length S.length none - HT.sIx S.length 0 (some ((k : Nat) : Int)))).toArray).toList = _
  rw [HT.sIx_none, HT.sIx_nat]
  show (S.cps.toList.drop (min k S.length)).take (S.length - min k S.length) = _
  rw [← zl, List.take_of_length_le (by rw [List.length_drop]; exact Nat.le_refl _)]
  by_cases h : k ≤ S.cps.toList.length
  · rw [Nat.min_eq_left h]
  · rw [Nat.min_eq_right (by omega), List.drop_length, List.drop_of_length_le (by omega)]
section
variable {P : Program} {w : World} {K : PySem.W.Frag} {mg : Str → Option Value} {base : Heap}
abbrev NKi : List Str := ["_law_signs", "_law_found", "_law_k", "_law_side"]
theorem sc_kinds : FnScope NKi ["_law_signs"] (defScope s_kinds) := ⟨rfl, rfl, rfl, by decide +kernel, rfl, by decide +kernel, by decide +kernel⟩
theorem ok_kinds {f : Addr} {fd : FuncData} (F : Fun K "_law_kinds" "_law_kinds" s_kinds f fd) (T : TB mg) : FnOk P w K mg base CX0 1 f fd ["_law_signs"] sp_kinds := by
  refine F.ok sc_kinds (fun vs H Q E h => ?_) (fun cdv A outer s H vs Q E hr h => ?_)
  · obtain ⟨S, rfl, _⟩ := h
    rfl
  · obtain ⟨S, rfl, hS, k⟩ := h
    refine ⟨_, pss_cons (ps_set (i := 1) sc_kinds.nd rfl (Or.inl rfl) (pe_lst' pa_nil))
      (pss_cons (ps_for PassesOwn.never rfl (pi_range1 rfl T.range (pa_cons (pe_callB (id := "len") call_len_str (by rfl) T.len PySem.boot_len (pa_cons (pv 0) pa_nil)) pa_nil)) (pg_name (i := 2) sc_kinds.nd rfl (Or.inr rfl))
        (pss_one (ps_expr (pe_bm PySem.F.plainAttrs_list PySem.F.slot_list_extend PySem.F.type_list_extend mt_extend' (pv 1) (pa_cons (by exact (pe_lc (own := [("_law_side", 3)]) (g := gName 3) (tt := tYes) rfl sc_kinds.nd (pi_str (pe_op op_add_str (pe_slice sl_str (pv 0) (po_some (pv 2)) po_none) pe_str)) (blkOk_by (own := [("_law_side", 3)]) (N := NKi) (sc := defScope s_kinds) (by decide +kernel))
          (fun _ _ _ _ _ => pg_name (i := 3) sc_kinds.nd rfl (Or.inl rfl)) (fun _ _ _ _ _ => pts_nil) (fun _ _ _ _ _ => pe_op op_add_str (pe_ix ix_str (pv 0) (pv 2) (fun _ _ => rfl)) (pv 3)))) pa_nil)))))
      (pss_one (ps_ret (pv 1)))), ?_⟩
    have zl : S.cps.toList.length = S.length := Array.length_toList
    have hz : S.length ≤ sizeLine := Nat.le_trans hS (by decide)
    refine ⟨by show 0 ≤ sizeLine; decide, fun r H1 n1 => ?_⟩
    refine ⟨_, rfl, S, rfl, hz, (S.length : Int), rfl, by omega, by omega, for_it (walk_range (lo := 0) (n := S.length)) (fun i σ' H' => ∃ o2 o3 : Option V, σ' = [some (.str S), some (.ref r), o2, o3] ∧ Same H H' ∧ H' r = some (.lst ((kindsTo S i).map kindV)))
      ⟨none, none, rfl, n1.same, n1.here⟩ (fun _ _ _ _ _ => trivial) ?_ ?_⟩
    · rintro i x σ' Ha Hb hi ⟨o2, o3, rfl, sH, hr⟩ ⟨rfl, rfl⟩
      have hi : i < S.length := hi
      have e0 : ((0 : Int) + (i : Int)) = ((i : Nat) : Int) := by omega
      show gName 2 (V.int ((0 : Int) + (i : Int))) _ _ _
      rw [e0]
      obtain ⟨a, ha⟩ : ∃ a, S.cps.toList[i]? = some a := ⟨S.cps.toList[i]'(by omega), by simp [show i < S.cps.toList.length by omega]⟩
      have oz : (cutS S (some ((i : Nat) : Int)) none ++ PySem.Str.ofString "-").cps.toList = S.cps.toList.drop i ++ [45] := by rw [order_cps, cut_from]
      have cl : (cutS S (some ((i : Nat) : Int)) none).length ≤ 10 := by
        have : (cutS S (some ((i : Nat) : Int)) none).length = (cutS S (some ((i : Nat) : Int)) none).cps.toList.length := Array.length_toList.symm
        rw [this, cut_from, List.length_drop]
        omega
      have dl : (PySem.Str.ofString "-").length = 1 := by decide
      have kl := kindsAt_len S hS i
      have kt := kindsTo_len S hS i
      have ol : (signs (cutS S (some ((i : Nat) : Int)) none ++ PySem.Str.ofString "-")).length ≤ 11 := by
        unfold signs
        rw [List.length_map, oz, List.length_append, List.length_drop]
        simp only [List.length_cons, List.length_nil]
        omega
      have lsmall : (signs (cutS S (some ((i : Nat) : Int)) none ++ PySem.Str.ofString "-")).length < sizeLine := Nat.lt_of_le_of_lt ol (by decide)
      refine ⟨_, rfl, .inl ⟨rfl, _, SqL.of hr⟩, _, rfl, _, rfl, _, rfl, S, rfl, hz, _, _, rfl, rfl, ?_, _, rfl, fun D1 hD1 => lc_ff walk_signs (fun _ => true) (fun x => kindV (a, ofSg x)) hD1 (fun _ _ => trivial) lsmall (fun x => rfl) (fun x H' C _ _ h => h _ (Same.refl _)) ?_ ?_⟩
      · rw [dl]
        exact Nat.le_trans (show _ ≤ 11 by omega) (by decide)
      · intro v H' C' hx _ _ hC
        obtain ⟨ch, _, rfl⟩ := mem_signs hx
        have hC := hC H' (Same.refl _)
        refine ⟨_, rfl, _, rfl, S, _, a, rfl, rfl, hz, atI_nat ha, _, rfl, _, _, rfl, rfl, by show 1 + 1 ≤ sizeLine; decide, ?_⟩
        exact hC
      intro H2 s2 hl2
      have e2 : ((signs (cutS S (some ((i : Nat) : Int)) none ++ PySem.Str.ofString "-")).filter fun _ => true).map (fun x => kindV (a, ofSg x)) = (kindsAt S i).map kindV := by
        rw [pv_filter_true]
        unfold signs kindsAt
        rw [oz, ha, List.map_map, List.map_map]
        rfl
      rw [e2] at hl2
      have hr2 := s2 _ _ hr
      refine ⟨r, D1, _, _, rfl, rfl, hr2, hl2, ?_, fun H3 w3 => ?_⟩
      · rw [List.length_map, List.length_map]
        exact Nat.le_trans (show _ ≤ 200 by omega) (by decide)
      refine ⟨_, _, rfl, Same.wr (sH.trans s2) n1.free w3, ?_⟩
      rw [w3.here, ← List.map_append]
      rfl
    · rintro σ' H2 ⟨o2, o3, rfl, sH, hr⟩
      exact ⟨_, rfl, k H2 r sH n1.free hr⟩
end
end My
end
section
set_option Elab.async false
set_option linter.all false
set_option maxRecDepth 100000
set_option maxHeartbeats 4000000
/-! B9: dict comprehensions, dicts from signs to numbers, a dict that is walked. -/
namespace My
open PySem PySem.Spec PyProof.Rows L2
theorem isiN {X : Cx} {K : PySem.W.Frag} (h : X.K = K) : CallR X (.builtin "isinstance") (rIsi K) := h ▸ call_isi
theorem inSeqN {X : Cx} {K : PySem.W.Frag} (h : X.K = K) : OpR X (compareOp .In) (rIn K false) := h ▸ op_in_seq
theorem pe_fldN {X : Cx} {K : PySem.W.Frag} {e : Expr} {f : Str} {pos : Pos} {te : TE} (h : X.K = K) (he : PE X e te) (hb : attributeBase e f X.env (eval e X.env) = eval e X.env) : PE X (.Attribute e f pos) (tFld K te f) := h ▸ pe_fld he hb
/-- a comprehension of a dict over it: Pv by the turn and the heap (the new dict at D within) -/
theorem dc_it {J : It} {n : Nat} {G : Hp → Prop} {Y : Nat → Hp → V → Hp → Prop} (w : Walk J n G Y) {g : TG} {tt : TT} {tk tv : TE} {vs : List Nat} {σ : L2.St} {H1 : Hp} {D : Addr} {Qd : Hp → Prop} (Pv : Nat → Hp → Prop) (h0 : Pv 0 (upd H1 D (.dK []))) (hG : ∀ i H, i ≤ n → Pv i H → G H)
    (hs : ∀ i x H H', i < n → Pv i H → Y i H x H' → g x (wipe σ vs) H' fun σ2 H2 => wipe σ2 vs = wipe σ vs ∧ tt σ2 H2 fun b H3 =>
      if b = true then tk σ2 H3 fun y H4 => tv σ2 H4 fun z H5 => ∃ kvs k, y = kV k ∧ H5 D = some (.dK kvs) ∧ kvs.length < sizeLine ∧ Pv (i + 1) (upd H5 D (.dK (putK kvs k z))) else Pv (i + 1) H3) (hd : ∀ H, Pv n H → Qd H) :
    ∃ W : Nat → Nat → Hp → Prop, (∃ m, W 0 m (upd H1 D (.dK []))) ∧ ∀ j m H, W j m H →
      (J.stop j H ∧ Qd H) ∨ (J.go j H ∧ ∃ Nx : Hp → Prop, (∀ H', Nx H' → ∃ m', m' < m ∧ W (j + 1) m' H') ∧ ∀ x H', J.yld j H x H' → g x (wipe σ vs) H' fun σ2 H2 => wipe σ2 vs = wipe σ vs ∧ tt σ2 H2 fun b H3 =>
        if b = true then tk σ2 H3 fun y H4 => tv σ2 H4 fun z H5 => ∃ kvs k, y = kV k ∧ H5 D = some (.dK kvs) ∧ kvs.length < sizeLine ∧ Nx (upd H5 D (.dK (putK kvs k z))) else Nx H3) := by
  refine ⟨fun i m H => m = n - i ∧ i ≤ n ∧ Pv i H, ⟨n, by simp, Nat.zero_le _, h0⟩, ?_⟩
  rintro i m H ⟨rfl, hi, p⟩
  have q := hG i H hi p
  by_cases hlt : i < n
  · exact .inr ⟨w.goes i H hlt q, Pv (i + 1), fun H' p' => ⟨n - (i + 1), by omega, rfl, hlt, p'⟩, fun x H' y => hs i x H H' hlt p (w.yields i H x H' hlt q y)⟩
  · have e : i = n := by omega
    subst e
    exact .inl ⟨w.stops H q, hd H p⟩
theorem putK_new {kvs : List (Key × V)} {k : Key} {v : V} (h : k ∉ kvs.map (·.1)) : putK kvs k v = kvs ++ [(k, v)] := by
  unfold putK
  have e : (kvs.any fun kv => decide (kv.1 = k)) = false := by
    rw [List.any_eq_false]
    intro x hx hk
    exact h (List.mem_map.mpr ⟨x, hx, of_decide_eq_true hk⟩)
  rw [e]
  rfl
/-- what a dict comprehension over l makes: parts and tests change nothing that is tracked -/
theorem dc_map {α : Type} {J : It} {xs : List V} {G : Hp → Prop} (w : Walk J xs.length G (YAt xs)) (l : List α) (hl : l.length = xs.length) {i : Nat} {tt : TT} {tk tv : TE} {vs : List Nat} {σ : L2.St} {H1 : Hp} {D : Addr} {Qd : Hp → Prop} (p : α → Bool) (key : α → Key) (val : α → V) (nd : (l.map key).Nodup)
    (free : H1 D = none) (hG : ∀ H', Same H1 H' → G H') (small : xs.length < sizeLine) (hw : ∀ x, wipe ((wipe σ vs).set i (some x)) vs = wipe σ vs)
    (ht : ∀ (j : Nat) x a H' (C : Bool → Hp → Prop), xs[j]? = some x → l[j]? = some a → Same H1 H' → (∀ H3, Same H' H3 → C (p a) H3) → tt ((wipe σ vs).set i (some x)) H' C)
    (hk : ∀ (j : Nat) x a H' (C : VK), xs[j]? = some x → l[j]? = some a → p a = true → Same H1 H' → (∀ H4, Same H' H4 → C (kV (key a)) H4) → tk ((wipe σ vs).set i (some x)) H' C)
    (hv : ∀ (j : Nat) x a H' (C : VK), xs[j]? = some x → l[j]? = some a → p a = true → Same H1 H' → (∀ H4, Same H' H4 → C (val a) H4) → tv ((wipe σ vs).set i (some x)) H' C)
    (hd : ∀ H', Same H1 H' → H' D = some (.dK ((l.filter p).map fun a => (key a, val a))) → Qd H') :
    ∃ W : Nat → Nat → Hp → Prop, (∃ m, W 0 m (upd H1 D (.dK []))) ∧ ∀ j m H, W j m H →
      (J.stop j H ∧ Qd H) ∨ (J.go j H ∧ ∃ Nx : Hp → Prop, (∀ H', Nx H' → ∃ m', m' < m ∧ W (j + 1) m' H') ∧ ∀ x H', J.yld j H x H' → gName i x (wipe σ vs) H' fun σ2 H2 => wipe σ2 vs = wipe σ vs ∧ tt σ2 H2 fun b H3 =>
        if b = true then tk σ2 H3 fun y H4 => tv σ2 H4 fun z H5 => ∃ kvs k, y = kV k ∧ H5 D = some (.dK kvs) ∧ kvs.length < sizeLine ∧ Nx (upd H5 D (.dK (putK kvs k z))) else Nx H3) := by
  refine dc_it w (fun j H' => Same H1 H' ∧ H' D = some (.dK (((l.take j).filter p).map fun a => (key a, val a)))) ⟨Same.wr (Same.refl H1) free .mk', by simp [upd_same]⟩ (fun j H' _ q => hG H' q.1) ?_ ?_
  · rintro j x H2 H3 hj ⟨s, hD⟩ ⟨rfl, hx⟩
    have hjl : j < l.length := by omega
    obtain ⟨a, ha⟩ : ∃ a, l[j]? = some a := ⟨l[j], by simp [hjl]⟩
    have nx : l.take (j + 1) = l.take j ++ [a] := by
      rw [List.take_add_one, ha]
      rfl
    refine ⟨hw x, ht j x a H3 _ hx ha s fun H4 s4 => ?_⟩
    have hD4 := s4 _ _ hD
    cases hpa : p a with
    | true =>
      rw [if_pos rfl]
      refine hk j x a H4 _ hx ha hpa (s.trans s4) fun H5 s5 => hv j x a H5 _ hx ha hpa ((s.trans s4).trans s5) fun H6 s6 => ?_
      have hD6 := s6 _ _ (s5 _ _ hD4)
      refine ⟨_, key a, rfl, hD6, ?_, Same.wr (((s.trans s4).trans s5).trans s6) free .mk', ?_⟩
      · rw [List.length_map]
        have h1 : ((l.take j).filter p).length ≤ (l.take j).length := List.length_filter_le _ _
        have h2 : (l.take j).length ≤ l.length := by rw [List.length_take]; omega
        omega
      · rw [upd_same, nx, List.filter_append, List.map_append]
        have e : [a].filter p = [a] := by simp [hpa]
        rw [e]
        refine congrArg (fun z => some (HO.dK z)) (putK_new ?_)
        rw [List.map_map]
        intro hm
        obtain ⟨b, hb, eb⟩ := List.mem_map.mp hm
        have hb : b ∈ l.take j := (List.mem_filter.mp hb).1
        obtain ⟨i', hi'⟩ := List.mem_iff_getElem?.mp hb
        rw [List.getElem?_take] at hi'
        split at hi'
        · rename_i hlt
          have h1 : (l.map key)[i']? = some (key b) := by rw [List.getElem?_map, hi']; rfl
          have h2 : (l.map key)[j]? = some (key a) := by rw [List.getElem?_map, ha]; rfl
          have hlen : j < (l.map key).length := by rw [List.length_map]; exact hjl
          have eb : key b = key a := eb
          rw [← eb] at h2
          have := (List.getElem?_inj (Nat.lt_trans hlt hlen) nd).mp (h1.trans h2.symm)
          omega
        · cases hi'
    | false =>
      rw [if_neg Bool.false_ne_true]
      refine ⟨s.trans s4, ?_⟩
      rw [hD4, nx, List.filter_append]
      simp [hpa]
  · rintro H' ⟨s, hD⟩
    rw [← hl, List.take_length] at hD
    exact hd H' s hD
/-! ### a dict that is walked -/
theorem unlock {H H' : Hp} {d : Addr} {od : Obj} {u : HO} (h : H d = some u) (s : Same (upd H d (.frz od u)) H') : Same H (upd H' d u) := fun b o e => by
  by_cases q : b = d
  · subst q
    rw [h] at e
    rw [upd_same, e]
  · rw [upd_ne q]
    refine s b o ?_
    rw [upd_ne q]
    exact e
theorem locked {H : Hp} {d : Addr} {od : Obj} {u : HO} : (upd H d (.frz od u)) d = some (.frz od u) := upd_same
theorem lock_els {H : Hp} {d b : Addr} {od : Obj} {u : HO} (q : b ≠ d) : (upd H d (.frz od u)) b = H b := upd_ne q
theorem walk_ks {d : Addr} {o : Obj} {kvs : List (Key × V)} : Walk (Itk d o kvs) (kvs.map fun e => kV e.1).length (fun H => H d = some (.frz o (.dK kvs))) (YAt (kvs.map fun e => kV e.1)) := by
  rw [List.length_map]
  refine walk_keys.mono (fun _ h => h) fun i H x H' _ _ y => ?_
  obtain ⟨e, k, v, h1, h2⟩ := y
  refine ⟨e, ?_⟩
  rw [List.getElem?_map, h1, h2]
  rfl
/-! ### dicts from signs to numbers -/
def toC (h : List (Nat × Int)) : List (Key × V) := h.map fun e => (Sum.inr ⟨#[e.1]⟩, .int e.2)
def cntOf (h : List (Nat × Int)) (a : Nat) : Option Int := (h.find? fun e => decide (e.1 = a)).map (·.2)
theorem valV_toC (h : List (Nat × Int)) (a : Nat) : valV (toC h) (Sum.inr ⟨#[a]⟩ : Key) = (cntOf h a).map V.int := by
  induction h with
  | nil => rfl
  | cons e h ih =>
    by_cases q : e.1 = a
    · have e1 : valV (toC (e :: h)) (Sum.inr ⟨#[a]⟩ : Key) = some (.int e.2) := valV_pos (keyS_inj.mpr q)
      rw [e1]
      simp [cntOf, q]
    · have e1 : valV (toC (e :: h)) (Sum.inr ⟨#[a]⟩ : Key) = valV (toC h) (Sum.inr ⟨#[a]⟩ : Key) := valV_neg (fun z => q (keyS_inj.mp z))
      rw [e1, ih]
      simp [cntOf, q]
theorem dget_toC {H : Hp} {p : Addr} {h : List (Nat × Int)} (a : Nat) (e : H p = some (.dK (toC h))) : DGet H p (sg a) ((cntOf h a).map V.int) := by
  rw [← valV_toC]
  exact DGet.k (k := Sum.inr ⟨#[a]⟩) e
theorem dget_frz {H : Hp} {p : Addr} {o : Obj} {h : List (Nat × Int)} (a : Nat) (e : H p = some (.frz o (.dK (toC h)))) : DGet H p (sg a) ((cntOf h a).map V.int) := by
  rw [← valV_toC]
  exact .inl ⟨toC h, Sum.inr ⟨#[a]⟩, .inr ⟨o, e⟩, rfl, rfl⟩
/-- the counts f of these signs -/
def cts (l : List Nat) (f : Nat → Int) : List (Nat × Int) := l.map fun c => (c, f c)
theorem cts_at {l : List Nat} {f : Nat → Int} {c : Nat} (h : c ∈ l) : cntOf (cts l f) c = some (f c) := by
  induction l with
  | nil => cases h
  | cons a l ih =>
    by_cases q : a = c
    · subst q
      simp [cntOf, cts]
    · have hc : c ∈ l := (List.mem_cons.mp h).resolve_left (fun z => q z.symm)
      have e : cntOf (cts (a :: l) f) c = cntOf (cts l f) c := by simp [cntOf, cts, q]
      rw [e, ih hc]
theorem cts_no {l : List Nat} {f : Nat → Int} {c : Nat} (h : c ∉ l) : cntOf (cts l f) c = none := by
  induction l with
  | nil => rfl
  | cons a l ih =>
    have q : a ≠ c := fun z => h (z ▸ List.mem_cons_self)
    have e : cntOf (cts (a :: l) f) c = cntOf (cts l f) c := by simp [cntOf, cts, q]
    rw [e, ih fun z => h (List.mem_cons_of_mem _ z)]
theorem toC_keys (h : List (Nat × Int)) : (toC h).map (·.1) = h.map fun e => (Sum.inr ⟨#[e.1]⟩ : Key) := by
  unfold toC
  rw [List.map_map]
  rfl
theorem toC_ks (h : List (Nat × Int)) : (toC h).map (fun e => kV e.1) = (h.map (·.1)).map sg := by
  unfold toC
  rw [List.map_map, List.map_map]
  rfl
theorem nodup_map {α β : Type} {f : α → β} (hf : ∀ a b, f a = f b → a = b) : ∀ {l : List α}, l.Nodup → (l.map f).Nodup
  | [], _ => List.nodup_nil
  | a :: l, h => by
    obtain ⟨h1, h2⟩ := List.nodup_cons.mp h
    rw [List.map_cons, List.nodup_cons]
    refine ⟨fun m => ?_, nodup_map hf h2⟩
    obtain ⟨b, hb, e⟩ := List.mem_map.mp m
    exact h1 (hf _ _ e ▸ hb)
theorem keys_nodup {l : List Nat} (nd : l.Nodup) : (l.map fun c => (Sum.inr ⟨#[c]⟩ : Key)).Nodup := nodup_map (fun _ _ e => keyS_inj.mp e) nd
/-- dict(pairs) with different keys -/
theorem mergeK_nodup {kvs : List (Key × V)} (nd : (kvs.map (·.1)).Nodup) : mergeK [] kvs = kvs := by
  have aux : ∀ (b a : List (Key × V)), ((a ++ b).map (·.1)).Nodup → mergeK a b = a ++ b := by
    intro b
    induction b with
    | nil => intro a _; rw [List.append_nil]; rfl
    | cons e b ih =>
      intro a h
      have e1 : mergeK a (e :: b) = mergeK (putK a e.1 e.2) b := rfl
      rw [List.map_append, List.nodup_append] at h
      have hne : e.1 ∉ a.map (·.1) := fun m => h.2.2 _ m e.1 List.mem_cons_self rfl
      rw [e1, putK_new hne]
      have h2 : ((a ++ [(e.1, e.2)] ++ b).map (·.1)).Nodup := by
        rw [List.append_assoc]
        show ((a ++ e :: b).map (·.1)).Nodup
        rw [List.map_append, List.nodup_append]
        exact h
      rw [ih _ h2, List.append_assoc]
      rfl
  have := aux kvs [] (by simpa using nd)
  simpa using this
end My
end
section
set_option Elab.async false
set_option linter.all false
set_option maxRecDepth 100000
set_option maxHeartbeats 2000000
namespace My
open PySem PySem.Spec PyProof.Rows L2 LamX
/-- the heap that stands still: all but the tables and the script -/
structure Still (P : Program) (w : World) (K : PySem.W.Frag) (cs : List (Addr × Addr)) (a : Addr) (h : Heap) (H : Hp) : Prop where
  tab : ∀ p ∈ cs, H p.2 = some (.tbl #[])
  only : ∀ b u, H b = some u → (b ∈ cs.map (·.2) ∧ u = .tbl #[]) ∨ (b = a ∧ K.lookup a = none ∧ ∃ o xs, u = .frz o (.lst xs))
  ok : HOk P w H h
section
variable {P : Program} {w : World} {K : PySem.W.Frag} {mg mb : Str → Option Value} {k : Nat} {fa a : Addr} {cs : List (Addr × Addr)} {fd : FuncData} {x : Str} {sp : Sp} {s1 : Shared} {vs : List Value} {ns : List Int} {H : Hp}
abbrev emptyTab : Obj := { cls := .none, data := .fields #[] }
theorem tab_at (hT : ∀ p ∈ cs, s1.heap.get? p.2 = some emptyTab) {b : Addr} (hb : b ∈ cs.map (·.2)) : s1.heap.get? b = some emptyTab := by
  obtain ⟨p, hp, e⟩ := List.mem_map.mp hb
  exact e ▸ hT p hp
/-- what is neither a list nor an empty table stands still -/
theorem Still.free (S : Still P w K cs a s1.heap H) (hT : ∀ p ∈ cs, s1.heap.get? p.2 = some emptyTab) (ha : s1.heap.get? a = some { cls := .type "list", data := .seq vs.toArray }) {b : Addr} {o : Obj} (e : s1.heap.get? b = some o)
    (h1 : o ≠ emptyTab) (h2 : o ≠ { cls := .type "list", data := .seq vs.toArray }) : H b = none := by
  cases q : H b with
  | none => rfl
  | some u =>
    rcases S.only b u q with ⟨m, _⟩ | ⟨m, _⟩
    · rw [tab_at hT m] at e
      exact absurd (Option.some.inj e).symm h1
    · rw [m, ha] at e
      exact absurd (Option.some.inj e).symm h2
theorem still_call (S : Still P w K cs a s1.heap H) (KX : K.In s1.heap) (hns : s1.heap.Ns mainGlobals mg) (hb : s1.heap.Ns builtinsNs mb) (hbb : ∀ x : Str, x ≠ "__name__" → mb x = bootBuiltins x) (hlim : s1.heap.NoLimit) (hg : s1.gens = #[])
    (hT : ∀ p ∈ cs, s1.heap.get? p.2 = some emptyTab) (nT : ∀ p ∈ cs, K.lookup p.2 = none) (C : ∀ p ∈ cs, PySem.W.CodeHd s1.heap p.1 p.2)
    (hbm : ∃ (bm : Addr) (ob : Obj), mg "__builtins__" = some (.ref bm) ∧ bm ≠ builtinsNs ∧ s1.heap.get? bm = some ob ∧ ob.cls = .type "module" ∧ ob.dict = some builtinsNs ∧ ob.data = .plain)
    (ha : s1.heap.get? a = some { cls := .type "list", data := .seq vs.toArray }) (hr : Room k callerA) (hS : SqL K H a (ns.map V.int))
    (F : ∀ base : Heap, K.In base → base.Ns mainGlobals mg → (∀ p ∈ cs, TabB base mg p.1 p.2) → FnG P w K mg base k fa fd [x] sp) (bind1 : ∀ (s : Shared) (u : Value), BindsTo s fd ⟨[u], []⟩ [(x, u)])
    (hsp : sp [.ref a] H (fun v _ => v = .bl true) fun _ _ _ => False) :
    codeAny (model P w) callerA (.call (.ref fa) ⟨[.ref a], []⟩) (fun r s' => r = .ok (.ret (.bool true)) ∧ OldK s1.heap s'.heap ∧ s'.os = s1.os ∧ AllBare s'.gens) s1 := by
  have inB : ∀ {b : Addr} {o : Obj}, s1.heap.get? b = some o → H b = none → (hidT s1.heap H).get? b = some o := fun e n => hidT_get e n
  have dictB : ∀ {b : Addr} {m : Str → Option Value}, s1.heap.Ns b m → (hidT s1.heap H).Ns b m := by
    rintro b m ⟨o, es, ep, e, d, r⟩
    exact ⟨o, es, ep, inB e (S.free hT ha e (fun z => by rw [z] at d; cases d) fun z => by rw [z] at d; cases d), d, r⟩
  have kinB : K.In (hidT s1.heap H) := by
    intro b o e
    refine inB (KX b o e) ?_
    cases q : H b with
    | none => rfl
    | some u =>
      rcases S.only b u q with ⟨m, _⟩ | ⟨m, m2, _⟩
      · obtain ⟨p, hp, ep⟩ := List.mem_map.mp m
        have := nT p hp
        rw [ep, e] at this
        cases this
      · rw [← m, e] at m2
        cases m2
  have modB : L2.Mod K mg (hidT s1.heap H) := by
    refine ⟨kinB, dictB hns, ⟨mb, dictB hb, hbb⟩, ?_⟩
    obtain ⟨mc, h1, h2⟩ := hlim
    exact ⟨mc, dictB h1, h2⟩
  have tabB : ∀ p ∈ cs, TabB (hidT s1.heap H) mg p.1 p.2 := by
    intro p hp
    have tp := hT p hp
    constructor
    · obtain ⟨o, us, file, tf, flags, tg, inF, text, tt, e1, r1, r2, r3, r4, r5, r6, r7, r8, hne⟩ := C p hp
      refine ⟨o, us, file, tf, flags, tg, inF, text, tt, inB e1 (S.free hT ha e1 (fun z => ?_) fun z => ?_), r1, r2, r3, r4, r5, r6, r7, r8, hne⟩
      · rw [z] at r2
        cases r2
        simp at r3
      · rw [z] at r2
        cases r2
    · obtain ⟨bm, ob, b1, b2, b3, b4, b5, b6⟩ := hbm
      refine ⟨bm, ob, b1, b2, fun q => ?_, fun q => ?_, inB b3 (S.free hT ha b3 (fun z => ?_) fun z => ?_), b4, b5, b6⟩
      · obtain ⟨o, es, ep, e, hd, _⟩ := hns
        rw [q, e] at b3
        rw [Option.some.inj b3, b6] at hd
        cases hd
      · rw [q, tp] at b3
        rw [← Option.some.inj b3] at b6
        cases b6
      · rw [z] at b6
        cases b6
      · rw [z] at b6
        cases b6
    · intro z
      obtain ⟨o, es, ep, e, hd, _⟩ := hns
      rw [z, tp] at e
      rw [← Option.some.inj e] at hd
      cases hd
  have e0 : Env0 P w K mg (hidT s1.heap H) callerA [] s1 H := ⟨rfl, modB, fun b o e => of_hidT e, Nat.le_of_eq (hidT_size _ _), trivial, fun b m => absurd (show b ∈ ([] : List Addr) from m) (by simp), S.ok, .of_eq hg⟩
  refine codeAny_mono ((F _ kinB (dictB hns) tabB).goes callerA [] s1 H ⟨[.ref a], []⟩ [.ref a] [.ref a] _ _ rfl hr e0 (bind1 s1 (.ref a)) (.cons rfl .nil) hsp) ?_
  intro r s' hq
  match r, hq with
  | .error e, hq => exact hq.elim
  | .ok .next, hq => exact hq.elim
  | .ok .brk, hq => exact hq.elim
  | .ok .cont, hq => exact hq.elim
  | .ok (.ret u), hq =>
    obtain ⟨v, H', os, bare, un, ok', rv, q⟩ := hq
    have q : v = .bl true := q
    subst q
    obtain rfl : u = Value.bool true := rv
    have nof : ∀ b : Addr, b ∉ frs [] := fun b m => absurd (show b ∈ ([] : List Addr) from m) (by simp)
    have stay : ∀ b o, b ∉ cs.map (·.2) → s1.heap.get? b = some o → s'.heap.get? b = some o := by
      intro b o nb e
      cases z : H b with
      | none => exact un.keep b o e z (nof b) (by simp)
      | some u =>
        rcases S.only b u z with ⟨m, _⟩ | ⟨_, _, ob, xs, rfl⟩
        · exact absurd m nb
        · have z2 := un.frzs b ob _ z
          have e1 := (S.ok b _ z).1
          have e2 := (ok' b _ z2).1
          rw [e1] at e
          exact Option.some.inj e ▸ e2
    have grow : ∀ p ∈ cs, ∃ more : Array Value, s'.heap.get? p.2 = some { cls := .none, data := .fields more } := by
      intro p hp
      obtain ⟨more, z⟩ := un.tbls p.2 #[] (S.tab p hp)
      exact ⟨_, ok' p.2 _ z⟩
    refine ⟨rfl, ⟨fun b o e => ?_, fun b o e => ?_⟩, os, bare⟩
    · by_cases hb : b ∈ cs.map (·.2)
      · obtain ⟨p, hp, ep⟩ := List.mem_map.mp hb
        obtain ⟨more, hm⟩ := grow p hp
        subst ep
        have eo : o = emptyTab := by
          rw [hT p hp] at e
          exact (Option.some.inj e).symm
        subst eo
        exact .inr (.inl ⟨((C p hp).tab (hT p hp)).isCodeTable, rfl, #[], more, rfl, by rw [Array.empty_append]; exact hm⟩)
      · exact .inl (stay b o hb e)
    · by_cases hb : b ∈ cs.map (·.2)
      · obtain ⟨p, hp, ep⟩ := List.mem_map.mp hb
        obtain ⟨more, hm⟩ := grow p hp
        exact ⟨_, ep ▸ hm⟩
      · exact ⟨o, stay b o hb e⟩
theorem law_callG (KX : K.In s1.heap) (hns : s1.heap.Ns mainGlobals mg) (hb : s1.heap.Ns builtinsNs mb) (hbb : ∀ x : Str, x ≠ "__name__" → mb x = bootBuiltins x) (hlim : s1.heap.NoLimit) (hg : s1.gens = #[])
    (hT : ∀ p ∈ cs, s1.heap.get? p.2 = some emptyTab) (nT : ∀ p ∈ cs, K.lookup p.2 = none) (C : ∀ p ∈ cs, PySem.W.CodeHd s1.heap p.1 p.2)
    (hbm : ∃ (bm : Addr) (ob : Obj), mg "__builtins__" = some (.ref bm) ∧ bm ≠ builtinsNs ∧ s1.heap.get? bm = some ob ∧ ob.cls = .type "module" ∧ ob.dict = some builtinsNs ∧ ob.data = .plain)
    (ha : s1.heap.get? a = some { cls := .type "list", data := .seq vs.toArray }) (hi : IntsAre vs ns) (hl : ns.length ≤ sizeLine) (hr : Room k callerA)
    (F : ∀ base : Heap, K.In base → base.Ns mainGlobals mg → (∀ p ∈ cs, TabB base mg p.1 p.2) → FnG P w K mg base k fa fd [x] sp) (bind1 : ∀ (s : Shared) (u : Value), BindsTo s fd ⟨[u], []⟩ [(x, u)])
    (hsp : ∀ H : Hp, (∀ p ∈ cs, H p.2 = some (.tbl #[])) → SqL K H a (ns.map V.int) → sp [.ref a] H (fun v _ => v = .bl true) fun _ _ _ => False) :
    codeAny (model P w) callerA (.call (.ref fa) ⟨[.ref a], []⟩) (fun r s' => r = .ok (.ret (.bool true)) ∧ OldK s1.heap s'.heap ∧ s'.os = s1.os ∧ AllBare s'.gens) s1 := by
  have rel := vals_ints hi
  have lenV := hi.length
  have aT : a ∉ cs.map (·.2) := by
    intro m
    have z := tab_at hT m
    rw [ha] at z
    cases z
  have mem : ∀ p ∈ cs, p.2 ∈ cs.map (·.2) := fun p hp => List.mem_map.mpr ⟨p, hp, rfl⟩
  by_cases hk : K.lookup a = none
  · let H0 : Hp := fun b => if b = a then some (.frz { cls := .type "list", data := .seq vs.toArray } (.lst (ns.map V.int))) else if b ∈ cs.map (·.2) then some (.tbl #[]) else none
    have atA : H0 a = some (.frz { cls := .type "list", data := .seq vs.toArray } (.lst (ns.map V.int))) := if_pos rfl
    have atT : ∀ p ∈ cs, H0 p.2 = some (.tbl #[]) := fun p hp => (if_neg (show ¬ p.2 = a from fun e => aT (e ▸ mem p hp))).trans (if_pos (mem p hp))
    have S : Still P w K cs a s1.heap H0 := by
      refine ⟨atT, fun b u e => ?_, fun b u e => ?_⟩
      · by_cases q : b = a
        · subst q
          rw [atA] at e
          exact .inr ⟨rfl, hk, _, _, (Option.some.inj e).symm⟩
        · have e2 : H0 b = if b ∈ cs.map (·.2) then some (.tbl #[]) else none := if_neg q
          rw [e2] at e
          by_cases m : b ∈ cs.map (·.2)
          · rw [if_pos m] at e
            exact .inl ⟨m, (Option.some.inj e).symm⟩
          · rw [if_neg m] at e
            cases e
      · by_cases q : b = a
        · subst q
          rw [atA] at e
          obtain rfl := Option.some.inj e
          exact ⟨ha, by rw [List.length_map]; exact hl, vs, _, rel, ha⟩
        · have e2 : H0 b = if b ∈ cs.map (·.2) then some (.tbl #[]) else none := if_neg q
          rw [e2] at e
          by_cases m : b ∈ cs.map (·.2)
          · rw [if_pos m] at e
            obtain rfl := Option.some.inj e
            exact tab_at hT m
          · rw [if_neg m] at e
            cases e
    have hS : SqL K H0 a (ns.map V.int) := .inl (.inr ⟨_, atA⟩)
    exact still_call S KX hns hb hbb hlim hg hT nT C hbm ha hr hS F bind1 (hsp H0 atT hS)
  · obtain ⟨o, ho⟩ := Option.ne_none_iff_exists'.mp hk
    have eo := KX a o ho
    rw [ha] at eo
    obtain rfl := Option.some.inj eo
    let H0 : Hp := fun b => if b ∈ cs.map (·.2) then some (.tbl #[]) else none
    have atT : ∀ p ∈ cs, H0 p.2 = some (.tbl #[]) := fun p hp => if_pos (mem p hp)
    have S : Still P w K cs a s1.heap H0 := by
      refine ⟨atT, fun b u e => ?_, fun b u e => ?_⟩
      · by_cases m : b ∈ cs.map (·.2)
        · rw [show H0 b = some (.tbl #[]) from if_pos m] at e
          exact .inl ⟨m, (Option.some.inj e).symm⟩
        · rw [show H0 b = none from if_neg m] at e
          cases e
      · by_cases m : b ∈ cs.map (·.2)
        · rw [show H0 b = some (.tbl #[]) from if_pos m] at e
          obtain rfl := Option.some.inj e
          exact tab_at hT m
        · rw [show H0 b = none from if_neg m] at e
          cases e
    have hS : SqL K H0 a (ns.map V.int) := .inr ⟨_, vs.toArray, _, ho, rfl, rfl, rfl, by rw [List.size_toArray, lenV]; exact hl, by simpa using rel⟩
    exact still_call S KX hns hb hbb hlim hg hT nT C hbm ha hr hS F bind1 (hsp H0 atT hS)
end
/-- what the head's heap tells of the law -/
def LawG (l : PySem.W.OpenLaw) (w : World) (K : PySem.W.Frag) (k n : Nat) (x : Str) (mg : Str → Option Value) (fa : Addr) (h : Heap) : Prop :=
  ∃ (fd : FuncData) (cs : List (Addr × Addr)) (sp : Sp), (∀ p ∈ cs, h.get? p.2 = some emptyTab) ∧ (∀ p ∈ cs, K.lookup p.2 = none) ∧ (∀ p ∈ cs, PySem.W.CodeHd h p.1 p.2) ∧ (∀ (s : Shared) (u : Value), BindsTo s fd ⟨[u], []⟩ [(x, u)]) ∧
    (∀ (H : Hp) (a : Addr) (ns : List Int), ns.length ≤ n → (∀ z ∈ ns, Builtin.Int.intBits z ≤ 1048576) → (∀ p ∈ cs, H p.2 = some (.tbl #[])) → SqL K H a (ns.map V.int) → sp [.ref a] H (fun v _ => v = .bl true) fun _ _ _ => False) ∧
    ∀ base : Heap, K.In base → base.Ns mainGlobals mg → (∀ p ∈ cs, TabB base mg p.1 p.2) → FnG l.prog w K mg base k fa fd [x] sp
theorem walkG {l : PySem.W.OpenLaw} {n k : Nat} {q : Program} {loose : List Str} {XP : (Str → Option Value) → Heap → Prop} {YP : World → Heap → Prop} {d : DefRec} {K : Params → PySem.W.Frag} {x : Str}
    (hn : l.most = some n) (hn2 : n ≤ sizeLine) (hdf : d.params.defaults = []) (hr : Room k callerA) (hY : ∀ (w : World) (h : Heap), YP w h → (K w.params).In h)
    (F : ∀ (w : World) (mg : Str → Option Value) (fa : Addr) (h : Heap), YP w h → (K w.params).In h → h.Ns mainGlobals mg → mg d.name = some (.ref fa) → LawG l w (K w.params) k n x mg fa h) :
    PySem.W.WalkO q loose XP YP l.row.toRowW d [] (fun f vs => PySem.call f vs) := by
  apply Att.attach_callB hn hdf
  intro w s0 s1 mg mb fa o pm cd doc a vs ns G Y ho hd hcd hmg hobj hints hlen hbits hg
  have KX := hY w _ Y
  obtain ⟨fd, cs, sp, hT, nT, C, hb, hsp, hF⟩ := F w mg fa _ Y KX G.T.g hmg
  exact law_callG KX G.T.g G.T.b G.T.builtins G.T.nolimit hg hT nT C G.T.bmain hobj hints (Nat.le_trans hlen hn2) hr hF hb fun H hH hS => hsp H a ns hlen hbits hH hS
end My
end
section
set_option Elab.async false
set_option linter.all false
set_option maxRecDepth 100000
set_option maxHeartbeats 4000000
/-! B12: pairs for dict(..); the law's own def. -/
namespace My
open PySem PySem.Spec PyProof.Rows L2
theorem pairs_refs {α : Type} {K : PySem.W.Frag} {H : Hp} {key : α → Key} {val : α → V} : ∀ {l : List α} {ys : List V}, Paired (fun a y => ∃ q, y = V.ref q ∧ H q = some (.tup [kV (key a), val a])) l ys →
    ∃ qs : List Addr, ys = qs.map V.ref ∧ Paired (fun p kv => SqT K H p [kV kv.1, kv.2]) qs (l.map fun a => (key a, val a))
  | _, _, .nil => ⟨[], rfl, .nil⟩
  | _, _, .cons ⟨q, e, h⟩ t => by
    obtain ⟨qs, e2, p⟩ := pairs_refs (K := K) t
    exact ⟨q :: qs, by rw [e, e2]; rfl, .cons (SqT.of h) p⟩
def forBody : Stmt → List Stmt
  | .For _ _ b _ _ => b
  | _ => []
def nth (l : List Stmt) (i : Nat) : Stmt := l.getD i (.Pass ⟨0, 0, 0, 0⟩)
section
variable {P : Program} {w : World} {K : PySem.W.Frag} {mg : Str → Option Value} {base : Heap}
/-- a def by its body and its code object, where no repr is under way -/
theorem okGc {x qual : Str} {st : Stmt} {f : Addr} {oc kV doc pm cdv ct : Value} {od an : Option Addr} {osl : Array (Option Value)} {N ps : List Str} {k : Nat} {sp : Sp} (lk : K.lookup f = some ⟨oc, od, .func (PySem.W.fnOf x qual (defArgs st) (defBody st) (defScope st) .none kV doc pm an cdv ct), osl⟩) (hcd : PySem.W.codeIn K cdv qual = true)
    (S : FnScope N ps (defScope st)) (size : ∀ vs H Q E, sp vs H Q E → vs.length = ps.length)
    (body : ∀ (A : Around) (o : List Env) (s : Shared) (H : Hp) (vs : List V) (Q : VK) (E : XK), (A.deeper (envOfC qual (defScope st) s.heap.objs.size f cdv)).guards = some [] → Room k (A.deeper (envOfC qual (defScope st) s.heap.objs.size f cdv)) → sp vs H Q E →
      ∃ t, PSs (cxOf CX0 P w K mg base N qual (defScope st) f cdv A o s H E).nox (defBody st) t ∧ t { nx := fun _ H' => Q .non H', rt := Q } (L2.start N vs) H) :
    FnG P w K mg base (k + 1) f (PySem.W.fnOf x qual (defArgs st) (defBody st) (defScope st) .none kV doc pm an cdv ct) ps sp := by
  constructor
  · exact size
  intro A o s H args us vs Q E g room e0 bd rel want
  have hlen := size _ _ _ _ want
  have kin := e0.mod.kin.keeps fun b ob z => (e0.bs b ob z).1
  have nolim := e0.mod.nolimit.keeps fun b ob z => (e0.bs b ob z).1
  have kinds : ∀ y ∈ ps.zip us, (defScope st).names.lookup y.1 = some .local ∨ ((defScope st).names.lookup y.1 = some .cell ∧ ((cellsFrom (s.heap.objs.size + 1) (defScope st).names []).lookup y.1).isSome = true) := by
    intro y hy
    obtain ⟨n, v⟩ := y
    cases S.par n (List.of_mem_zip hy).1 with
    | inl z => exact Or.inl z
    | inr z => exact Or.inr ⟨z, PySem.W.cellsFrom_some _ _ _ (Or.inl z)⟩
  apply codeAny_call_function room.depth (kin _ _ lk) rfl S.co S.gen rfl (PySem.W.codeRec_of kin hcd)
  apply bd
  apply wpAny_newFunctionEnv_cells S.kind kinds
  intro env henv s1 x
  subst henv
  constructor
  · exact nolim.keeps x.toInCall.keep
  apply codeAny_func
  obtain ⟨t, der, rd⟩ := body A o s H vs Q E (guards_deeper g) (room.deeper _) want
  have J : Inv (cxOf CX0 P w K mg base N qual (defScope st) f cdv A o s H E) [] (L2.start N vs) H s1 := inv_start S room.hd e0 hlen rel x
  apply wpAny_mono (der.nox.run [] s1 (L2.start N vs) H _ J rd)
  · intro fl s' hs
    cases fl with
    | ret u =>
      obtain ⟨v, σ', H', J', rv, q⟩ := hs
      exact ⟨v, H', J'.os, J'.bare, J'.base, J'.hok, rv, q⟩
    | next =>
      obtain ⟨σ', H', J', q⟩ := hs
      exact ⟨V.non, H', J'.os, J'.bare, J'.base, J'.hok, rfl, q⟩
    | brk => exact hs.choose_spec.choose_spec.2.elim
    | cont => exact hs.choose_spec.choose_spec.2.elim
  · intro e s' hs
    exact hs
end
end My
end
section
set_option Elab.async false
set_option linter.all false
set_option maxRecDepth 100000
set_option maxHeartbeats 4000000
/-! B24: dicts from texts to numbers; a walk with any body. -/
namespace My
open PySem PySem.Spec PyProof.Rows L2
/-- a walk over a loop whose body is told by what it may go on with -/
theorem lcw {J : It} {n : Nat} {G : Hp → Prop} {Y : Nat → Hp → V → Hp → Prop} (w : Walk J n G Y) {B : (Hp → Prop) → V → Hp → Prop} {H1 : Hp} {Qd : Hp → Prop} (Pv : Nat → Hp → Prop) (h0 : Pv 0 H1) (hG : ∀ i H, i ≤ n → Pv i H → G H)
    (hs : ∀ i x H H', i < n → Pv i H → Y i H x H' → B (Pv (i + 1)) x H') (hd : ∀ H, Pv n H → Qd H) :
    ∃ W : Nat → Nat → Hp → Prop, (∃ m, W 0 m H1) ∧ ∀ i m H, W i m H →
      (J.stop i H ∧ Qd H) ∨ (J.go i H ∧ ∃ Nx : Hp → Prop, (∀ H', Nx H' → ∃ m', m' < m ∧ W (i + 1) m' H') ∧ ∀ x H', J.yld i H x H' → B Nx x H') := by
  refine ⟨fun i m H => m = n - i ∧ i ≤ n ∧ Pv i H, ⟨n, by simp, Nat.zero_le _, h0⟩, ?_⟩
  rintro i m H ⟨rfl, hi, p⟩
  have q := hG i H hi p
  by_cases hlt : i < n
  · exact .inr ⟨w.goes i H hlt q, Pv (i + 1), fun H' p' => ⟨n - (i + 1), by omega, rfl, hlt, p'⟩, fun x H' y => hs i x H H' hlt p (w.yields i H x H' hlt q y)⟩
  · have e : i = n := by omega
    subst e
    exact .inl ⟨w.stops H q, hd H p⟩
/-! ### dicts from texts to numbers -/
def toS (h : List (Str × Int)) : List (Key × V) := h.map fun e => (Sum.inr e.1, .int e.2)
def ctK (h : List (Str × Int)) (a : Str) : Option Int := (h.find? fun e => decide (e.1 = a)).map (·.2)
theorem keyT_inj {a b : Str} : (Sum.inr a : Key) = Sum.inr b ↔ a = b := ⟨fun z => Sum.inr.inj z, fun z => by rw [z]⟩
theorem ctK_pos {e : Str × Int} {h : List (Str × Int)} {a : Str} (q : e.1 = a) : ctK (e :: h) a = some e.2 := by simp [ctK, q]
theorem ctK_neg {e : Str × Int} {h : List (Str × Int)} {a : Str} (q : ¬ e.1 = a) : ctK (e :: h) a = ctK h a := by simp [ctK, q]
theorem valV_toS (h : List (Str × Int)) (a : Str) : valV (toS h) (Sum.inr a : Key) = (ctK h a).map V.int := by
  induction h with
  | nil => rfl
  | cons e h ih =>
    by_cases q : e.1 = a
    · have e1 : valV (toS (e :: h)) (Sum.inr a : Key) = some (.int e.2) := valV_pos (keyT_inj.mpr q)
      rw [e1, ctK_pos q]
      rfl
    · have e1 : valV (toS (e :: h)) (Sum.inr a : Key) = valV (toS h) (Sum.inr a : Key) := valV_neg (fun z => q (keyT_inj.mp z))
      rw [e1, ih, ctK_neg q]
theorem dget_toS {H : Hp} {p : Addr} {h : List (Str × Int)} (a : Str) (e : H p = some (.dK (toS h))) : DGet H p (.str a) ((ctK h a).map V.int) := by
  rw [← valV_toS]
  exact DGet.k (k := Sum.inr a) e
theorem dget_frzK {H : Hp} {p : Addr} {o : Obj} {h : List (Str × Int)} (a : Str) (e : H p = some (.frz o (.dK (toS h)))) : DGet H p (.str a) ((ctK h a).map V.int) := by
  rw [← valV_toS]
  exact .inl ⟨toS h, Sum.inr a, .inr ⟨o, e⟩, rfl, rfl⟩
theorem toS_keys (h : List (Str × Int)) : (toS h).map (·.1) = (h.map (·.1)).map Sum.inr := by
  unfold toS
  rw [List.map_map, List.map_map]
  rfl
theorem toS_ks (h : List (Str × Int)) : (toS h).map (fun e => kV e.1) = (h.map (·.1)).map V.str := by
  unfold toS
  rw [List.map_map, List.map_map]
  rfl
theorem toS_nodup {h : List (Str × Int)} (nd : (h.map (·.1)).Nodup) : ((toS h).map (·.1)).Nodup := by
  rw [toS_keys]
  exact nodup_map (fun _ _ e => keyT_inj.mp e) nd
/-- a count set -/
def putT (cs : List (Str × Int)) (a : Str) (v : Int) : List (Str × Int) := if a ∈ cs.map (·.1) then cs.map fun e => if e.1 = a then (e.1, v) else e else cs ++ [(a, v)]
theorem putK_toS (cs : List (Str × Int)) (a : Str) (v : Int) : putK (toS cs) (Sum.inr a : Key) (.int v) = toS (putT cs a v) := by
  unfold putT
  by_cases h : a ∈ cs.map (·.1)
  · rw [if_pos h]
    unfold putK
    have e : ((toS cs).any fun kv => decide (kv.1 = (Sum.inr a : Key))) = true := by
      rw [List.any_eq_true]
      obtain ⟨x, hx, ex⟩ := List.mem_map.mp h
      exact ⟨(Sum.inr x.1, .int x.2), List.mem_map.mpr ⟨x, hx, rfl⟩, decide_eq_true (keyT_inj.mpr ex)⟩
    rw [if_pos e]
    unfold toS
    rw [List.map_map, List.map_map]
    apply List.map_congr_left
    intro x _
    show (if (Sum.inr x.1 : Key) = Sum.inr a then ((Sum.inr x.1 : Key), V.int v) else (Sum.inr x.1, .int x.2)) = _
    by_cases q : x.1 = a
    · rw [if_pos (keyT_inj.mpr q)]
      simp [q]
    · rw [if_neg (fun z => q (keyT_inj.mp z))]
      simp [q]
  · rw [if_neg h, putK_new]
    · simp [toS]
    · rw [toS_keys]
      intro m
      obtain ⟨x, hx, ex⟩ := List.mem_map.mp m
      exact h (keyT_inj.mp ex ▸ hx)
theorem dput_toS {H : Hp} {d : Addr} {cs : List (Str × Int)} {a : Str} {v : Int} (e : H d = some (.dK (toS cs))) (l : cs.length < sizeLine) : DPut H d (.str a) (.int v) (upd H d (.dK (toS (putT cs a v)))) := by
  rw [← putK_toS]
  exact DPut.k (k := Sum.inr a) e (by simpa [toS] using l)
theorem putT_new {cs : List (Str × Int)} {a : Str} {v : Int} (h : a ∉ cs.map (·.1)) : putT cs a v = cs ++ [(a, v)] := by unfold putT; rw [if_neg h]
theorem putT_len (cs : List (Str × Int)) (a : Str) (v : Int) : (putT cs a v).length ≤ cs.length + 1 := by
  unfold putT
  split
  · rw [List.length_map]; omega
  · rw [List.length_append]; exact Nat.le_refl _
theorem putT_mem {cs : List (Str × Int)} {a : Str} {v : Int} {e : Str × Int} (h : e ∈ putT cs a v) : e ∈ cs ∨ e = (a, v) := by
  unfold putT at h
  split at h
  · obtain ⟨x, hx, rfl⟩ := List.mem_map.mp h
    by_cases q : x.1 = a
    · rw [if_pos q, q]; exact .inr rfl
    · rw [if_neg q]; exact .inl hx
  · rcases List.mem_append.mp h with h | h
    · exact .inl h
    · exact .inr (List.mem_singleton.mp h)
/-- a count is one of the values -/
theorem ctK_mem {cs : List (Str × Int)} {a : Str} {v : Int} (h : ctK cs a = some v) : (a, v) ∈ cs := by
  unfold ctK at h
  obtain ⟨e, he, ev⟩ := Option.map_eq_some_iff.mp h
  have h1 := List.mem_of_find?_eq_some he
  have h2 : e.1 = a := by simpa using List.find?_some he
  obtain ⟨x, y⟩ := e
  cases h2
  cases ev
  exact h1
theorem ctK_none {cs : List (Str × Int)} {a : Str} (h : a ∉ cs.map (·.1)) : ctK cs a = none := by
  cases e : ctK cs a with
  | none => rfl
  | some v => exact absurd (List.mem_map.mpr ⟨_, ctK_mem e, rfl⟩) h
theorem ctK_nd {cs : List (Str × Int)} {a : Str} {v : Int} (nd : (cs.map (·.1)).Nodup) (h : (a, v) ∈ cs) : ctK cs a = some v := by
  induction cs with
  | nil => cases h
  | cons e cs ih =>
    rw [List.map_cons, List.nodup_cons] at nd
    rcases List.mem_cons.mp h with rfl | h
    · exact ctK_pos rfl
    · have ne : e.1 ≠ a := fun z => nd.1 (by rw [z]; exact List.mem_map.mpr ⟨_, h, rfl⟩)
      rw [ctK_neg ne, ih nd.2 h]
theorem ctK_perm {cs ds : List (Str × Int)} (nd : (cs.map (·.1)).Nodup) (p : ds.Perm cs) (a : Str) : ctK ds a = ctK cs a := by
  have nd2 : (ds.map (·.1)).Nodup := (p.map _).nodup_iff.mpr nd
  cases e : ctK cs a with
  | some v => exact ctK_nd nd2 (p.mem_iff.mpr (ctK_mem e))
  | none =>
    cases e2 : ctK ds a with
    | none => rfl
    | some v =>
      rw [ctK_nd nd (p.mem_iff.mp (ctK_mem e2))] at e
      cases e
/-- the counts above 0, in the order of these kinds -/
def ordC (l : List Str) (f : Str → Int) : List (Str × Int) := (l.filter fun k => decide (0 < f k)).map fun k => (k, f k)
theorem ordC_keys (l : List Str) (f : Str → Int) : (ordC l f).map (·.1) = l.filter fun k => decide (0 < f k) := by
  unfold ordC
  rw [List.map_map]
  exact List.map_id _
theorem ordC_nd {l : List Str} (f : Str → Int) (nd : l.Nodup) : ((ordC l f).map (·.1)).Nodup := by
  rw [ordC_keys]
  exact nd.sublist List.filter_sublist
theorem ordC_mem {l : List Str} {f : Str → Int} {e : Str × Int} : e ∈ ordC l f ↔ e.1 ∈ l ∧ 0 < f e.1 ∧ e.2 = f e.1 := by
  unfold ordC
  rw [List.mem_map]
  constructor
  · rintro ⟨k, hk, rfl⟩
    obtain ⟨h1, h2⟩ := List.mem_filter.mp hk
    exact ⟨h1, of_decide_eq_true h2, rfl⟩
  · rintro ⟨h1, h2, h3⟩
    exact ⟨e.1, List.mem_filter.mpr ⟨h1, decide_eq_true h2⟩, by rw [← h3]⟩
theorem ordC_ct {l : List Str} {f : Str → Int} (nd : l.Nodup) {k : Str} (h : k ∈ l) : ctK (ordC l f) k = if 0 < f k then some (f k) else none := by
  by_cases q : 0 < f k
  · rw [if_pos q]
    exact ctK_nd (ordC_nd f nd) (ordC_mem.mpr ⟨h, q, rfl⟩)
  · rw [if_neg q]
    refine ctK_none fun m => ?_
    obtain ⟨e, he, rfl⟩ := List.mem_map.mp m
    exact q (ordC_mem.mp he).2.1
end My
end
section
set_option Elab.async false
set_option linter.all false
set_option maxRecDepth 100000
set_option maxHeartbeats 4000000
namespace My
open PySem PySem.Spec PyProof.Rows L2
theorem idx_nodup {l : List Nat} (nd : l.Nodup) {c k : Nat} (h : l[k]? = some c) : l.idxOf c = k := by
  refine idx_first h fun j hj hjc => ?_
  obtain ⟨hk, ek⟩ := List.getElem?_eq_some_iff.mp h
  obtain ⟨hj2, ej⟩ := List.getElem?_eq_some_iff.mp hjc
  exact List.pairwise_iff_getElem.mp nd j k hj2 hk hj (ej.trans ek.symm)
theorem at_idx {l : List Nat} {c : Nat} (h : c ∈ l) : l[l.idxOf c]? = some c := by
  rw [List.getElem?_eq_getElem (List.idxOf_lt_length_of_mem h)]
  exact congrArg some (List.getElem_idxOf _)
section
variable {S : Str}
theorem order_nodup (nd : S.cps.toList.Nodup) (no : 45 ∉ S.cps.toList) : (S.cps.toList ++ [45]).Nodup := by
  rw [List.nodup_append]
  refine ⟨nd, by simp, fun a ha b hb e => ?_⟩
  have : b = 45 := by simpa using hb
  rw [← e] at this
  exact no (this ▸ ha)
theorem kinds_mem {e : Nat × Nat} : ∀ {n : Nat}, e ∈ kindsTo S n → ∃ i, i < n ∧ e ∈ kindsAt S i
  | 0, h => by cases h
  | n + 1, h => by
    rcases List.mem_append.mp (show e ∈ kindsTo S n ++ kindsAt S n from h) with h | h
    · obtain ⟨i, hi, he⟩ := kinds_mem h
      exact ⟨i, by omega, he⟩
    · exact ⟨n, by omega, h⟩
/-- a kind as it is kept: what is known of its sides -/
structure KindOk (S : Str) (a c : Nat) : Prop where
  am : a ∈ S.cps.toList
  cm : c = 45 ∨ c ∈ S.cps.toList
  le : sideAt S a ≤ sideAt S c
theorem kind_ok (nd : S.cps.toList.Nodup) (no : 45 ∉ S.cps.toList) {e : Nat × Nat} (h : e ∈ kindsTo S S.length) : KindOk S e.1 e.2 := by
  have zl : S.cps.toList.length = S.length := Array.length_toList
  obtain ⟨i, hi, he⟩ := kinds_mem h
  unfold kindsAt at he
  obtain ⟨c, hc, rfl⟩ := List.mem_map.mp he
  obtain ⟨a, ha⟩ : ∃ a, S.cps.toList[i]? = some a := ⟨S.cps.toList[i]'(by omega), by simp [show i < S.cps.toList.length by omega]⟩
  have ea : (S.cps.toList[i]?).getD 0 = a := by rw [ha]; rfl
  have od := order_nodup nd no
  have sa : sideAt S a = i := idx_nodup od (by rw [List.getElem?_append_left (by omega)]; exact ha)
  show KindOk S ((S.cps.toList[i]?).getD 0) c
  rw [ea]
  rcases List.mem_append.mp hc with hc | hc
  · obtain ⟨j, hj⟩ := List.mem_iff_getElem?.mp hc
    rw [List.getElem?_drop] at hj
    have hlt : i + j < S.cps.toList.length := (List.getElem?_eq_some_iff.mp hj).1
    have sc : sideAt S c = i + j := idx_nodup od (by rw [List.getElem?_append_left hlt]; exact hj)
    exact ⟨List.mem_of_getElem? ha, .inr (List.mem_of_mem_drop hc), by rw [sa, sc]; omega⟩
  · have e45 : c = 45 := by simpa using hc
    have sc : sideAt S c = S.cps.toList.length := idx_nodup od (by rw [e45, List.getElem?_append_right (Nat.le_refl _), Nat.sub_self]; rfl)
    exact ⟨List.mem_of_getElem? ha, .inl e45, by rw [sa, sc]; omega⟩
theorem side_of {c : Nat} (h : c = 45 ∨ c ∈ S.cps.toList) : sideB S c = true := by
  unfold sideB
  rcases h with h | h
  · rw [decide_eq_true h]; rfl
  · rw [decide_eq_true h, Bool.or_true]
theorem kind_yes (no : 45 ∉ S.cps.toList) {x y a : Nat} (hx : sideB S x = true) (hy : sideB S y = true) (ha : a ∈ S.cps.toList) (h : x = a ∨ y = a) : kindD S (.str (mkS [x, y])) = true := by
  show (decide ((mkS [x, y]).length = 2) && !decide (mkS [x, y] = (⟨#[45, 45]⟩ : Str)) && [x, y].all (sideB S)) = true
  have ne : mkS [x, y] ≠ (⟨#[45, 45]⟩ : Str) := fun z => by
    have e := congrArg (fun q : Str => q.cps.toList) z
    have e : [x, y] = [45, 45] := by simpa using e
    simp at e
    rcases h with h | h
    · exact no (by rw [← e.1, h]; exact ha)
    · exact no (by rw [← e.2, h]; exact ha)
  rw [show (mkS [x, y]).length = 2 from mkS_len [x, y], decide_eq_false ne]
  simp [hx, hy]
theorem kept_first {a c : Nat} (k : KindOk S a c) : keptK S a c = mkS [a, c] := by
  unfold keptK
  rw [if_neg (Nat.not_lt.mpr k.le)]
theorem kept_turned {a c : Nat} (k : KindOk S a c) : keptK S c a = mkS [a, c] := by
  unfold keptK
  by_cases h : sideAt S a < sideAt S c
  · rw [if_pos h]
  · rw [if_neg h]
    have e : sideAt S a = sideAt S c := by have := k.le; omega
    have m1 : a ∈ S.cps.toList ++ [45] := List.mem_append_left _ k.am
    have m2 : c ∈ S.cps.toList ++ [45] := side_mem (side_of k.cm)
    have g1 : (S.cps.toList ++ [45])[sideAt S a]? = some a := at_idx m1
    have g2 : (S.cps.toList ++ [45])[sideAt S c]? = some c := at_idx m2
    rw [e, g2] at g1
    rw [Option.some.inj g1]
end
theorem no_dash {m : Nat} {S : Str} {ps : List (Nat × Nat)} (g : Good m S ps) : 45 ∉ S.cps.toList := fun h => by
  have := g.ab 45 h
  revert this
  decide +kernel
end My
end
section
set_option Elab.async false
set_option linter.all false
set_option maxRecDepth 100000
set_option maxHeartbeats 4000000
/-! B22: enumerate over a text. -/
namespace My
open PySem PySem.Spec PyProof.Rows L2
/-- the signs of a text, each with its place in a new pair -/
def Ites (z : Str) : It := ⟨fun i _ => i < z.cps.size, fun i H v H' => ∃ T c, v = .ref T ∧ H T = none ∧ H' = upd H T (.tup [.int (i : Nat), .str ⟨#[c]⟩]) ∧ z.cps[i]? = some c, fun i _ => i = z.cps.size⟩
theorem turn_enumS {P : Program} {w : World} {K : PySem.W.Frag} {elts : List Expr} {kk : Nat} {tpos : Pos} (e it : Addr) (z : Str) (t : Tok) :
    Turn P w K (.Tuple elts kk tpos) (Ites z) [e, it] e (fun i h => (∃ old, IsEnum h e it ((i : Nat) : Int) old) ∧ h.IsStrIter it (strIterType z) z t i ∧ e ≠ it) where
  mem := by simp
  obj := fun i h st b hb => by
    obtain ⟨⟨old, he⟩, ⟨o, ho, hc, hd⟩, _⟩ := st
    have e' : b = e ∨ b = it := by simpa using hb
    rcases e' with q | q
    · rw [q]; exact ⟨_, he, fun v q => nomatch q⟩
    · rw [q]; exact ⟨o, ho, fun v q => by rw [hd] at q; cases q⟩
  keep := fun i h h' st k => by
    obtain ⟨⟨old, he⟩, ⟨o, ho, r⟩, hne⟩ := st
    exact ⟨⟨old, k e (by simp) _ he⟩, ⟨o, k it (by simp) o ho, r⟩, hne⟩
  item := by
    intro X hP hw hK hc i pins s σ H E I hf st hg
    subst hP hw hK
    obtain ⟨⟨old, he⟩, hit, hne⟩ := st
    have D := Draws.text (prog := X.prog) (w := X.w) (A := X.A.in1) (I.ok.hd hc) it z t
    have hel : e < s.heap.objs.size := Heap.lt_size he
    have hil : it < s.heap.objs.size := by obtain ⟨_, q, _⟩ := hit; exact Heap.lt_size q
    refine wpAny_pyNext_enum_itemC D he hit hg hne (by simpa using hne) fun x h' tk hPx ho hit' hT hsz hk => ?_
    obtain ⟨c, u, hcx, rfl⟩ := hPx
    refine ⟨_, rfl, wpAny_letOwnedTupleGo_enum (s := { s with heap := h', toks := tk + 1 }) ho fun h'' he' sb => ?_⟩
    have hT2 : h''.get? s.heap.objs.size = some { cls := .type "tuple", data := .seq #[.int i tk, .str ⟨#[c]⟩ u] } := (sb.2 _ (Nat.ne_of_gt hel)).trans hT
    have new : ObjOk X.prog X.w (upd H s.heap.objs.size (.tup [.int (i : Nat), .str ⟨#[c]⟩])) h'' s.heap.objs.size (.tup [.int (i : Nat), .str ⟨#[c]⟩]) :=
      ⟨by show 2 ≤ sizeLine; decide, [.int i tk, .str ⟨#[c]⟩ u], .cons ⟨_, rfl⟩ (.cons ⟨_, rfl⟩ .nil), ⟨_, hT2, rfl, _, rfl⟩⟩
    have I1 : Inv X pins σ (upd H s.heap.objs.size (.tup [.int (i : Nat), .str ⟨#[c]⟩])) { s with heap := h'', toks := tk + 1 } :=
      I.turnedNew (ch := [e, it]) (fun b ob hb q => (sb.2 b (fun z => hb (by simp [z]))).trans (hk b ob (fun z => hb (by simp [z])) (fun z => hb (by simp [z])) q)) hf (Nat.le_refl _) new
    refine ⟨.ref s.heap.objs.size, _, I1, rfl, ⟨_, c, rfl, I.hok.fresh (Nat.le_refl _), rfl, hcx⟩, ⟨⟨.str ⟨#[c]⟩ u, ?_⟩, ?_, hne⟩, fun b hb => ?_⟩
    · have e1 : ((i + 1 : Nat) : Int) = (i : Int) + 1 := by omega
      rw [e1]; exact he'
    · obtain ⟨o, q, r⟩ := hit'
      exact ⟨o, (sb.2 it (Ne.symm hne)).trans q, r⟩
    · have hb' : b < s.heap.objs.size := by
        have e' : b = e ∨ b = it := by simpa using hb
        rcases e' with z | z
        · rw [z]; exact hel
        · rw [z]; exact hil
      rw [upd_ne (Nat.ne_of_lt hb')]
      exact (hf b hb).1
  done := by
    intro X hP hw hK hc i pins s σ H E I hf st hg
    subst hP hw hK
    obtain ⟨⟨old, he⟩, hit, hne⟩ := st
    have D := Draws.text (prog := X.prog) (w := X.w) (A := X.A.in1) (I.ok.hd hc) it z t
    have hg : i = z.cps.size := hg
    subst hg
    obtain ⟨f0, f1, f2, f3, f4, f5⟩ := hf it (by simp)
    exact wpAny_pyNext_enum_endD D he hit fun h' eb => ⟨rfl, I.turned (t' := s.toks) (fun b o hb q => eb b o hb q) f0 f1 f3 f4 f5⟩
  self := fun A i s Q E st h => let ⟨⟨_, he⟩, _⟩ := st; wpAny_pyIter_enum he h
def iEnumS (ta : TA) : TI := fun σ H R => ta σ H fun vs H1 => ∃ z, vs = [.str z] ∧ R (Ites z) H1
theorem pi_enumS {X : Cx} {e : Expr} {ta : TA} {p pos tpos : Pos} {elts : List Expr} {kk : Nat} (hg : Gl X "enumerate") (hm : X.mg "enumerate" = none) (ha : PA X [e] ta) (hs : starEach [e] X.env = [(false, eval e X.env)] := by rfl) :
    PI X (.Tuple elts kk tpos) (.Call (.Name "enumerate" p) [e] [] pos) (iEnumS ta) := by
  refine ⟨fun pins s σ H R I h => ?_⟩
  refine Call_ (ld_blt I hg hm boot_enumerate (PyProof.Rows.callWith_type1 (thn (ha.run pos pins s σ H _ I h) fun us s1 ⟨vs, H1, I1, r1, q1⟩ => ?_) hs rfl))
  obtain ⟨z, ex, q⟩ := q1
  subst ex
  cases r1 with
  | cons r rr =>
    cases rr
    obtain ⟨t, rfl⟩ := r
    refine call_enumerate_str fun h' he hit hsz hk => wpAny_pyIter_enum he ?_
    have I2 : Inv X pins σ H1 { s1 with heap := h' } := I1.kept (t' := s1.toks) hk
    refine ⟨s1.heap.objs.size + 1, [s1.heap.objs.size + 1, s1.heap.objs.size], _, _, H1, rfl, I2, turn_enumS (s1.heap.objs.size + 1) s1.heap.objs.size z t, ⟨⟨.none, he⟩, hit, Nat.succ_ne_self _⟩, fun b hb => ?_, q⟩
    have e' : b = s1.heap.objs.size + 1 ∨ b = s1.heap.objs.size := by simpa using hb
    have hle : s1.heap.objs.size ≤ b := by
      rcases e' with z | z
      · rw [z]; exact Nat.le_add_right _ _
      · rw [z]; exact Nat.le_refl _
    exact I1.fpOk hle (I1.hok.fresh hle)
theorem walk_enumS {z : Str} : Walk (Ites z) z.cps.size (fun _ => True) (fun i H v H' => ∃ T c, v = .ref T ∧ New H T (.tup [.int (i : Nat), .str ⟨#[c]⟩]) H' ∧ z.cps.toList[i]? = some c) :=
  ⟨fun _ _ hi _ => hi, fun _ _ => rfl, fun i H v H' _ _ y => by
    obtain ⟨T, c, rfl, hT, rfl, hc⟩ := y
    exact ⟨T, c, rfl, .mk' hT, by simpa using hc⟩⟩
end My
end
section
set_option Elab.async false
set_option linter.all false
set_option maxRecDepth 100000
set_option maxHeartbeats 4000000
namespace My
open PySem PySem.Spec PyProof.Rows L2
/-- the property signs of a font -/
structure SgnC (P : Program) (w : World) (K : PySem.W.Frag) (mg : Str → Option Value) (base : Heap) (C : Addr) : Prop where
  cls : Cls K C
  nS : NoAttr K C "_signs"
  ex : ∃ p g fd, PropOf K C "signs" p g ∧ FnOk P w K mg base CX0 2 g fd ["self"] (getSp C "_signs") ∧ Binds K fd ["self"] []
end My
end
section
set_option Elab.async false
set_option linter.all false
set_option maxRecDepth 100000
set_option maxHeartbeats 4000000
/-! all kinds of a font. -/
namespace My
open PySem PySem.Spec PyProof.Rows L2
abbrev s_allKinds : Stmt := topS 34
def sp_allKinds (C : Addr) : Sp := fun vs H Q _ => ∃ (a : Addr) (S : Str) (ps : List (Nat × Nat)), vs = [.ref a] ∧ FontAt H C a S ps ∧ S.length ≤ 10 ∧ 45 ∉ S.cps.toList ∧ ∀ H' r, Same H H' → H r = none → H' r = some (.lst ((kindsTo S S.length).map kindV)) → Q (.ref r) H'
/-- the kinds of one first side so far -/
def kindsUp (S : Str) (k j : Nat) : List (Nat × Nat) := ((S.cps.toList ++ [45]).drop k |>.take j).map fun c => ((S.cps.toList[k]?).getD 0, c)
theorem kindsUp_all {S : Str} {k : Nat} (h : k < S.length) : kindsUp S k (S.length + 1 - k) = kindsAt S k := by
  have hl : S.cps.toList.length = S.length := Array.length_toList
  unfold kindsUp kindsAt
  rw [List.drop_append_of_le_length (by omega), List.take_of_length_le]
  rw [List.length_append, List.length_drop]
  simp only [List.length_cons, List.length_nil]
  omega
section
variable {P : Program} {w : World} {K : PySem.W.Frag} {mg : Str → Option Value} {base : Heap}
abbrev NAk : List Str := ["font", "sides", "at", "one", "other"]
theorem sc_allKinds : FnScope NAk ["font"] (defScope s_allKinds) := ⟨rfl, rfl, rfl, by decide +kernel, rfl, by decide +kernel, by decide +kernel⟩
theorem ok_allKinds {f C : Addr} {fd : FuncData} {tB : Tok} (F : Fun K "all_kinds" "all_kinds" s_allKinds f fd) (sg_ : SgnC P w K mg base C) (ten : mg "enumerate" = none) (gB : mg "BLANK" = some (.str "-" tB)) : FnOk P w K mg base CX0 4 f fd ["font"] (sp_allKinds C) := by
  obtain ⟨p1, g1, fd1, hp1, G1, b1⟩ := sg_.ex
  refine F.ok sc_allKinds (fun vs H Q E h => ?_) (fun cdv A outer s H vs Q E hr h => ?_)
  · obtain ⟨a, S, ps, rfl, _⟩ := h
    rfl
  · obtain ⟨a, S, ps, rfl, hF, hS, no, k⟩ := h
    obtain ⟨dx, r, ys, h1, h2, h3⟩ := hF.at_
    have zl : S.cps.toList.length = S.length := Array.length_toList
    refine ⟨_, PSs.nox (pss_cons (ps_set (i := 1) sc_allKinds.nd rfl (Or.inr rfl) (pe_op op_add_str (pe_prop (E := E0) (pv 0) sg_.cls hp1 G1 hr b1 .nil pass0 rfl) (pe_glob (v := .str "-") rfl gB ⟨_, rfl⟩)))
      (pss_one (ps_ret (by exact (pe_lc2 (own := [("at", 2), ("one", 3), ("other", 4)]) (vs1 := [4]) (g := gTup K 2 (gCons (gName 2) (gCons (gName 3) gNil))) (tt := tYes) (g1 := gName 4) rfl sc_allKinds.nd (pi_enumS rfl ten (pa_cons (pv 1) pa_nil))
        (blkOk_by (own := [("at", 2), ("one", 3), ("other", 4)]) (N := NAk) (sc := defScope s_allKinds) (by decide +kernel)) (by decide)
        (fun _ _ _ _ _ => pg_tup rfl (pgs_cons (pg_name (i := 2) sc_allKinds.nd rfl (Or.inl rfl)) (pgs_cons (pg_name (i := 3) sc_allKinds.nd rfl (Or.inl rfl)) pgs_nil))) (fun _ _ _ _ _ => pts_nil)
        (fun _ _ _ _ _ => pi_str (pe_slice sl_str (pv 1) (po_some (pv 2)) po_none))
        (fun _ _ _ _ _ => pg_name (i := 4) sc_allKinds.nd rfl (Or.inl rfl)) (fun _ _ _ _ _ => pts_one (pt_cmpR op_ne (pv 3) (pe_glob (v := .str "-") rfl gB ⟨_, rfl⟩) (nomark _)))
        (fun _ _ _ _ _ => pe_op op_add_str (pv 3) (pv 4))))))), ?_⟩
    have gS : ∀ (Q : VK), Q (.str S) H → getSp C "_signs" [.ref a] H Q E0 := fun Q q => ⟨a, dx, _, _, rfl, h1, fs_signs S r, q⟩
    have l1 : (PySem.Str.ofString "-").length = 1 := by decide
    refine ⟨_, rfl, a, dx, _, rfl, h1, gS _ ⟨_, _, rfl, rfl, by rw [l1]; exact Nat.le_trans (show S.length + 1 ≤ 11 by omega) (by decide), ?_⟩⟩
    have oz : (S ++ PySem.Str.ofString "-").cps.toList = S.cps.toList ++ [45] := order_cps S
    have ol : (S ++ PySem.Str.ofString "-").cps.size = S.length + 1 := by
      rw [← Array.length_toList, oz, List.length_append, zl]; rfl
    have ol2 : (S ++ PySem.Str.ofString "-").length ≤ sizeLine := by
      show (S ++ PySem.Str.ofString "-").cps.size ≤ _
      rw [ol]
      exact Nat.le_trans (show S.length + 1 ≤ 11 by omega) (by decide)
    generalize S ++ PySem.Str.ofString "-" = O at oz ol ol2
    refine ⟨_, rfl, O, rfl, fun D hD => lcw walk_enumS (fun i H' => Same H H' ∧ H' D = some (.lst ((kindsTo S (min i S.length)).map kindV)))
      ⟨Same.wr (Same.refl H) hD .mk', by rw [upd_same, Nat.zero_min]; rfl⟩ (fun _ _ _ _ => trivial) ?_ ?_⟩
    · rintro i x Ha Hb hi ⟨sa, ha⟩ ⟨T, c, rfl, nT, hc⟩
      rw [ol] at hi
      have sb := sa.trans nT.same
      have hb := nT.same _ _ ha
      have hT : Hb T = some (.tup [.int (i : Nat), .str ⟨#[c]⟩]) := nT.here
      refine ⟨T, _, rfl, SqT.of hT, rfl, _, _, rfl, _, _, rfl, rfl, rfl, ?_⟩
      unfold tYes
      show (if true = true then _ else _)
      rw [if_pos rfl]
      refine ⟨_, rfl, _, rfl, _, rfl, O, rfl, ol2, cutS O (some ((i : Nat) : Int)) none, rfl, ?_⟩
      have cz : (cutS O (some ((i : Nat) : Int)) none).cps.toList = (S.cps.toList ++ [45]).drop i := by rw [cut_from, oz]
      have kt := kindsTo_len S hS
      have kl := kindsAt_len S hS
      have cl : (signs (cutS O (some ((i : Nat) : Int)) none)).length = S.length + 1 - i := by
        unfold signs
        rw [List.length_map, cz, List.length_drop, List.length_append, zl]
        rfl
      refine lcw walk_signs (fun j H' => Same H H' ∧ H' D = some (.lst ((kindsTo S (min i S.length) ++ (if i < S.length then kindsUp S i j else [])).map kindV))) ⟨sb, by rw [hb]; simp [kindsUp]⟩ (fun _ _ _ _ => trivial) ?_ ?_
      · rintro j x Hc Hd hj ⟨sc, hc'⟩ ⟨rfl, hx⟩
        obtain ⟨ch, hch, rfl⟩ : ∃ ch, ((S.cps.toList ++ [45]).drop i)[j]? = some ch ∧ x = sg ch := by
          unfold signs at hx
          rw [List.getElem?_map, cz] at hx
          obtain ⟨ch, h1, h2⟩ := Option.map_eq_some_iff.mp hx
          exact ⟨ch, h1, h2.symm⟩
        refine ⟨rfl, _, rfl, rfl, _, rfl, ?_⟩
        rw [oz] at hc
        have d45 := dash_sg c
        by_cases hlt : i < S.length
        · have hc2 : S.cps.toList[i]? = some c := by rw [List.getElem?_append_left (by omega)] at hc; exact hc
          have ne : c ≠ 45 := fun e => no (e ▸ List.mem_of_getElem? hc2)
          have e1 : decide (sg c = V.str (PySem.Str.ofString "-")) = false := by rw [d45]; exact decide_eq_false ne
          have e2 : (!decide (sg c = V.str (PySem.Str.ofString "-"))) = true := by rw [e1]; rfl
          refine ite2 (fun _ => ?_) (fun h => absurd e2 h)
          rw [if_pos hlt] at hc'
          refine ⟨_, rfl, _, rfl, _, _, rfl, rfl, by show 1 + 1 ≤ sizeLine; decide, _, hc', ?_, Same.wr sc hD .mk', ?_⟩
          · rw [List.length_map, List.length_append]
            have := kt (min i S.length)
            have u : (kindsUp S i j).length ≤ 11 := by
              unfold kindsUp
              rw [List.length_map, List.length_take, List.length_drop, List.length_append, zl]
              simp only [List.length_cons, List.length_nil]
              omega
            exact Nat.lt_of_le_of_lt (show _ ≤ 200 by omega) (by decide)
          · rw [upd_same, if_pos hlt]
            have nx : kindsUp S i (j + 1) = kindsUp S i j ++ [(c, ch)] := by
              unfold kindsUp
              rw [List.take_add_one, hch, List.map_append, hc2]
              rfl
            rw [nx, ← List.append_assoc, List.map_append (l₁ := kindsTo S (min i S.length) ++ kindsUp S i j)]
            rfl
        · have hi2 : i = S.length := by omega
          have hc2 : c = 45 := by
            rw [List.getElem?_append_right (by omega), zl, hi2, Nat.sub_self] at hc
            exact (Option.some.inj hc).symm
          have e2 : ¬ (!decide (sg c = V.str (PySem.Str.ofString "-"))) = true := by rw [d45, hc2]; decide
          refine ite2 (fun h => absurd h e2) (fun _ => ⟨sc, ?_⟩)
          rw [if_neg hlt] at hc' ⊢
          exact hc'
      · rintro Hc ⟨sc, hc'⟩
        refine ⟨sc, ?_⟩
        rw [hc']
        by_cases hlt : i < S.length
        · rw [if_pos hlt, cl, kindsUp_all hlt, Nat.min_eq_left (by omega), Nat.min_eq_left (by omega)]
          rfl
        · rw [if_neg hlt, Nat.min_eq_right (by omega), Nat.min_eq_right (by omega), List.append_nil]
    · rintro H' ⟨s', h'⟩
      rw [ol, Nat.min_eq_right (by omega)] at h'
      exact k H' D s' hD h'
end
end My
end
section
set_option Elab.async false
set_option linter.all false
set_option maxRecDepth 100000
set_option maxHeartbeats 4000000
namespace My
open PySem PySem.Spec PyProof.Rows L2
abbrev s_isInt : Stmt := topS 4
abbrev s_isNum : Stmt := topS 5
def intD : PyData → Bool | .int _ => true | _ => false
theorem kit_int {K : PySem.W.Frag} (d : PyData) : PySem.W.kitOne K (.type (tyName d)) (.type "int") = some (match d with | .int _ => true | .bool _ => true | _ => false) := by
  cases d
  · exact kit_ty (show kitB "NoneType" "int" = some false by decide +kernel)
  · exact kit_ty (show kitB "bool" "int" = some true by decide +kernel)
  · exact kit_ty (show kitB "int" "int" = some true by decide +kernel)
  · exact kit_ty (show kitB "str" "int" = some false by decide +kernel)
  · exact kit_ty (show kitB "list" "int" = some false by decide +kernel)
  · exact kit_ty (show kitB "tuple" "int" = some false by decide +kernel)
  · exact kit_ty (show kitB "dict" "int" = some false by decide +kernel)
theorem kit_bool {K : PySem.W.Frag} (d : PyData) : PySem.W.kitOne K (.type (tyName d)) (.type "bool") = some (match d with | .bool _ => true | _ => false) := by
  cases d
  · exact kit_ty (show kitB "NoneType" "bool" = some false by decide +kernel)
  · exact kit_ty (show kitB "bool" "bool" = some true by decide +kernel)
  · exact kit_ty (show kitB "int" "bool" = some false by decide +kernel)
  · exact kit_ty (show kitB "str" "bool" = some false by decide +kernel)
  · exact kit_ty (show kitB "list" "bool" = some false by decide +kernel)
  · exact kit_ty (show kitB "tuple" "bool" = some false by decide +kernel)
  · exact kit_ty (show kitB "dict" "bool" = some false by decide +kernel)
def sp_isInt (K : PySem.W.Frag) : Sp := fun vs H Q _ => ∃ (v : V) (d : PyData) (p : Addr), vs = [v] ∧ Rp K p H false v d ∧ Q (.bl (intD d)) H
/-- an upper bound: None, or a number -/
def upTo : Option Int → V | none => .non | some j => .int j
def below (i : Int) : Option Int → Bool | none => true | some j => decide (i ≤ j)
def numD (lo : Int) (hi : Option Int) : PyData → Bool
  | .int i => decide (lo ≤ i) && below i hi
  | _ => false
def sp_isNum (K : PySem.W.Frag) : Sp := fun vs H Q _ => ∃ (v : V) (d : PyData) (p : Addr) (lo : Int) (hi : Option Int), vs = [v, .int lo, upTo hi] ∧ Rp K p H false v d ∧ Q (.bl (numD lo hi d)) H
/-- 10 ** 30 -/
def big30 : Int := 1000000000000000000000000000000
section
variable {P : Program} {w : World} {K : PySem.W.Frag} {mg : Str → Option Value} {base : Heap}
theorem sc_isInt : FnScope ["value"] ["value"] (defScope s_isInt) := ⟨rfl, rfl, rfl, by decide +kernel, rfl, by decide +kernel, by decide +kernel⟩
theorem ok_isInt {f : Addr} {fd : FuncData} (F : Fun K "is_integer" "is_integer" s_isInt f fd) (T : TB mg) (tb : mg "bool" = none) : FnOk P w K mg base CX0 1 f fd ["value"] (sp_isInt K) := by
  refine F.ok sc_isInt (fun vs H Q E h => ?_) (fun cdv A outer s H vs Q E hr h => ?_)
  · obtain ⟨v, d, p, rfl, _⟩ := h
    rfl
  · obtain ⟨v, d, p, rfl, hd, k⟩ := h
    refine ⟨_, pss_one (ps_ret (pe_and (pe_callB call_isi (by rfl) T.isi (by decide +kernel) (pa_cons (pv 0) (pa_cons (pe_bltn (v := .ty "int") (by rfl) T.int (by decide +kernel) rfl) pa_nil)))
      (pe_one (pe_not (pe_callB call_isi (by rfl) T.isi (by decide +kernel) (pa_cons (pv 0) (pa_cons (pe_bltn (v := .ty "bool") (by rfl) tb (by decide +kernel) rfl) pa_nil))))))), ?_⟩
    refine ⟨_, rfl, _, _, _, _, _, rfl, .ty "int", hd.ty, kit_int d, _, rfl, ?_⟩
    cases d <;> first
      | exact iteF k
      | (refine iteT ?_
         exact ⟨_, rfl, _, _, _, _, _, rfl, .ty "bool", hd.ty, kit_bool _, _, rfl, k⟩)
theorem sc_isNum : FnScope ["value", "least", "greatest"] ["value", "least", "greatest"] (defScope s_isNum) := ⟨rfl, rfl, rfl, by decide +kernel, rfl, by decide +kernel, by decide +kernel⟩
theorem ok_isNum {f fI : Addr} {fd fdI : FuncData} {dvs : List V} (F : FunD K "is_number" "is_number" (defArgs s_isNum) (defBody s_isNum) (defScope s_isNum) dvs [] f fd) (D : Def K mg "is_integer" fI fdI ["value"]) (G : FnOk P w K mg base CX0 1 fI fdI ["value"] (sp_isInt K)) :
    FnOk P w K mg base CX0 2 f fd ["value", "least", "greatest"] (sp_isNum K) := by
  refine F.ok sc_isNum (fun vs H Q E h => ?_) (fun cdv A outer s H vs Q E hr h => ?_)
  · obtain ⟨v, d, p, lo, hi, rfl, _⟩ := h
    rfl
  · obtain ⟨v, d, p, lo, hi, rfl, hd, k⟩ := h
    refine ⟨_, PSs.nox (pss_cons (ps_if (PW.pt (pw_or (pt_not (pt_val (pe_call G hr rfl D.mgf D.kp D.bd .nil pass0 (pa_cons (pv 0) pa_nil)))) (pw_or1 (pt_cmpR op_lt (pv 0) (pv 1) (nomark _))))) (pss_one (ps_ret pe_bl)) pss_nil)
      (pss_one (ps_ret (pe_or (pe_cmp (pc_isN (pv 2)) rfl) (pe_one (pe_cmpR op_le (pv 0) (pv 2) (nomark _))))))), ?_⟩
    refine ⟨_, rfl, v, d, p, rfl, hd, _, rfl, ?_⟩
    cases d with
    | int i =>
      cases hd
      refine iteF ⟨_, rfl, _, rfl, _, _, rfl, rfl, _, rfl, ?_⟩
      have k : Q (.bl (decide (lo ≤ i) && below i hi)) H := k
      refine ite2 (fun t => ?_) (fun t => ?_)
      · have t := of_decide_eq_true t
        rw [decide_eq_false (by omega), Bool.false_and] at k
        exact k
      · have t : ¬ i < lo := fun z => t (decide_eq_true z)
        rw [decide_eq_true (by omega), Bool.true_and] at k
        cases hi with
        | none => exact ⟨_, rfl, _, rfl, iteT k⟩
        | some j => exact ⟨_, rfl, _, rfl, iteF ⟨_, rfl, _, rfl, _, _, rfl, rfl, k⟩⟩
    | _ => exact iteT k
end
end My
end
section
set_option Elab.async false
set_option linter.all false
set_option maxRecDepth 100000
set_option maxHeartbeats 4000000
/-! an entry of a list of plates. -/
namespace My
open PySem PySem.Spec PyProof.Rows L2
abbrev c_cls : Stmt := topS 36
abbrev s_isEntry : Stmt := topS 38
/-- whether data is an entry of plates -/
def entD (S : Str) : PyData → Bool
  | .tuple [x, y] => kindD S x && numD 1 (some big30) y
  | _ => false
theorem entD_len (S : Str) {ds : List PyData} (h : ds.length ≠ 2) : entD S (.tuple ds) = false := by
  match ds, h with
  | [], _ => rfl
  | [_], _ => rfl
  | [_, _], h => exact absurd rfl h
  | _ :: _ :: _ :: _, _ => rfl
def sp_isEntry (K : PySem.W.Frag) (C : Addr) : Sp := fun vs H Q _ => ∃ (a p : Addr) (S : Str) (ps : List (Nat × Nat)) (v : V) (d : PyData), vs = [.ref a, v] ∧ FontAt H C a S ps ∧ Rp K p H false v d ∧ fit d = true ∧ ∀ H', Same H H' → Q (.bl (entD S d)) H'
section
variable {P : Program} {w : World} {K : PySem.W.Frag} {mg : Str → Option Value} {base : Heap}
theorem sc_isEntry : FnScope ["font", "value"] ["font", "value"] (defScope s_isEntry) := ⟨rfl, rfl, rfl, by decide +kernel, rfl, by decide +kernel, by decide +kernel⟩
theorem ok_isEntry {f C CC fK fN : Addr} {fd fdK fdN : FuncData} (F : Fun K "_is_entry" "_is_entry" s_isEntry f fd) (T : TB mg) (sg_ : SgnC P w K mg base C) (DK : Def K mg "is_kind" fK fdK ["signs", "value"]) (GK : FnOk P w K mg base CX0 1 fK fdK ["signs", "value"] (sp_isKind K))
    (DN : Def K mg "is_number" fN fdN ["value", "least", "greatest"]) (GN : FnOk P w K mg base CX0 2 fN fdN ["value", "least", "greatest"] (sp_isNum K)) (gC : mg "Case" = some (.ref CC)) (cM : ClassV K CC "MAX_COUNT" (.int big30)) : FnOk P w K mg base CX0 4 f fd ["font", "value"] (sp_isEntry K C) := by
  obtain ⟨p1, g1, fd1, hp1, G1, b1⟩ := sg_.ex
  refine F.ok sc_isEntry (fun vs H Q E h => ?_) (fun cdv A outer s H vs Q E hr h => ?_)
  · obtain ⟨a, p, S, ps, v, d, rfl, _⟩ := h
    rfl
  · obtain ⟨a, p, S, ps, v, d, rfl, hF, hd, hf, k⟩ := h
    obtain ⟨dx, r, ys, h1, h2, h3⟩ := hF.at_
    obtain ⟨mc, u, c1, c2⟩ := cM.ok
    have r2 : Room 2 _ := hr.mono (by decide)
    have r1 : Room 1 _ := hr.mono (by decide)
    refine ⟨_, PSs.nox (pss_cons (ps_if (PW.pt (pw_or (pt_not (pt_val (pe_callB call_isi (by rfl) T.isi (by decide +kernel) (pa_cons (pv 1) (pa_cons (pe_bltn (v := .ty "tuple") (by rfl) T.tuple (by decide +kernel) rfl) pa_nil)))))
        (pw_or1 (pt_cmpR op_ne (pe_callB call_len_seq (by rfl) T.len PySem.boot_len (pa_cons (pv 1) pa_nil)) pe_int (nomark _))))) (pss_one (ps_ret pe_bl)) pss_nil)
      (pss_one (ps_ret (pe_and (pe_call (E := E0) GK r1 rfl DK.mgf DK.kp DK.bd .nil pass0 (pa_cons (pe_prop (E := E0) (pv 0) sg_.cls hp1 G1 hr b1 .nil pass0 rfl) (pa_cons (pe_ix ix_tup (pv 1) pe_int (fun _ _ => rfl)) pa_nil)))
        (pe_one (pe_call (E := E0) GN r2 rfl DN.mgf DN.kp DN.bd .nil pass0 (pa_cons (pe_ix ix_tup (pv 1) pe_int (fun _ _ => rfl)) (pa_cons pe_int (pa_cons (ClX.pe_cval (pe_glob (v := .ref CC) rfl gC rfl)) pa_nil))))))))), ?_⟩
    have gS : ∀ (Q : VK), Q (.str S) H → getSp C "_signs" [.ref a] H Q E0 := fun Q q => ⟨a, dx, _, _, rfl, h1, fs_signs S r, q⟩
    refine ⟨_, rfl, _, _, _, _, _, rfl, .ty "tuple", hd.ty, kit_tup d, _, rfl, ?_⟩
    cases d with
    | tuple ds =>
      obtain ⟨q, xs, st2, rfl, hq, hr2⟩ := hd.tupS
      simp only [fit, Bool.and_eq_true, decide_eq_true_eq] at hf
      have hlen := hr2.len
      refine iteF ⟨_, rfl, q, xs, rfl, .inr hq, rfl, _, rfl, ?_⟩
      refine ite2 (fun h1' => ?_) (fun h1' => ?_)
      · have h2 : ds.length ≠ 2 := fun e => by rw [hlen, e] at h1'; simp at h1'
        have e := entD_len S h2
        rw [e] at k
        exact k H (Same.refl H)
      · have h2 : xs.length = 2 := by
          by_cases e : xs.length = 2
          · exact e
          · refine absurd ?_ h1'
            rw [decide_eq_false (fun q => e (by injection q with q; omega))]
            rfl
        match xs, ds, h2, hr2, hlen with
        | [x, y], [d1, d2], _, .cons hx (.cons hy _), _ =>
          have ft := hf.2
          simp only [fitAll, Bool.and_eq_true] at ft
          obtain ⟨f1, f2, _⟩ := ft
          refine ⟨_, rfl, a, dx, _, rfl, h1, gS _ ⟨_, rfl, q, _, _, x, rfl, rfl, hq, rfl, S, x, d1, p, rfl, hx.loose2, fit.text f1, fun H1 s1 => ⟨_, rfl, ?_⟩⟩⟩
          have k : ∀ (H' : Hp), Same H H' → Q (.bl (kindD S d1 && numD 1 (some big30) d2)) H' := k
          cases hk : kindD S d1 with
          | false =>
            rw [hk] at k
            exact iteF (k H1 s1)
          | true =>
            rw [hk, Bool.true_and] at k
            refine iteT ?_
            exact ⟨_, rfl, q, _, _, y, rfl, rfl, s1.tupl hq, rfl, CC, mc, _, u, rfl, c1, c2, y, d2, p, 1, some big30, rfl, (hy.but (.of s1)).loose2, k H1 s1⟩
    | _ => exact iteT (k H (Same.refl H))
end
end My
end
section
set_option Elab.async false
set_option linter.all false
set_option maxRecDepth 100000
set_option maxHeartbeats 4000000
/-! the counts of a list of plates. -/
namespace My
open PySem PySem.Spec PyProof.Rows L2
abbrev s_counted : Stmt := topS 37
/-- a kind as it is kept -/
def keptZ (S z : Str) : Str := match z.cps.toList with
  | [x, y] => keptK S x y
  | _ => z
/-- all kinds, as texts -/
def ksS (S : Str) : List Str := (kindsTo S S.length).map fun e => mkS [e.1, e.2]
theorem ksS_V (S : Str) : (kindsTo S S.length).map kindV = (ksS S).map V.str := by
  unfold ksS
  rw [List.map_map]
  rfl
theorem ksS_len {S : Str} (h : S.length ≤ 10) : (ksS S).length ≤ 110 := by
  unfold ksS
  rw [List.length_map]
  have := kindsTo_len S h S.length
  omega
theorem kinds_nd {S : Str} (nd : S.cps.toList.Nodup) (no : 45 ∉ S.cps.toList) : ∀ n, n ≤ S.length → (kindsTo S n).Nodup
  | 0, _ => List.nodup_nil
  | n + 1, h => by
    have zl : S.cps.toList.length = S.length := Array.length_toList
    have od := order_nodup nd no
    show (kindsTo S n ++ kindsAt S n).Nodup
    rw [List.nodup_append]
    refine ⟨kinds_nd nd no n (by omega), ?_, ?_⟩
    · unfold kindsAt
      refine nodup_map (fun a b e => (Prod.mk.inj e).2) ?_
      have : (S.cps.toList.drop n ++ [45]) = (S.cps.toList ++ [45]).drop n := by rw [List.drop_append_of_le_length (by omega)]
      rw [this]
      exact od.sublist (List.drop_sublist _ _)
    · intro x hx y hy e
      subst e
      obtain ⟨i, hi, he⟩ := kinds_mem hx
      unfold kindsAt at he hy
      obtain ⟨c1, _, rfl⟩ := List.mem_map.mp he
      obtain ⟨c2, _, e2⟩ := List.mem_map.mp hy
      have e2 := (Prod.mk.inj e2).1
      obtain ⟨a, ha⟩ : ∃ a, S.cps.toList[i]? = some a := ⟨S.cps.toList[i]'(by omega), by simp [show i < S.cps.toList.length by omega]⟩
      obtain ⟨b, hb⟩ : ∃ b, S.cps.toList[n]? = some b := ⟨S.cps.toList[n]'(by omega), by simp [show n < S.cps.toList.length by omega]⟩
      rw [ha, hb] at e2
      have e2 : b = a := e2
      rw [e2, ← ha] at hb
      have := (List.getElem?_inj (show n < S.cps.toList.length by omega) nd).mp hb
      omega
theorem ksS_nd {S : Str} (nd : S.cps.toList.Nodup) (no : 45 ∉ S.cps.toList) : (ksS S).Nodup := by
  unfold ksS
  refine nodup_map (fun a b e => ?_) (kinds_nd nd no _ (Nat.le_refl _))
  have e : ([a.1, a.2] : List Nat) = [b.1, b.2] := by
    have h := congrArg (fun z : Str => z.cps.toList) e
    simpa using h
  obtain ⟨a1, a2⟩ := a
  obtain ⟨b1, b2⟩ := b
  simp at e
  rw [e.1, e.2]
/-- entries at their places -/
abbrev EntAt (H : Hp) (es : List (Str × Int)) (ys : List V) : Prop := Paired (fun e y => ∃ q, y = V.ref q ∧ H q = some (.tup [.str e.1, .int e.2])) es ys
theorem EntAt.same {H H1 : Hp} {es : List (Str × Int)} {ys : List V} (s : Same H H1) (h : EntAt H es ys) : EntAt H1 es ys := Paired.map (fun e y hy => by
  obtain ⟨q, e1, e2⟩ := hy
  exact ⟨q, e1, s _ _ e2⟩) h
/-- the counts of these entries -/
def cntd (S : Str) (es : List (Str × Int)) : List (Str × Int) := ((ksS S).filter fun k => (ctK (es.map fun e => (keptZ S e.1, e.2)) k).isSome).map fun k => (k, (ctK (es.map fun e => (keptZ S e.1, e.2)) k).getD 0)
/-- entries that are right -/
structure EntOk (S : Str) (es : List (Str × Int)) : Prop where
  kind : ∀ e ∈ es, kindD S (.str e.1) = true
  bd : ∀ e ∈ es, 1 ≤ e.2 ∧ e.2 ≤ big30
  nd : (es.map fun e => keptZ S e.1).Nodup
  len : es.length ≤ 4000
def sp_counted (K : PySem.W.Frag) (C : Addr) : Sp := fun vs H Q _ => ∃ (a b p : Addr) (d : PyData) (S : Str) (ps : List (Nat × Nat)) (es : List (Str × Int)) (ys : List V), vs = [.ref a, .ref b] ∧ Rp K p H false (.ref b) d ∧ isSeqD d = true ∧ FontAt H C a S ps ∧ S.length ≤ 10 ∧ S.cps.toList.Nodup ∧ 45 ∉ S.cps.toList ∧ (SqL K H b ys ∨ SqT K H b ys) ∧ EntAt H es ys ∧ EntOk S es ∧
  ∀ H' r, Same H H' → H r = none → H' r = some (.dK (toS (cntd S es))) → Q (.ref r) H'
section
variable {P : Program} {w : World} {K : PySem.W.Frag} {mg : Str → Option Value} {base : Heap}
abbrev NCo : List Str := ["font", "plates", "counts", "entry", "kind"]
theorem sc_counted : FnScope NCo ["font", "plates"] (defScope s_counted) := ⟨rfl, rfl, rfl, by decide +kernel, rfl, by decide +kernel, by decide +kernel⟩
theorem ok_counted {f C IK fL fE fA fK : Addr} {fd fdL fdE fdA fdK : FuncData} (F : Fun K "_counted" "_counted" s_counted f fd) (T : TB mg) (c : Cls K C)
    (DL : Def K mg "is_listed" fL fdL ["value"]) (GL : FnOk P w K mg base CX0 1 fL fdL ["value"] (sp_isListed K)) (DE : Def K mg "_is_entry" fE fdE ["font", "value"]) (GE : FnOk P w K mg base CX0 4 fE fdE ["font", "value"] (sp_isEntry K C))
    (DA : Def K mg "all_kinds" fA fdA ["font"]) (GA : FnOk P w K mg base CX0 4 fA fdA ["font"] (sp_allKinds C))
    (MK : Meth K C "kept" fK) (GK : FnOk P w K mg base (L2.CX P w) 2 fK fdK ["self", "kind"] (sp_keptM K C IK)) (bK : Binds K fdK ["self", "kind"] []) : FnOk P w K mg base CX0 5 f fd ["font", "plates"] (sp_counted K C) := by
  refine F.ok sc_counted (fun vs H Q E h => ?_) (fun cdv A outer s H vs Q E hr h => ?_)
  · obtain ⟨a, b, p, d, S, ps, es, ys, rfl, _⟩ := h
    rfl
  · obtain ⟨a, b, p, d, S, ps, es, ys, rfl, hd, hsd, hF, hS, nd, no, hsq, hE, ok, k⟩ := h
    have hu := hu_of hr
    have r1 : Room 1 _ := hr.mono (by decide)
    have r2 : Room 2 _ := hr.mono (by decide)
    refine ⟨_, PSs.nox (pss_cons (ps_if (pt_not (pt_val (pe_call GL r1 rfl DL.mgf DL.kp DL.bd .nil pass0 (pa_cons (pv 1) pa_nil)))) (pss_one ps_never) pss_nil)
      (pss_cons (ps_set (i := 2) sc_counted.nd rfl (Or.inr rfl) pe_dnew')
      (pss_cons (ps_for PassesOwn.never rfl (pi_seq (pv 1)) (pg_name (i := 3) sc_counted.nd rfl (Or.inl rfl))
        (pss_cons (ps_if (PW.pt (pw_or (pt_not (pt_val (pe_call GE hr rfl DE.mgf DE.kp DE.bd .nil pass0 (pa_cons (pv 0) (pa_cons (pv 3) pa_nil)))))
            (pw_or1 (pt_cmp (pc_din hu (pe_meth (C := C) (E := E0) (pv 0) c MK GK r2 bK .nil passN (pa_cons (pe_ix ix_tup (pv 3) pe_int (fun _ _ => rfl)) pa_nil)) (pv 2))))))
          (pss_one ps_never) pss_nil)
        (pss_one (ps_dput hu (pv 2) (pe_meth (C := C) (E := E0) (pv 0) c MK GK r2 bK .nil passN (pa_cons (pe_ix ix_tup (pv 3) pe_int (fun _ _ => rfl)) pa_nil)) (pe_ix ix_tup (pv 3) pe_int (fun _ _ => rfl)) rfl))))
      (pss_one (ps_ret (by exact (pe_dc (own := [("kind", 4)]) (g := gName 4) rfl sc_counted.nd (pi_list (pe_call GA hr rfl DA.mgf DA.kp DA.bd .nil pass0 (pa_cons (pv 0) pa_nil))) (blkOk_by (own := [("kind", 4)]) (N := NCo) (sc := defScope s_counted) (by decide +kernel))
        (fun _ _ _ _ _ => pg_name (i := 4) sc_counted.nd rfl (Or.inl rfl)) (fun _ _ _ _ _ => pts_one (pt_cmp (pc_din hu (pv 4) (pv 2)))) (fun _ _ _ _ _ => pv 4) (fun _ _ _ _ _ => pe_dget hu (pv 2) (pv 4) (fun _ _ => rfl))))))))), ?_⟩
    have all := fun (i : Nat) (e : Str × Int) (he : es[i]? = some e) => ok.kind e (List.mem_of_getElem? he)
    have el : es.length = ys.length := Paired.length hE
    obtain ⟨dx, r, fys, h1, h2, h3⟩ := hF.at_
    refine ⟨_, rfl, .ref b, d, p, rfl, hd, fun H1 s1 => ⟨_, rfl, ?_⟩⟩
    rw [hsd]
    refine iteF (fun D H2 n2 => ?_)
    have s2 : Same H H2 := s1.trans n2.same
    have fD : H D = none := s1.free n2.free
    show tFor (iSeq K (tVar 1)) (gName 3) _ _ [some (.ref a), some (.ref b), some (.ref D), none, none] H2
    refine tFor_seq (H0 := H) (fun C h => ⟨_, rfl, h⟩) hsq (fun i σ H' => ∃ (pr : Option V), σ = [some (.ref a), some (.ref b), some (.ref D), pr, none] ∧ Same H H' ∧ H' D = some (.dK (toS ((es.take i).map fun e => (keptZ S e.1, e.2)))))
      ⟨none, rfl, s2, n2.here⟩ (fun i σ' H' q => by obtain ⟨_, _, q, _⟩ := q; exact q) ?_ ?_
    · rintro i x σ H3 hi hx ⟨pr, rfl, s3, hD⟩
      obtain ⟨e, he, q, rfl, hq⟩ := Paired.at hE hx
      have hk := all i e he
      have hb := ok.bd e (List.mem_of_getElem? he)
      obtain ⟨x, y, ez, bx, by_, _⟩ := kind_two hk
      have hz : e.1.length = 2 := by rw [ez, mkS_len]; rfl
      have ent : entD S (.tuple [.str e.1, .int e.2]) = true := by
        show (kindD S (.str e.1) && (decide (1 ≤ e.2) && decide (e.2 ≤ big30))) = true
        rw [hk, decide_eq_true hb.1, decide_eq_true hb.2]
        rfl
      have rp : ∀ H', Same H H' → Rp K (q + 1) H' false (.ref q) (.tuple [.str e.1, .int e.2]) := fun H' s => .tup (s _ _ hq) (Nat.succ_ne_self q).symm (.cons (.str _ _) (.cons (.int _ _) (.nil _)))
      have ft : fit (.tuple [.str e.1, .int e.2]) = true := by
        simp [fit, fitAll, hz]
      have kz : keptZ S e.1 = keptK S x y := by rw [ez]; rfl
      refine ⟨_, rfl, _, rfl, a, q + 1, S, ps, .ref q, _, rfl, hF.same s3, rp _ s3, ft, fun H4 s4 => ⟨_, rfl, ?_⟩⟩
      rw [ent]
      have s34 := s3.trans s4
      have hD4 := s4 _ _ hD
      refine iteF ⟨_, rfl, a, dx, _, rfl, s34 _ _ h1, rfl, _, rfl, q, _, _, _, rfl, rfl, SqT.of (s34 _ _ hq), at0 _ _, ?_⟩
      have nx : (es.take (i + 1)).map (fun e => (keptZ S e.1, e.2)) = (es.take i).map (fun e => (keptZ S e.1, e.2)) ++ [(keptZ S e.1, e.2)] := by
        rw [List.take_add_one, he, List.map_append]
        rfl
      have new : keptZ S e.1 ∉ ((es.take i).map fun e => (keptZ S e.1, e.2)).map (·.1) := by
        rw [List.map_map]
        intro m
        obtain ⟨e2, h2m, h2e⟩ := List.mem_map.mp m
        obtain ⟨j, hj⟩ := List.mem_iff_getElem?.mp h2m
        rw [List.getElem?_take] at hj
        split at hj
        · rename_i hlt
          have g1 : (es.map fun e => keptZ S e.1)[j]? = some (keptZ S e2.1) := by rw [List.getElem?_map, hj]; rfl
          have g2 : (es.map fun e => keptZ S e.1)[i]? = some (keptZ S e.1) := by rw [List.getElem?_map, he]; rfl
          have h2e : keptZ S e2.1 = keptZ S e.1 := h2e
          rw [← h2e] at g2
          have := (List.getElem?_inj (by rw [List.length_map]; omega) ok.nd).mp (g1.trans g2.symm)
          omega
        · cases hj
      have hzt : textFits 4000 (.str e.1) := by show e.1.length ≤ 4000; omega
      have hS2 : S.length ≤ 4000 := by omega
      have ke : kindD S (.str e.1) = false → ∀ {r : Prop}, r := fun z => absurd (hk.symm.trans z) (by intro z; cases z)
      have ek : ∀ x' y' : Nat, PyData.str e.1 = .str (mkS [x', y']) → keptK S x' y' = keptZ S e.1 := fun x' y' e' => by
        have e' : e.1 = mkS [x', y'] := by injection e'
        rw [e']
        rfl
      refine ⟨a, q + 1, S, ps, _, _, rfl, hF.same s34, hS2, .str _ _, hzt, fun z => ke z, fun x' y' e' _ H5 s5 => ?_⟩
      rw [ek x' y' e']
      have s35 := s34.trans s5
      have hD5 := s5 _ _ hD4
      refine ⟨_, rfl, D, _, rfl, dget_toS _ hD5, _, rfl, ?_⟩
      rw [ctK_none new]
      refine iteF ⟨_, rfl, q, _, _, _, rfl, rfl, SqT.of (s35 _ _ hq), at1 _ _, _, rfl, _, rfl, a, dx, _, rfl, s35 _ _ h1, rfl, _, rfl, q, _, _, _, rfl, rfl, SqT.of (s35 _ _ hq), at0 _ _, ?_⟩
      refine ⟨a, q + 1, S, ps, _, _, rfl, hF.same s35, hS2, .str _ _, hzt, fun z => ke z, fun x' y' e' _ H6 s6 => ?_⟩
      rw [ek x' y' e']
      have hD6 := s6 _ _ hD5
      refine ⟨D, _, rfl, dput_toS hD6 ?_, ?_⟩
      · rw [List.length_map, List.length_take]
        have := ok.len
        exact Nat.lt_of_le_of_lt (show _ ≤ 4000 by omega) (by decide)
      refine ⟨_, rfl, Same.wr (s35.trans s6) fD .mk', ?_⟩
      rw [upd_same, putT_new new, nx]
    · rintro σ' H3 ⟨pr, rfl, s3, hD⟩
      rw [← el, List.take_length] at hD
      refine ⟨_, rfl, a, S, ps, rfl, hF.same s3, hS, no, fun H4 r4 s4 f4 h4 => ?_⟩
      rw [ksS_V] at h4
      have hD4 := s4 _ _ hD
      have s34 := s3.trans s4
      refine ⟨r4, rfl, ⟨_, SqL.of h4⟩, fun D2 hD2 => ?_⟩
      refine dc_map (walk_list (xs := (ksS S).map V.str)) (ksS S) (by rw [List.length_map]) (fun k => (ctK (es.map fun e => (keptZ S e.1, e.2)) k).isSome) (fun k => Sum.inr k) (fun k => .int ((ctK (es.map fun e => (keptZ S e.1, e.2)) k).getD 0)) (nodup_map (fun _ _ e => keyT_inj.mp e) (ksS_nd nd no)) hD2 (fun H' s => s.seq (SqL.of h4)) (by rw [List.length_map]; exact Nat.lt_of_le_of_lt (ksS_len hS) (by decide)) (fun x => rfl) ?_ ?_ ?_ ?_
      · intro j x z H' C' hx hz s5 hC
        rw [List.getElem?_map, hz] at hx
        cases hx
        exact ⟨_, rfl, _, rfl, D, _, rfl, dget_toS z (s5 _ _ hD4), _, rfl, by rw [Option.isSome_map]; exact hC H' (Same.refl _)⟩
      · intro j x z H' C' hx hz _ s5 hC
        rw [List.getElem?_map, hz] at hx
        cases hx
        exact ⟨_, rfl, hC H' (Same.refl _)⟩
      · intro j x z H' C' hx hz hp s5 hC
        rw [List.getElem?_map, hz] at hx
        cases hx
        obtain ⟨n, hn⟩ := Option.isSome_iff_exists.mp hp
        have dg := dget_toS z (s5 _ _ hD4)
        rw [hn] at dg hC
        exact ⟨_, rfl, _, rfl, D, _, rfl, dg, hC H' (Same.refl _)⟩
      · intro H' s5 hD'
        refine k H' D2 (s34.trans s5) (s34.free hD2) ?_
        rw [hD']
        unfold cntd toS
        rw [List.map_map]
        rfl
end
end My
end
section
set_option Elab.async false
set_option linter.all false
set_option maxRecDepth 100000
set_option maxHeartbeats 4000000
namespace My
open PySem PySem.Spec PyProof.Rows L2
abbrev s_ordered : Stmt := topS 53
/-- a count, 0 where there is none -/
def gC (cs : List (Str × Int)) (k : Str) : Int := (ctK cs k).getD 0
def sp_ordered (K : PySem.W.Frag) : Sp := fun vs H Q _ => ∃ (t d b : Addr) (S : Str) (cs : List (Str × Int)), vs = [.ref t, .ref d] ∧ SqT K H t [.str S, .ref b] ∧ S.length ≤ 10 ∧ S.cps.toList.Nodup ∧ 45 ∉ S.cps.toList ∧ H d = some (.dK (toS cs)) ∧ ∀ H' r, Same H H' → H r = none → H' r = some (.dK (toS (ordC (ksS S) (gC cs)))) → Q (.ref r) H'
section
variable {P : Program} {w : World} {K : PySem.W.Frag} {mg : Str → Option Value} {base : Heap}
abbrev NOr : List Str := ["_law_font_here", "_law_counts", "_law_kind"]
theorem sc_ordered : FnScope NOr ["_law_font_here", "_law_counts"] (defScope s_ordered) := ⟨rfl, rfl, rfl, by decide +kernel, rfl, by decide +kernel, by decide +kernel⟩
theorem ok_ordered {f fK : Addr} {fd fdK : FuncData} (F : Fun K "_law_ordered" "_law_ordered" s_ordered f fd) (td : mg "dict" = none) (D : Def K mg "_law_kinds" fK fdK ["_law_signs"]) (G : FnOk P w K mg base CX0 1 fK fdK ["_law_signs"] sp_kinds) : FnOk P w K mg base CX0 2 f fd ["_law_font_here", "_law_counts"] (sp_ordered K) := by
  refine F.ok sc_ordered (fun vs H Q E h => ?_) (fun cdv A outer s H vs Q E hr h => ?_)
  · obtain ⟨t, d, b, S, cs, rfl, _⟩ := h
    rfl
  · obtain ⟨t, d, b, S, cs, rfl, ht, hS, nd, no, hd, k⟩ := h
    have hu := hu_of hr
    refine ⟨_, pss_one (ps_ret (pe_callTy (call_dictP rfl) (by rfl) td (by decide +kernel) (pa_cons (by exact (pe_lc (own := [("_law_kind", 2)]) (g := gName 2) rfl sc_ordered.nd (pi_list (pe_call G hr rfl D.mgf D.kp D.bd .nil pass0 (pa_cons (pe_ix ix_tup (pv 0) pe_int (fun _ _ => rfl)) pa_nil))) (blkOk_by (own := [("_law_kind", 2)]) (N := NOr) (sc := defScope s_ordered) (by decide +kernel))
      (fun _ _ _ _ _ => pg_name (i := 2) sc_ordered.nd rfl (Or.inl rfl)) (fun _ _ _ _ _ => pts_one (pt_cmpR op_gt (pe_dget2 hu (pv 1) (pv 2) pe_int (by first | exact ⟨rfl, rfl, rfl, rfl⟩ | exact ⟨rfl, rfl, rfl, rfl, rfl⟩)) pe_int (nomark _)))
      (fun _ _ _ _ _ => pe_tup' (pa_cons (pv 2) (pa_cons (pe_dget hu (pv 1) (pv 2) (fun _ _ => rfl)) pa_nil))))) pa_nil))), ?_⟩
    refine ⟨_, rfl, t, _, _, _, rfl, rfl, ht, rfl, S, rfl, hS, fun H1 r1 s1 f1 h1 => ?_⟩
    rw [ksS_V] at h1
    have hd1 := s1 _ _ hd
    have nd1 : ((ksS S).map V.str).length < sizeLine := by rw [List.length_map]; exact Nat.lt_of_le_of_lt (ksS_len hS) (by decide)
    refine ⟨r1, rfl, ⟨_, SqL.of h1⟩, fun D hD => lc_pair (walk_list (xs := (ksS S).map V.str)) (ksS S) (by rw [List.length_map]) (fun k => decide (0 < gC cs k)) (fun k y H' => ∃ q, y = V.ref q ∧ H' q = some (.tup [.str k, .int (gC cs k)])) ?_ hD (fun H' s => s.seq (SqL.of h1)) nd1 (fun x => rfl) ?_ ?_ ?_⟩
    · rintro c y H5 H6 ⟨zs, hl5⟩ hb ⟨q, e, hq⟩
      exact ⟨q, e, hb q _ (ne_of hq hl5 (by intro z; cases z)) hq⟩
    · intro j x c H' C hx hc s hC
      rw [List.getElem?_map, hc] at hx
      cases hx
      have hd' := s _ _ hd1
      refine ⟨_, rfl, d, rfl, .inl ⟨_, .inl hd'⟩, _, rfl, _, dget_toS c hd', ?_⟩
      have e : ((ctK cs c).map V.int).getD (.int 0) = .int (gC cs c) := by unfold gC; cases ctK cs c <;> rfl
      rw [e]
      exact ⟨_, _, rfl, rfl, _, rfl, hC H' (Same.refl _)⟩
    · intro j x c H' C hx hc hp s hC
      rw [List.getElem?_map, hc] at hx
      cases hx
      have hd' := s _ _ hd1
      have hp := of_decide_eq_true hp
      unfold gC at hp
      obtain ⟨z, hz⟩ : ∃ z, ctK cs c = some z := by
        cases e : ctK cs c with
        | none => rw [e] at hp; exact absurd hp (by decide)
        | some z => exact ⟨z, rfl⟩
      have dg := dget_toS c hd'
      rw [hz] at dg
      refine ⟨_, rfl, _, rfl, _, rfl, d, _, rfl, dg, by show 2 ≤ sizeLine; decide, fun q H6 n6 => hC H6 _ n6.same ⟨q, rfl, ?_⟩⟩
      unfold gC
      rw [hz]
      exact n6.here
    · intro H' ys s hD' hP
      obtain ⟨qs, rfl, hq⟩ := pairs_refs (K := K) (key := fun c => Sum.inr c) (val := fun c => .int (gC cs c)) hP
      refine ⟨D, qs, _, rfl, SqL.of hD', hq, fun r hr' => ?_⟩
      have s13 := s1.trans s
      refine k _ r (s13.trans (New.same (.mk' hr'))) (by cases e : H r with | none => rfl | some o => have := s13 _ _ e; rw [hr'] at this; cases this) ?_
      rw [upd_same, mergeK_nodup]
      · unfold ordC toS
        rw [List.map_map]
        rfl
      · rw [List.map_map]
        exact (nodup_map (fun _ _ e => keyT_inj.mp e) (ksS_nd nd no)).sublist (List.Sublist.map _ List.filter_sublist)
end
end My
end
section
set_option Elab.async false
set_option linter.all false
set_option maxRecDepth 100000
set_option maxHeartbeats 4000000
namespace My
open PySem PySem.Spec PyProof.Rows L2
abbrev s_plain : Stmt := topS 54
/-- drawn counts: of kinds, in their order, each from 1 to B -/
def CsP (S : Str) (B : Int) (cs : List (Str × Int)) : Prop := ∃ f : Str → Int, cs = ordC (ksS S) f ∧ ∀ k, f k ≤ B
/-- a drawn font and drawn counts -/
structure PlainAt (H : Hp) (t t1 a d : Addr) (S : Str) (ys : List V) (ps : List (Nat × Nat)) (cs : List (Str × Int)) : Prop where
  h0 : H t = some (.tup [.ref t1, .ref d])
  h1 : H t1 = some (.tup [.str S, .ref a])
  h2 : H a = some (.lst ys)
  h3 : PairsAt H ps ys
  h4 : H d = some (.dK (toS cs))
theorem toS_pen {cs : List (Str × Int)} {c : Addr} {u l : Int} (h : penK c u l = toS cs) : False := by
  cases cs with
  | nil => cases h
  | cons e cs =>
    have h : penK c u l = (Sum.inr e.1, V.int e.2) :: toS cs := h
    injection h with h _
    injection h with _ h
    cases h
theorem PenAt.neK {H : Hp} {p c d : Addr} {n : Nat} {cs : List (Str × Int)} (hP : PenAt H p c n) (h : H d = some (.dK (toS cs))) : d ≠ p := fun e => by
  obtain ⟨_, u, z, hp, _⟩ := hP
  rw [e, hp] at h
  have := Option.some.inj h
  injection this with this
  exact toS_pen this
def sp_plain : Sp := fun vs H Q _ => ∃ (p c : Addr) (m q n : Nat) (B : Int), vs = [.ref p, .int m, .int q, .int B] ∧ PenAt H p c n ∧ n < 2 ^ 49 ∧ 2 ≤ m ∧ m ≤ 10 ∧ q ≤ 20 ∧ 4 ≤ B ∧ B ≤ 5000000000000000000000000000000 ∧
  ∀ H' t t1 a d S ys ps cs, DrewP H p c (n + 1000) H' → PlainAt H' t t1 a d S ys ps cs → Good m S ps → CsP S B cs → a ≠ sysModules → d ≠ p → Q (.ref t) H'
section
variable {P : Program} {w : World} {K : PySem.W.Frag} {mg : Str → Option Value} {base : Heap}
abbrev NPl : List Str := ["_law_pen_here", "_law_signs", "_law_most", "_law_bound", "_law_font_here", "_law_found", "_law_kinds_here", "_law_k", "_law_kind"]
theorem sc_plain : FnScope NPl ["_law_pen_here", "_law_signs", "_law_most", "_law_bound"] (defScope s_plain) := ⟨rfl, rfl, rfl, by decide +kernel, rfl, by decide +kernel, by decide +kernel⟩
theorem ok_plain {f fD fP fF fK fO : Addr} {fd fdD fdP fdF fdK fdO : FuncData} (F : Fun K "_law_plain" "_law_plain" s_plain f fd) (T : TB mg)
    (DD : Def K mg "_law_draw" fD fdD ["_law_pen_here", "_law_many"]) (GD : FnOk P w K mg base CX0 1 fD fdD ["_law_pen_here", "_law_many"] sp_draw) (GB : FnOk P w K mg base CX0 4 fD fdD ["_law_pen_here", "_law_many"] (sp_drawB 5000000000000000000000000000000 4))
    (DP : Def K mg "_law_pick" fP fdP ["_law_pen_here", "_law_options"]) (GP : FnOk P w K mg base CX0 2 fP fdP ["_law_pen_here", "_law_options"] (sp_pick K))
    (DF : Def K mg "_law_font" fF fdF ["_law_pen_here", "_law_most"]) (GF : FnOk P w K mg base CX0 3 fF fdF ["_law_pen_here", "_law_most"] (sp_font K))
    (DK : Def K mg "_law_kinds" fK fdK ["_law_signs"]) (GK : FnOk P w K mg base CX0 1 fK fdK ["_law_signs"] sp_kinds)
    (DO : Def K mg "_law_ordered" fO fdO ["_law_font_here", "_law_counts"]) (GO : FnOk P w K mg base CX0 2 fO fdO ["_law_font_here", "_law_counts"] (sp_ordered K)) :
    FnOk P w K mg base CX0 5 f fd ["_law_pen_here", "_law_signs", "_law_most", "_law_bound"] sp_plain := by
  refine F.ok sc_plain (fun vs H Q E h => ?_) (fun cdv A outer s H vs Q E hr h => ?_)
  · obtain ⟨p, c, m, q, n, B, rfl, _⟩ := h
    rfl
  · obtain ⟨p, c, m, q, n, B, rfl, hP, hn, m2, m10, q20, b4, b30, k⟩ := h
    have r1 : Room 1 _ := hr.mono (by decide)
    have r2 : Room 2 _ := hr.mono (by decide)
    have r3 : Room 3 _ := hr.mono (by decide)
    have hu := hu_of r1
    refine ⟨_, pss_cons (ps_par (i := 4) (j := 5) rfl sc_plain.nd rfl rfl (by decide) rfl rfl (pa_cons (pe_call GF r3 rfl DF.mgf DF.kp DF.bd .nil pass0 (pa_cons (pv 0) (pa_cons (pv 1) pa_nil))) (pa_cons pe_dnew' pa_nil)) (by rfl))
      (pss_cons (ps_set (i := 6) sc_plain.nd rfl (Or.inl rfl) (pe_call GK r1 rfl DK.mgf DK.kp DK.bd .nil pass0 (pa_cons (pe_ix ix_tup (pv 4) pe_int (fun _ _ => rfl)) pa_nil)))
      (pss_cons (ps_for PassesOwn.never rfl (pi_range1 rfl T.range (pa_cons (pe_call GD r1 rfl DD.mgf DD.kp DD.bd .nil pass0 (pa_cons (pv 0) (pa_cons (pe_op op_add (pv 2) pe_int) pa_nil))) pa_nil)) (pg_name (i := 7) sc_plain.nd rfl (Or.inl rfl))
        (pss_cons (ps_set (i := 8) sc_plain.nd rfl (Or.inl rfl) (pe_call GP r2 rfl DP.mgf DP.kp DP.bd .nil pass0 (pa_cons (pv 0) (pa_cons (pv 6) pa_nil))))
        (pss_one (ps_dput hu (pv 5) (pv 8) (pe_call GP r2 rfl DP.mgf DP.kp DP.bd .nil pass0 (pa_cons (pv 0) (pa_cons (pe_lst' (pa_cons pe_int (pa_cons (pe_op op_add pe_int (pe_call GD r1 rfl DD.mgf DD.kp DD.bd .nil pass0 (pa_cons (pv 0) (pa_cons pe_int pa_nil))))
            (pa_cons (pe_op op_add pe_int (pe_call GD r1 rfl DD.mgf DD.kp DD.bd .nil pass0 (pa_cons (pv 0) (pa_cons pe_int pa_nil))))
            (pa_cons (pe_op op_add pe_int (pe_call GB hr rfl DD.mgf DD.kp DD.bd .nil pass0 (pa_cons (pv 0) (pa_cons (pv 3) pa_nil)))) (pa_cons (pv 3) pa_nil)))))) pa_nil))) rfl))))
      (pss_one (ps_ret (pe_tup' (pa_cons (pv 4) (pa_cons (pe_call GO r2 rfl DO.mgf DO.kp DO.bd .nil pass0 (pa_cons (pv 4) (pa_cons (pv 5) pa_nil))) pa_nil))))))), ?_⟩
    refine ⟨_, rfl, _, rfl, p, c, m, n, rfl, hP, by omega, m2, m10, fun H1 t1 a S ys ps d1 ft fa h1 h2 h3 hG hs => fun d H2 n2 => ⟨_, _, rfl, ?_⟩⟩
    have no := no_dash hG
    have hS : S.length ≤ 10 := Nat.le_trans hG.hi m10
    have d2 : DrewP H p c (n + 40) H2 := d1.new n2
    have h1' := n2.same _ _ h1
    refine ⟨_, rfl, t1, _, _, _, rfl, rfl, SqT.of h1', rfl, S, rfl, hS, fun H3 r s3 f3 h3r => ?_⟩
    rw [ksS_V] at h3r
    have d3 : DrewP H p c (n + 40) H3 := ⟨d2.but.trans (.of s3), d2.pen.same s3⟩
    have pt : t1 ≠ p := (hP.ne ft).symm
    have pa : a ≠ p := (hP.ne fa).symm
    have pr : r ≠ p := (d2.pen.ne f3).symm
    have pd : d ≠ p := (d1.pen.ne n2.free).symm
    have cd : c ≠ d := d1.pen.neC n2.free
    have s13 := n2.same.trans s3
    have i1 := s13 _ _ h1
    have i2 := s13 _ _ h2
    have i3 := h3.same s13
    have dd := s3 _ _ n2.here
    have rd : r ≠ d := fun z => by rw [z, n2.here] at f3; cases f3
    have td : t1 ≠ d := fun z => by rw [z, n2.free] at h1; cases h1
    have ad : a ≠ d := fun z => by rw [z, n2.free] at h2; cases h2
    have fD : H d = none := by
      cases e : H d with
      | none => rfl
      | some o => have := d1.but _ _ pd e; rw [n2.free] at this; cases this
    refine ⟨_, rfl, _, rfl, _, _, rfl, rfl, p, c, (q : Int) + 1, n + 40, rfl, d3.pen, by omega, by omega, by omega, fun H4 x d4 x0 x1 => ?_⟩
    obtain ⟨j, rfl⟩ : ∃ j : Nat, x = j := ⟨_, (Int.toNat_of_nonneg x0).symm⟩
    refine ⟨(j : Int), rfl, by omega, by omega, for_it (walk_range (lo := 0) (n := j)) (fun i σ' H' => ∃ (o7 o8 : Option V) (cs : List (Str × Int)) (m' : Nat), σ' = [some (.ref p), some (.int m), some (.int q), some (.int B), some (.ref t1), some (.ref d), some (.ref r), o7, o8] ∧ But p H H' ∧ PenAt H' p c m' ∧ m' ≤ n + 41 + 10 * i ∧ H' t1 = some (.tup [.str S, .ref a]) ∧ H' a = some (.lst ys) ∧ PairsAt H' ps ys ∧ H' r = some (.lst ((ksS S).map V.str)) ∧ H' d = some (.dK (toS cs)) ∧ (∀ e ∈ cs, 1 ≤ e.2 ∧ e.2 ≤ B) ∧ cs.length ≤ i)
      ⟨none, none, [], n + 41, rfl, (d3.trans d4).but, d4.pen, by omega, d4.but _ _ pt i1, d4.but _ _ pa i2, i3.pen d3.pen d4.but, d4.but _ _ pr h3r, d4.but _ _ pd dd, (fun e he => by cases he), Nat.le_refl _⟩ (fun _ _ _ _ _ => trivial) ?_ ?_⟩
    · rintro i v σ' Ha Hb hi ⟨o7, o8, cs, m', rfl, hB, hPm, hm, e1, e2, e3, er, ed, hbd, hcl⟩ ⟨rfl, rfl⟩
      have hi : i < j := hi
      have kl := ksS_len hS
      have kpos : 0 < (ksS S).length := by
        unfold ksS
        rw [List.length_map]
        have zl := hG.lo
        obtain ⟨l, hl⟩ : ∃ l, S.length = l + 1 := ⟨S.length - 1, by omega⟩
        rw [hl]
        show 0 < (kindsTo S l ++ kindsAt S l).length
        unfold kindsAt
        rw [List.length_append, List.length_map, List.length_append]
        simp only [List.length_cons, List.length_nil]
        omega
      refine ⟨_, rfl, _, rfl, p, c, r, _, m', rfl, hPm, by omega, SqL.of er, pr, by rw [List.length_map]; exact kpos, by rw [List.length_map]; omega, fun H5 v d5 hv => ?_⟩
      obtain ⟨kd, hkd, rfl⟩ := List.mem_map.mp hv
      have er5 := d5.but _ _ pr er
      have ed5 := d5.but _ _ pd ed
      refine ⟨_, rfl, _, rfl, p, c, 4, m' + 1, rfl, d5.pen, by omega, by decide, by decide, fun H6 x6 d6 x60 x61 => ⟨_, _, rfl, rfl, ?_⟩⟩
      refine ⟨_, rfl, p, c, 4, m' + 2, rfl, d6.pen, by omega, by decide, by decide, fun H7 x7 d7 x70 x71 => ⟨_, _, rfl, rfl, ?_⟩⟩
      refine ⟨_, rfl, _, rfl, p, c, B, m' + 3, rfl, d7.pen, by omega, by omega, b30, fun H8 x8 d8 x80 x81 => ⟨_, _, rfl, rfl, ?_⟩⟩
      refine ⟨_, rfl, by show 5 ≤ sizeLine; decide, fun l9 H9 n9 => ?_⟩
      have P9 := d8.pen.same n9.same
      have b59 : But p H5 H9 := d6.but.trans (d7.but.trans (d8.but.trans (.of n9.same)))
      have lp : l9 ≠ p := fun z => d8.pen.ne n9.free z.symm
      refine ⟨p, c, l9, _, m' + 7, rfl, P9, by omega, SqL.of n9.here, lp, by show 0 < 5; decide, by show 5 ≤ 1000000; decide, fun H10 v10 d10 hv10 => ?_⟩
      obtain ⟨z, rfl, z0, z1⟩ : ∃ z : Int, v10 = .int z ∧ 1 ≤ z ∧ z ≤ B := by
        rcases List.mem_cons.mp hv10 with rfl | hv
        · exact ⟨1, rfl, by decide, by omega⟩
        rcases List.mem_cons.mp hv with rfl | hv
        · exact ⟨1 + x6, rfl, by omega, by omega⟩
        rcases List.mem_cons.mp hv with rfl | hv
        · exact ⟨1 + x7, rfl, by omega, by omega⟩
        rcases List.mem_cons.mp hv with rfl | hv
        · exact ⟨1 + x8, rfl, by omega, by omega⟩
        rcases List.mem_cons.mp hv with rfl | hv
        · exact ⟨B, rfl, by omega, by omega⟩
        cases hv
      have b510 : But p Hb H10 := d5.but.trans (b59.trans d10.but)
      have ed10 := b510 _ _ pd ed
      refine ⟨_, rfl, _, rfl, d, _, rfl, dput_toS ed10 (Nat.lt_of_le_of_lt (show cs.length ≤ 20 by omega) (by decide)), ?_⟩
      have w11 : Wr H10 d (.dK (toS (putT cs kd z))) (upd H10 d (.dK (toS (putT cs kd z)))) := .mk'
      generalize upd H10 d (HO.dK (toS (putT cs kd z))) = H11 at w11 ⊢
      have ih2 := b510 _ _ pa e2
      have e3' := e3.pen hPm b510
      refine ⟨_, _, putT cs kd z, m' + 8, rfl, But.wr (hB.trans b510) fD w11, d10.pen.els w11 pd.symm cd, by omega, (w11.els _ td).trans (b510 _ _ pt e1), (w11.els _ ad).trans ih2, ?_, (w11.els _ rd).trans (b510 _ _ pr er), w11.here, ?_, ?_⟩
      · refine Paired.map (fun e y hy => ?_) e3'
        obtain ⟨q', hq1, hq2⟩ := hy
        exact ⟨q', hq1, (w11.els q' (ne_of hq2 ed10 (by intro z; cases z))).trans hq2⟩
      · intro e he
        rcases putT_mem he with he | rfl
        · exact hbd e he
        · exact ⟨z0, z1⟩
      · have := putT_len cs kd z
        omega
    · rintro σ' H5 ⟨o7, o8, cs, m', rfl, hB, hPm, hm, e1, e2, e3, er, ed, hbd, hcl⟩
      refine ⟨_, rfl, _, rfl, _, rfl, t1, d, a, S, cs, rfl, SqT.of e1, hS, hG.nd, no, ed, fun H6 d' s6 f6 h6 => ⟨by show 2 ≤ sizeLine; decide, fun t H7 n7 => ?_⟩⟩
      have s57 := s6.trans n7.same
      have pd' : d' ≠ p := (hPm.ne f6).symm
      refine k H7 t t1 a d' S ys ps _ ⟨hB.trans (.of s57), (hPm.same s57).mono (by omega)⟩ ⟨n7.here, s57 _ _ e1, s57 _ _ e2, e3.same s57, n7.same _ _ h6⟩ hG ⟨gC cs, rfl, fun kk => ?_⟩ hs pd'
      unfold gC
      cases e : ctK cs kk with
      | none => show (0 : Int) ≤ B; omega
      | some v => exact (hbd _ (ctK_mem e)).2
end
end My
end
section
set_option Elab.async false
set_option linter.all false
set_option maxRecDepth 100000
set_option maxHeartbeats 4000000
/-! Qcsb: drawn counts. -/
namespace My
open PySem PySem.Spec PyProof.Rows L2
/-- counts that can be shown -/
structure CsB (S : Str) (cs : List (Str × Int)) : Prop where
  nd : (cs.map (·.1)).Nodup
  inS : ∀ e ∈ cs, e.1 ∈ ksS S
  bd : ∀ e ∈ cs, 0 ≤ e.2 ∧ e.2 ≤ 10 ^ 31
  len : cs.length ≤ 110
theorem ks_cps {S z : Str} (h : z ∈ ksS S) : ∃ a c, z = mkS [a, c] ∧ a ∈ S.cps.toList ∧ (c = 45 ∨ c ∈ S.cps.toList) := by
  unfold ksS at h
  obtain ⟨e, he, rfl⟩ := List.mem_map.mp h
  obtain ⟨i, hi, he⟩ := kinds_mem he
  unfold kindsAt at he
  obtain ⟨c, hc, rfl⟩ := List.mem_map.mp he
  have zl : S.cps.toList.length = S.length := Array.length_toList
  obtain ⟨a, ha⟩ : ∃ a, S.cps.toList[i]? = some a := ⟨S.cps.toList[i]'(by omega), by simp [show i < S.cps.toList.length by omega]⟩
  refine ⟨a, c, by show mkS [(S.cps.toList[i]?).getD 0, c] = _; rw [ha]; rfl, List.mem_of_getElem? ha, ?_⟩
  rcases List.mem_append.mp hc with hc | hc
  · exact .inr (List.mem_of_mem_drop hc)
  · exact .inl (by simpa using hc)
end My
end
section
set_option Elab.async false
set_option linter.all false
set_option maxRecDepth 100000
set_option maxHeartbeats 4000000
/-! cases. -/
namespace My
open PySem PySem.Spec PyProof.Rows L2
abbrev c_init : Stmt := inCls c_cls 1
abbrev c_kinds : Stmt := inCls c_cls 5
abbrev c_size : Stmt := inCls c_cls 6
abbrev c_cont : Stmt := inCls c_cls 8
abbrev c_get : Stmt := inCls c_cls 9
/-- what a case keeps -/
def caseFs (fa d t : Addr) : List (Str × V) := putF "_plates" (.ref t) (putF "_counts" (.ref d) (putF "_font" (.ref fa) []))
theorem cfs_font (fa d t : Addr) : List.lookup ("_font" : Str) (caseFs fa d t) = some (V.ref fa) := rfl
theorem cfs_counts (fa d t : Addr) : List.lookup ("_counts" : Str) (caseFs fa d t) = some (V.ref d) := rfl
theorem cfs_plates (fa d t : Addr) : List.lookup ("_plates" : Str) (caseFs fa d t) = some (V.ref t) := rfl
/-- a case at a -/
structure CaseAt (H : Hp) (CC C a : Addr) (S : Str) (ps : List (Nat × Nat)) (cs : List (Str × Int)) : Prop where
  at_ : ∃ dx fa d t ys, H a = some (.ins CC dx (caseFs fa d t)) ∧ FontAt H C fa S ps ∧ H d = some (.dK (toS cs)) ∧ H t = some (.tup ys) ∧ EntAt H cs ys
theorem CaseAt.same {H H1 : Hp} {CC C a : Addr} {S : Str} {ps : List (Nat × Nat)} {cs : List (Str × Int)} (s : Same H H1) (h : CaseAt H CC C a S ps cs) : CaseAt H1 CC C a S ps cs := by
  obtain ⟨dx, fa, d, t, ys, h1, h2, h3, h4, h5⟩ := h.at_
  exact ⟨dx, fa, d, t, ys, s _ _ h1, h2.same s, s _ _ h3, s _ _ h4, h5.same s⟩
/-- what a class of instances tells of its own store -/
structure CCls (K : PySem.W.Frag) (CC : Addr) : Prop where
  cls : Cls K CC
  nF : NoAttr K CC "_font"
  nC : NoAttr K CC "_counts"
  nP : NoAttr K CC "_plates"
/-- counts a case may have: its keys are kinds, each once -/
structure CsOk (S : Str) (cs : List (Str × Int)) : Prop where
  nd : (cs.map (·.1)).Nodup
  inS : ∀ e ∈ cs, e.1 ∈ ksS S
  len : cs.length ≤ 110
theorem cntd_ok {S : Str} (hS : S.length ≤ 10) (nd : S.cps.toList.Nodup) (no : 45 ∉ S.cps.toList) (es : List (Str × Int)) : CsOk S (cntd S es) := by
  refine ⟨?_, fun e he => ?_, ?_⟩
  · unfold cntd
    rw [List.map_map]
    have : ((fun e : Str × Int => e.1) ∘ fun k : Str => (k, (ctK (es.map fun e => (keptZ S e.1, e.2)) k).getD 0)) = id := rfl
    rw [this, List.map_id]
    exact (ksS_nd nd no).sublist List.filter_sublist
  · unfold cntd at he
    obtain ⟨k, hk, rfl⟩ := List.mem_map.mp he
    exact (List.mem_filter.mp hk).1
  · unfold cntd
    rw [List.length_map]
    exact Nat.le_trans (List.length_filter_le _ _) (ksS_len hS)
/-- a comprehension over entries -/
theorem lc_ent {K : PySem.W.Frag} {cs : List (Str × Int)} {xs : List V} {J : It} {G : Hp → Prop} (w : Walk J xs.length G (YAt xs)) {H1 : Hp} (hE : EntAt H1 cs xs) {i j : Nat} {vs : List Nat} {σ : L2.St} {D : Addr} {te : TE} {Qd : Hp → Prop} (f : Str × Int → V) (free : H1 D = none)
    (hG : ∀ H', Same H1 H' → G H') (small : xs.length < sizeLine) (hw : ∀ x y, wipe (((wipe σ vs).set i (some x)).set j (some y)) vs = wipe σ vs)
    (he : ∀ e H' (C : VK), e ∈ cs → Same H1 H' → (∀ H4, Same H' H4 → C (f e) H4) → te (((wipe σ vs).set i (some (.str e.1))).set j (some (.int e.2))) H' C) (hd : ∀ H', Same H1 H' → H' D = some (.lst (cs.map f)) → Qd H') :
    ∃ W : Nat → Nat → Hp → Prop, (∃ m, W 0 m (upd H1 D (.lst []))) ∧ ∀ k m H, W k m H →
      (J.stop k H ∧ Qd H) ∨ (J.go k H ∧ ∃ Nx : Hp → Prop, (∀ H', Nx H' → ∃ m', m' < m ∧ W (k + 1) m' H') ∧ ∀ x H', J.yld k H x H' → gTup K 2 (gCons (gName i) (gCons (gName j) gNil)) x (wipe σ vs) H' fun σ2 H2 => wipe σ2 vs = wipe σ vs ∧ tYes σ2 H2 fun b H3 =>
        if b = true then te σ2 H3 fun y H4 => ∃ acc, H4 D = some (.lst acc) ∧ acc.length < sizeLine ∧ Nx (upd H4 D (.lst (acc ++ [y]))) else Nx H3) := by
  have hl : cs.length = xs.length := Paired.length hE
  refine lcw w (fun k H' => Same H1 H' ∧ H' D = some (.lst ((cs.take k).map f))) ⟨Same.wr (Same.refl H1) free .mk', upd_same⟩ (fun k H' _ q => hG H' q.1) ?_ ?_
  · rintro k x H2 H3 hk ⟨s, hD⟩ ⟨rfl, hx⟩
    obtain ⟨e, hek, q, rfl, hq⟩ := Paired.at hE hx
    refine ⟨q, _, rfl, SqT.of (s _ _ hq), rfl, _, _, rfl, _, _, rfl, rfl, hw _ _, ?_⟩
    unfold tYes
    show (if true = true then _ else _)
    rw [if_pos rfl]
    refine he e H3 _ (List.mem_of_getElem? hek) s fun H4 s4 => ⟨_, s4 _ _ hD, ?_, Same.wr (s.trans s4) free .mk', ?_⟩
    · rw [List.length_map, List.length_take]
      omega
    · rw [upd_same, List.take_add_one, hek, List.map_append]
      rfl
  · rintro H' ⟨s, hD⟩
    rw [← hl, List.take_length] at hD
    exact hd H' s hD
def sp_cinit (K : PySem.W.Frag) (CC C : Addr) : Sp := fun vs H Q _ => ∃ (a dx fa b p : Addr) (d : PyData) (S : Str) (ps : List (Nat × Nat)) (es : List (Str × Int)) (ys : List V), vs = [.ref a, .ref fa, .ref b] ∧ H a = some (.ins CC dx []) ∧ Rp K p H false (.ref b) d ∧ isSeqD d = true ∧ FontAt H C fa S ps ∧ S.length ≤ 10 ∧ S.cps.toList.Nodup ∧ 45 ∉ S.cps.toList ∧ (SqL K H b ys ∨ SqT K H b ys) ∧ EntAt H es ys ∧ EntOk S es ∧
  ∀ H', But a H H' → CaseAt H' CC C a S ps (cntd S es) → Q .non H'
def sp_ckinds (CC C : Addr) : Sp := fun vs H Q _ => ∃ (a : Addr) (S : Str) (ps : List (Nat × Nat)) (cs : List (Str × Int)), vs = [.ref a] ∧ CaseAt H CC C a S ps cs ∧ cs.length ≤ 110 ∧ ∀ H' r, Same H H' → H r = none → H' r = some (.tup ((cs.map (·.1)).map V.str)) → Q (.ref r) H'
def sp_csize (CC C : Addr) : Sp := fun vs H Q _ => ∃ (a : Addr) (S : Str) (ps : List (Nat × Nat)) (cs : List (Str × Int)), vs = [.ref a] ∧ CaseAt H CC C a S ps cs ∧ cs.length ≤ 110 ∧ ∀ H', Same H H' → Q (.int (cs.map (·.2)).sum) H'
/-- the count of a value that is a kind -/
def keptD' (S : Str) : PyData → Str
  | .str z => keptZ S z
  | _ => ⟨#[]⟩
def sp_ccont (K : PySem.W.Frag) (CC C : Addr) : Sp := fun vs H Q _ => ∃ (a p : Addr) (S : Str) (ps : List (Nat × Nat)) (cs : List (Str × Int)) (v : V) (d : PyData), vs = [.ref a, v] ∧ CaseAt H CC C a S ps cs ∧ S.length ≤ 10 ∧ Rp K p H false v d ∧ textFits 4000 d ∧ ∀ H', Same H H' → Q (.bl (kindD S d && (ctK cs (keptD' S d)).isSome)) H'
def sp_cget (K : PySem.W.Frag) (CC C IK : Addr) : Sp := fun vs H Q E => ∃ (a p : Addr) (S : Str) (ps : List (Nat × Nat)) (cs : List (Str × Int)) (v : V) (d : PyData), vs = [.ref a, v] ∧ CaseAt H CC C a S ps cs ∧ S.length ≤ 10 ∧ Rp K p H false v d ∧ textFits 4000 d ∧
  (kindD S d = false → Err E IK v H) ∧ (kindD S d = true → ∀ H', Same H H' → Q (.int ((ctK cs (keptD' S d)).getD 0)) H')
section
variable {P : Program} {w : World} {K : PySem.W.Frag} {mg : Str → Option Value} {base : Heap}
abbrev NCi : List Str := ["self", "font", "plates", "counts", "kind"]
theorem sc_cinit : FnScope NCi ["self", "font", "plates"] (defScope c_init) := ⟨rfl, rfl, rfl, by decide +kernel, rfl, by decide +kernel, by decide +kernel⟩
theorem ok_cinit {f CC C fC : Addr} {fd fdC : FuncData} {dvs : List V} (F : FunD K "__init__" "Case.__init__" (defArgs c_init) (defBody c_init) (defScope c_init) dvs [] f fd) (T : TB mg) (cc : CCls K CC) (DC : Def K mg "_counted" fC fdC ["font", "plates"]) (GC : FnOk P w K mg base CX0 5 fC fdC ["font", "plates"] (sp_counted K C)) :
    FnOk P w K mg base CX0 6 f fd ["self", "font", "plates"] (sp_cinit K CC C) := by
  refine F.ok sc_cinit (fun vs H Q E h => ?_) (fun cdv A outer s H vs Q E hr h => ?_)
  · obtain ⟨a, dx, fa, b, p, d, S, ps, es, ys, rfl, _⟩ := h
    rfl
  · obtain ⟨a, dx, fa, b, p, d, S, ps, es, ys, rfl, ha, hd, hsd, hF, hS, nd, no, hsq, hE, ok, k⟩ := h
    have hu := hu_of hr
    refine ⟨_, PSs.nox (pss_cons (ps_set (i := 3) sc_cinit.nd rfl (Or.inr rfl) (pe_call GC hr rfl DC.mgf DC.kp DC.bd .nil pass0 (pa_cons (pv 1) (pa_cons (pv 2) pa_nil))))
      (pss_cons (ps_fld (pv 0) (pv 1) rfl)
      (pss_cons (ps_fld (pv 0) (pv 3) rfl)
      (pss_one (ps_fld (pv 0) (pe_callTy call_tupOfL (by rfl) T.tuple (by decide +kernel) (pa_cons (by exact (pe_lock (pe_lc (own := [("kind", 4)]) (g := gName 4) (tt := tYes) rfl sc_cinit.nd (pi_keys (pv 3)) (blkOk_by (own := [("kind", 4)]) (N := NCi) (sc := defScope c_init) (by decide +kernel))
        (fun _ _ _ _ _ => pg_name (i := 4) sc_cinit.nd rfl (Or.inl rfl)) (fun _ _ _ _ _ => pts_nil) (fun _ _ _ _ _ => pe_tup' (pa_cons (pv 4) (pa_cons (pe_dget hu (pv 3) (pv 4) (fun _ _ => rfl)) pa_nil)))))) pa_nil)) rfl))))), ?_⟩
    refine ⟨_, rfl, _, rfl, fa, b, p, d, S, ps, es, ys, rfl, hd, hsd, hF, hS, nd, no, hsq, hE, ok, fun H1 r s1 fr hr1 => ?_⟩
    have ko := cntd_ok hS nd no es
    generalize cntd S es = cs at hr1 k ko
    have ha1 := s1 _ _ ha
    refine ⟨_, rfl, _, rfl, a, CC, dx, [], rfl, ha1, cc.cls, cc.nF, by decide, ?_⟩
    have w2 : Wr H1 a (.ins CC dx (putF "_font" (.ref fa) [])) (upd H1 a (.ins CC dx (putF "_font" (.ref fa) []))) := .mk'
    generalize upd H1 a (HO.ins CC dx (putF "_font" (V.ref fa) [])) = H2 at w2 ⊢
    refine ⟨_, rfl, _, rfl, a, CC, dx, _, rfl, w2.here, cc.cls, cc.nC, (show 1 < 1000 by decide), ?_⟩
    have w3 : Wr H2 a (.ins CC dx (putF "_counts" (.ref r) (putF "_font" (.ref fa) []))) (upd H2 a (.ins CC dx (putF "_counts" (.ref r) (putF "_font" (.ref fa) [])))) := .mk'
    generalize upd H2 a (HO.ins CC dx (putF "_counts" (V.ref r) (putF "_font" (V.ref fa) []))) = H3 at w3 ⊢
    have rne : r ≠ a := fun z => by rw [z, ha] at fr; cases fr
    have el : ∀ {q : Addr} {o : HO}, H1 q = some o → q ≠ a → H3 q = some o := fun {q o} e ne => (w3.els q ne).trans ((w2.els q ne).trans e)
    have r3 : H3 r = some (.dK (toS cs)) := el hr1 rne
    have F3 : FontAt H3 C fa S ps := by
      obtain ⟨fx, fr', fys, g1, g2, g3⟩ := (hF.same s1).at_
      have fneA : fa ≠ a := fun z => by
        rw [z, ha1] at g1
        have := Option.some.inj g1
        injection this with _ _ e
        cases e
      exact ⟨fx, fr', fys, el g1 fneA, el g2 (ne_of g2 ha1 (by intro z; cases z)), Paired.map (fun e y hy => by
        obtain ⟨q, e1, e2⟩ := hy
        exact ⟨q, e1, el e2 (ne_of e2 ha1 (by intro z; cases z))⟩) g3⟩
    refine ⟨r, _, r3, trivial, fun od => ?_⟩
    have lk : (upd H3 r (.frz od (.dK (toS cs)))) r = some (.frz od (.dK (toS cs))) := locked
    have bk : ∀ H', Same (upd H3 r (.frz od (.dK (toS cs)))) H' → Same H3 (upd H' r (.dK (toS cs))) := fun H' s => unlock r3 s
    generalize upd H3 r (HO.frz od (.dK (toS cs))) = H4 at lk bk ⊢
    have hz : cs.length = ((toS cs).map fun e => kV e.1).length := by simp [toS]
    have small : ((toS cs).map fun e => kV e.1).length < sizeLine := by rw [← hz]; exact Nat.lt_of_le_of_lt ko.len (by decide)
    refine ⟨_, rfl, r, od, rfl, .inl ⟨_, lk, fun D hD => ?_⟩⟩
    have nD : D ≠ r := fun z => by rw [z, lk] at hD; cases hD
    refine lc_pair walk_ks cs hz (fun _ => true) (fun e y H' => ∃ q, q ≠ r ∧ y = V.ref q ∧ H' q = some (.tup [.str e.1, .int e.2])) ?_ hD (fun H' s => s _ _ lk) small (fun x => rfl) (fun _ _ _ H' C _ _ _ h => h H' (Same.refl _)) ?_ ?_
    · rintro e y H5 H6 ⟨zs, hl5⟩ hb ⟨q, n1, e1, hq⟩
      exact ⟨q, n1, e1, hb q _ (ne_of hq hl5 (by intro z; cases z)) hq⟩
    · intro j x e H' C' hx he _ s hC
      have ek : x = .str e.1 := by
        rw [toS_ks, List.map_map, List.getElem?_map, he] at hx
        exact (Option.some.inj hx).symm
      subst ek
      have dg := dget_frzK e.1 (s _ _ lk)
      rw [ctK_nd ko.nd (List.mem_of_getElem? he)] at dg
      refine ⟨_, rfl, _, rfl, _, rfl, r, _, rfl, dg, by show 2 ≤ sizeLine; decide, fun q H6 n6 => hC H6 _ n6.same ⟨q, fun z => ?_, rfl, n6.here⟩⟩
      have := s _ _ lk
      rw [← z, n6.free] at this
      cases this
    · intro H5 ys2 s5 hD5 hP
      rw [pv_filter_true] at hP
      have s35 := bk H5 s5
      have lk5 := s5 _ _ lk
      refine ⟨lk5, D, ys2, rfl, SqL.of (by rw [upd_ne nD]; exact hD5), fun t H6 n6 => ?_⟩
      have s36 := s35.trans n6.same
      have ha6 := s36 _ _ w3.here
      refine ⟨_, rfl, a, CC, dx, _, rfl, ha6, cc.cls, cc.nP, (show 2 < 1000 by decide), ?_⟩
      have w7 : Wr H6 a (.ins CC dx (caseFs fa r t)) (upd H6 a (.ins CC dx (caseFs fa r t))) := .mk'
      have B : But a H (upd H6 a (.ins CC dx (caseFs fa r t))) := (((But.of s1).trans w2.but).trans w3.but).trans ((But.of s36).trans w7.but)
      refine k _ B ⟨dx, fa, r, t, ys2, w7.here, ?_, ?_, ?_, ?_⟩
      · obtain ⟨fx, fr', fys, g1, g2, g3⟩ := (F3.same s36).at_
        have eh : ∀ {q : Addr} {o : HO}, H6 q = some o → q ≠ a → (upd H6 a (.ins CC dx (caseFs fa r t))) q = some o := fun {q o} e ne => (w7.els q ne).trans e
        have fneA : fa ≠ a := fun z => by
          rw [z, ha6] at g1
          have := Option.some.inj g1
          injection this with _ _ e
          cases e
        exact ⟨fx, fr', fys, eh g1 fneA, eh g2 (ne_of g2 ha6 (by intro z; cases z)), Paired.map (fun e y hy => by
          obtain ⟨q, e1, e2⟩ := hy
          exact ⟨q, e1, eh e2 (ne_of e2 ha6 (by intro z; cases z))⟩) g3⟩
      · exact (w7.els r rne).trans (s36 _ _ r3)
      · have : t ≠ a := ne_of n6.here ha6 (by intro z; cases z)
        exact (w7.els t this).trans n6.here
      · refine Paired.map (fun e y hy => ?_) hP
        obtain ⟨q, n1, e1, e2⟩ := hy
        have q6 : H6 q = some (.tup [.str e.1, .int e.2]) := n6.same _ _ (by rw [upd_ne n1]; exact e2)
        exact ⟨q, e1, (w7.els q (ne_of q6 ha6 (by intro z; cases z))).trans q6⟩
end
end My
end
section
set_option Elab.async false
set_option linter.all false
set_option maxRecDepth 100000
set_option maxHeartbeats 4000000
/-! Qflips: drawn entries. -/
namespace My
open PySem PySem.Spec PyProof.Rows L2 LamX
section
variable {H H1 : Hp} {CC C a t t1 b d : Addr} {S : Str} {ys : List V} {ps : List (Nat × Nat)} {cs : List (Str × Int)}
theorem EntAt.pen {p c : Addr} {n : Nat} (hP : PenAt H p c n) (s : But p H H1) (h : EntAt H cs ys) : EntAt H1 cs ys := Paired.map (fun e y hy => by
  obtain ⟨q, e1, e2⟩ := hy
  exact ⟨q, e1, s _ _ (hP.neT e2) e2⟩) h
theorem EntAt.ext (s : ExtN H H1) (h : EntAt H cs ys) : EntAt H1 cs ys := Paired.map (fun e y hy => by
  obtain ⟨q, e1, e2⟩ := hy
  exact ⟨q, e1, s _ _ e2 (fun _ z => by cases z)⟩) h
theorem CaseAt.pen {p c : Addr} {n : Nat} (hP : PenAt H p c n) (s : But p H H1) (h : CaseAt H CC C a S ps cs) : CaseAt H1 CC C a S ps cs := by
  obtain ⟨dx, fa, dd, tp, es, h1, h2, h3, h4, h5⟩ := h.at_
  obtain ⟨_, u, z, hp, _⟩ := id hP
  exact ⟨dx, fa, dd, tp, es, s _ _ (ne_of h1 hp (by intro z; cases z)) h1, h2.pen hP s, s _ _ (hP.neK h3) h3, s _ _ (hP.neT h4) h4, h5.pen hP s⟩
theorem CaseAt.ext (s : ExtN H H1) (h : CaseAt H CC C a S ps cs) : CaseAt H1 CC C a S ps cs := by
  obtain ⟨dx, fa, dd, tp, es, h1, h2, h3, h4, h5⟩ := h.at_
  exact ⟨dx, fa, dd, tp, es, s _ _ h1 (fun _ z => by cases z), h2.ext s, s _ _ h3 (fun _ z => by cases z), s _ _ h4 (fun _ z => by cases z), h5.ext s⟩
theorem PlainAt.same (s : Same H H1) (h : PlainAt H t t1 b d S ys ps cs) : PlainAt H1 t t1 b d S ys ps cs := ⟨s _ _ h.h0, s _ _ h.h1, s _ _ h.h2, h.h3.same s, s _ _ h.h4⟩
theorem PlainAt.pen {p c : Addr} {n : Nat} (hP : PenAt H p c n) (s : But p H H1) (h : PlainAt H t t1 b d S ys ps cs) : PlainAt H1 t t1 b d S ys ps cs := ⟨s _ _ (hP.neT h.h0) h.h0, s _ _ (hP.neT h.h1) h.h1, s _ _ (hP.neL h.h2) h.h2, h.h3.pen hP s, s _ _ (hP.neK h.h4) h.h4⟩
theorem PlainAt.ext (s : ExtN H H1) (h : PlainAt H t t1 b d S ys ps cs) : PlainAt H1 t t1 b d S ys ps cs := ⟨s _ _ h.h0 (fun _ z => by cases z), s _ _ h.h1 (fun _ z => by cases z), s _ _ h.h2 (fun _ z => by cases z), h.h3.ext s, s _ _ h.h4 (fun _ z => by cases z)⟩
end
/-! ### the mathematics of flipped kinds -/
def FlipR (cs : List (Str × Int)) (k : Str) (e : Str × Int) : Prop := (∃ x y, k = mkS [x, y] ∧ (e.1 = mkS [x, y] ∨ e.1 = mkS [y, x])) ∧ e.2 = gC cs k
theorem ks_ok {S z : Str} (nd : S.cps.toList.Nodup) (no : 45 ∉ S.cps.toList) (h : z ∈ ksS S) : ∃ a c, z = mkS [a, c] ∧ KindOk S a c := by
  unfold ksS at h
  obtain ⟨e, he, rfl⟩ := List.mem_map.mp h
  exact ⟨e.1, e.2, rfl, kind_ok nd no he⟩
theorem mkS_two {x y a c : Nat} (h : mkS [x, y] = mkS [a, c]) : x = a ∧ y = c := by
  have h := congrArg (fun q : Str => q.cps.toList) h
  have h : [x, y] = [a, c] := by simpa using h
  simpa using h
theorem flip_kept {S : Str} {cs : List (Str × Int)} {k : Str} {e : Str × Int} (nd : S.cps.toList.Nodup) (no : 45 ∉ S.cps.toList) (hk : k ∈ ksS S) (h : FlipR cs k e) : keptZ S e.1 = k ∧ kindD S (.str e.1) = true := by
  obtain ⟨a, c, rfl, ko⟩ := ks_ok nd no hk
  obtain ⟨⟨x, y, ek, he⟩, _⟩ := h
  obtain ⟨rfl, rfl⟩ := mkS_two ek
  have ba : sideB S a = true := side_of (.inr ko.am)
  have bc : sideB S c = true := side_of ko.cm
  rcases he with he | he
  · rw [he]
    exact ⟨kept_first ko, kind_yes no ba bc ko.am (.inl rfl)⟩
  · rw [he]
    exact ⟨kept_turned ko, kind_yes no bc ba ko.am (.inr rfl)⟩
theorem csp_ok {S : Str} {B : Int} {cs : List (Str × Int)} (hS : S.length ≤ 10) (nd : S.cps.toList.Nodup) (no : 45 ∉ S.cps.toList) (hB : B ≤ 10 ^ 31) (h : CsP S B cs) : CsB S cs := by
  obtain ⟨f, rfl, hf⟩ := h
  refine ⟨ordC_nd f (ksS_nd nd no), fun e he => (ordC_mem.mp he).1, fun e he => ?_, ?_⟩
  · obtain ⟨_, h1, h2⟩ := ordC_mem.mp he
    rw [h2]
    have := hf e.1
    exact ⟨by omega, by omega⟩
  · unfold ordC
    rw [List.length_map]
    exact Nat.le_trans (List.length_filter_le _ _) (ksS_len hS)
theorem flips_ok {S : Str} {B : Int} {cs es : List (Str × Int)} {l : List Str} (hS : S.length ≤ 10) (nd : S.cps.toList.Nodup) (no : 45 ∉ S.cps.toList) (hB : B ≤ big30) (h : CsP S B cs) (hl : l.Perm (cs.map (·.1))) (hp : Paired (FlipR cs) l es) : EntOk S es ∧ cntd S es = cs := by
  obtain ⟨f, ec, hf⟩ := h
  have knd := ksS_nd nd no
  have cnd : (cs.map (·.1)).Nodup := by rw [ec]; exact ordC_nd f knd
  have lnd : l.Nodup := hl.nodup_iff.mpr cnd
  have lin : ∀ k ∈ l, k ∈ ksS S ∧ 0 < f k ∧ gC cs k = f k := fun k hk => by
    obtain ⟨e, he, rfl⟩ := List.mem_map.mp (hl.mem_iff.mp hk)
    have he' := he
    rw [ec] at he'
    obtain ⟨h1, h2, h3⟩ := ordC_mem.mp he'
    refine ⟨h1, h2, ?_⟩
    unfold gC
    rw [ctK_nd cnd he]
    exact h3
  have key : ∀ {l : List Str} {es : List (Str × Int)}, Paired (FlipR cs) l es → (∀ k ∈ l, k ∈ ksS S ∧ 0 < f k ∧ gC cs k = f k) → (es.map fun e => (keptZ S e.1, e.2)) = l.map (fun k => (k, gC cs k)) ∧ ∀ e ∈ es, kindD S (.str e.1) = true ∧ 1 ≤ e.2 ∧ e.2 ≤ big30 := by
    intro l es hp
    induction hp with
    | nil => intro _; exact ⟨rfl, fun e he => by cases he⟩
    | cons hr _ ih =>
      rename_i k e l es _
      intro hin
      obtain ⟨i1, i2⟩ := ih fun x hx => hin x (List.mem_cons_of_mem _ hx)
      obtain ⟨j1, j2, j3⟩ := hin k List.mem_cons_self
      obtain ⟨k1, k2⟩ := flip_kept nd no j1 hr
      refine ⟨?_, fun x hx => ?_⟩
      · rw [List.map_cons, List.map_cons, i1, k1, hr.2]
      · rcases List.mem_cons.mp hx with rfl | hx
        · refine ⟨k2, ?_⟩
          rw [hr.2, j3]
          have := hf k
          exact ⟨by omega, by omega⟩
        · exact i2 x hx
  obtain ⟨e1, e2⟩ := key hp lin
  have ln : es.length = cs.length := by
    rw [← Paired.length hp, hl.length_eq, List.length_map]
  have perm : (es.map fun e => (keptZ S e.1, e.2)).Perm cs := by
    rw [e1]
    have p1 := hl.map fun k => (k, gC cs k)
    have e3 : (cs.map (·.1)).map (fun k => (k, gC cs k)) = cs := by
      rw [List.map_map]
      have : ∀ e ∈ cs, ((fun k => (k, gC cs k)) ∘ fun e : Str × Int => e.1) e = e := fun e he => by
        show (e.1, gC cs e.1) = e
        unfold gC
        rw [ctK_nd cnd he]
        rfl
      rw [List.map_congr_left this]
      exact List.map_id _
    rw [e3] at p1
    exact p1
  refine ⟨⟨fun e he => (e2 e he).1, fun e he => (e2 e he).2, ?_, ?_⟩, ?_⟩
  · have : (es.map fun e => keptZ S e.1) = l := by
      have h := congrArg (List.map (·.1)) e1
      rw [List.map_map, List.map_map] at h
      have h : (es.map fun e => keptZ S e.1) = l.map fun k => k := h
      rw [h, List.map_id']
    rw [this]
    exact lnd
  · rw [ln, ec]
    unfold ordC
    rw [List.length_map]
    exact Nat.le_trans (Nat.le_trans (List.length_filter_le _ _) (ksS_len hS)) (by decide)
  · unfold cntd
    have ct : ∀ k, ctK (es.map fun e => (keptZ S e.1, e.2)) k = ctK cs k := fun k => ctK_perm cnd perm k
    simp only [ct]
    rw [ec]
    have g1 : ∀ k ∈ ksS S, ctK (ordC (ksS S) f) k = if 0 < f k then some (f k) else none := fun k hk => ordC_ct knd hk
    have g2 : (ksS S).filter (fun k => (ctK (ordC (ksS S) f) k).isSome) = (ksS S).filter fun k => decide (0 < f k) := by
      apply List.filter_congr
      intro k hk
      rw [g1 k hk]
      by_cases q : 0 < f k
      · rw [if_pos q, decide_eq_true q]; rfl
      · rw [if_neg q, decide_eq_false q]; rfl
    rw [g2]
    show ((ksS S).filter fun k => decide (0 < f k)).map _ = ((ksS S).filter fun k => decide (0 < f k)).map _
    apply List.map_congr_left
    intro k hk
    obtain ⟨k1, k2⟩ := List.mem_filter.mp hk
    rw [g1 k k1, if_pos (of_decide_eq_true k2)]
    rfl
/-! ### Case(..) -/
end My
end
section
set_option Elab.async false
set_option linter.all false
set_option maxRecDepth 100000
set_option maxHeartbeats 4000000
/-! B5: x[::-1] of any text, of any list. -/
namespace My
open PySem PySem.Spec PyProof.Rows L2
/-- x[::-1], x a text: some text of its signs, not longer -/
def tRevT (te : TE) : TE := fun σ H Q => te σ H fun v H1 => ∃ z : Str, v = .str z ∧ z.length ≤ 1000 ∧ ∀ y : Str, y.length ≤ z.length → (∀ c ∈ y.cps.toList, c ∈ z.cps.toList) → Q (.str y) H1
/-- x[::-1], x a list -/
def tRevL (K : PySem.W.Frag) (te : TE) : TE := fun σ H Q => te σ H fun v H1 => ∃ (a : Addr) (xs : List V), v = .ref a ∧ SqL K H1 a xs ∧ ∀ p H2, New H1 p (.lst xs.reverse) H2 → Q (.ref p) H2
section
variable {X : Cx} {e : Expr} {te : TE} {k : Nat} {p1 p2 p3 pos : Pos}
theorem back_open {pins : List (Addr × Obj)} {σ : L2.St} {H1 : Hp} {s1 : Shared} {v : Value} {Q' : Value → Shared → Prop} (I1 : Inv X pins σ H1 s1)
    (q : ∀ (s4 : Shared) (vs : Value), Inv X pins σ H1 s4 → IsPart vs (some (-1)) → wpAny (model X.prog X.w) X.A (subscriptTail e (.Slice none none (some (.UnaryOp .USub (.Constant (.int 1) k p1) p2)) p3) v (.ref s4.heap.objs.size)) Q' X.xe { s4 with heap := s4.heap.push { cls := .type "slice", data := .fields #[.none, .none, vs] } }) :
    wpAny (model X.prog X.w) X.A (eval (.Slice none none (some (.UnaryOp .USub (.Constant (.int 1) k p1) p2)) p3) X.env) (fun sl s' => wpAny (model X.prog X.w) X.A (subscriptTail e (.Slice none none (some (.UnaryOp .USub (.Constant (.int 1) k p1) p2)) p3) v sl) Q' X.xe s') X.xe s1 := by
  have stepP : PO X (some (.UnaryOp .USub (.Constant (.int 1) k p1) p2)) (tPart (tUn (rU fun i => .int (-i)) (tC (.int 1)))) := po_some (pe_un un_neg pe_int)
  apply wpAny_Slice
  apply thn (po_none.run pins s1 σ H1 (fun o G => o = none ∧ G = H1) I1 ⟨rfl, rfl⟩)
  rintro vl s2 ⟨l, H2, I2, pl, rfl, rfl⟩
  apply thn (po_none.run pins s2 σ _ (fun o G => o = none ∧ G = H2) I2 ⟨rfl, rfl⟩)
  rintro vu s3 ⟨u, H3, I3, pu, rfl, rfl⟩
  apply thn (stepP.run pins s3 σ _ (fun o G => o = some (-1) ∧ G = H3) I3 ⟨1, rfl, -1, rfl, rfl, rfl⟩)
  rintro vs s4 ⟨o, H4, I4, ps, rfl, rfl⟩
  cases pl
  cases pu
  exact q s4 vs I4 ps
theorem pe_revT (he : PE X e te) : PE X (.Subscript e (.Slice none none (some (.UnaryOp .USub (.Constant (.int 1) k p1) p2)) p3) pos) (tRevT te) := by
  constructor
  intro pins s σ H Q I want
  apply Subscript_
  apply thn (he.run pins s σ H _ I want)
  rintro v s1 ⟨v', H1, I1, r1, z, rfl, hz, q⟩
  obtain ⟨t, rfl⟩ := r1
  refine back_open I1 fun s4 vs I4 ps => ?_
  have I5 : Inv X pins σ H1 { s4 with heap := s4.heap.push { cls := .type "slice", data := .fields #[.none, .none, vs] } } := I4.kept (t' := s4.toks) fun b ob z => Heap.get?_push_of_some _ z
  obtain ⟨st, rfl, es⟩ := IsPart.raw ps
  refine tail_any (ops := [.str z t, .ref s4.heap.objs.size]) (typeIs_str _ _ _) slot_str_getitem.lookup ?_ (by with_unfolding_all rfl)
  refine wpAny_getItem_str_slice (l := none) (u := none) (st := st) (Heap.IsSliceOf.new _ _ _ _) (by rw [es]; decide) ?_
  cases st with
  | none => cases es
  | some q1 =>
  obtain ⟨i, tk⟩ := q1
  obtain rfl : i = -1 := Option.some.inj es
  have hp : slicePicked z none none (some (-1, tk)) = (List.range z.length).reverse := by
    show PySem.sliceRange ((z.length : Int) - 1) (-1) (-1) = _
    rw [PySem.W.krv_sliceRange, PySem.W.krv_range]
  unfold sliceMade
  rw [hp, if_neg (by simp)]
  have le : (⟨(((List.range z.length).reverse).filterMap (z.cps[·]?)).toArray⟩ : Str).length ≤ z.length := by
    show (((List.range z.length).reverse).filterMap (z.cps[·]?)).toArray.size ≤ _
    rw [List.size_toArray]
    refine Nat.le_trans (List.length_filterMap_le _ _) ?_
    rw [List.length_reverse, List.length_range]
    exact Nat.le_refl _
  refine ⟨Nat.le_trans le (Nat.le_trans hz (by decide)), .str _, _, I5.tok _, ⟨_, rfl⟩, q _ le fun c hc => ?_⟩
  obtain ⟨j, _, ej⟩ := List.mem_filterMap.mp hc
  have := Array.mem_of_getElem? ej
  simpa using this
theorem pe_revL (he : PE X e te) : PE X (.Subscript e (.Slice none none (some (.UnaryOp .USub (.Constant (.int 1) k p1) p2)) p3) pos) (tRevL X.K te) := by
  constructor
  intro pins s σ H Q I want
  apply Subscript_
  apply thn (he.run pins s σ H _ I want)
  rintro v s1 ⟨v', H1, I1, r1, a, xs, rfl, hx, q⟩
  cases r1
  refine back_open I1 fun s4 vs I4 ps => ?_
  have I5 : Inv X pins σ H1 { s4 with heap := s4.heap.push { cls := .type "slice", data := .fields #[.none, .none, vs] } } := I4.kept (t' := s4.toks) fun b ob z => Heap.get?_push_of_some _ z
  obtain ⟨its, r, ht, hz⟩ := I5.list hx
  refine tail_any (ops := [.ref a, .ref s4.heap.objs.size]) ht.isList.typeIs slot_list_getitem.lookup ?_ (by with_unfolding_all rfl)
  refine wpAny_getItem_list_slice ht.isList (Heap.IsSliceOf.new _ _ _ _) .none .none ps (by decide) ?_ (by rw [List.size_toArray, ← r.length]; exact hz)
  rw [PySem.W.krv_pick]
  refine ⟨.ref _, _, I5.laid (t' := s4.toks) (o := .lst xs.reverse) (fun b ob z => Heap.get?_push_of_some _ z) (Nat.le_refl _) ?_, rfl, q _ _ (.mk' (I5.hok.fresh (Nat.le_refl _)))⟩
  exact ⟨by rw [List.length_reverse]; exact hz, _, 0, r.reverse, Heap.get?_push_size _ rfl⟩
end
end My
end
section
set_option Elab.async false
set_option linter.all false
set_option maxRecDepth 100000
set_option maxHeartbeats 4000000
/-! B6: new lists and where they stand. -/
namespace My
open PySem PySem.Spec PyProof.Rows L2
section
variable {X : Cx}
/-- a part of a list, and where it stands -/
def qSlB (K : PySem.W.Frag) : V → Option Int → Option Int → Hp → VK → Prop := fun x lo hi H Q => ∃ a xs, x = .ref a ∧ SqL K H a xs ∧ ∀ p H', p ≠ sysModules → New H p (.lst (cutV xs lo hi)) H' → Q (.ref p) H'
theorem sl_listB : SlR X (qSlB X.K) := by
  intro pins s σ H x v vl vu lo hi sl Q I rx slice pl pu want
  obtain ⟨a, xs, rfl, hx, q⟩ := want
  cases rx
  obtain ⟨its, r, at_, fits⟩ := I.list hx
  have len := r.length
  refine ⟨"list", _, slot_list_getitem.lookup, at_.isList.typeIs, wpAny_getItem_list_slice at_.isList slice pl pu .none (by simp) ?_ (by rw [List.size_toArray]; omega)⟩
  rw [slicePick_cut, ← len]
  have free : H s.heap.objs.size = none := I.hok.fresh (Nat.le_refl _)
  have laid : ObjOk X.prog X.w (upd H s.heap.objs.size (.lst (cutV xs lo hi))) (s.heap.push { cls := .type "list", data := .seq (((its.drop (HT.sIx xs.length 0 lo)).take (HT.sIx xs.length xs.length hi - HT.sIx xs.length 0 lo)).toArray) }) s.heap.objs.size (.lst (cutV xs lo hi)) :=
    ⟨Nat.le_trans (cutV_length xs lo hi) fits, _, 0, (r.drop (HT.sIx xs.length 0 lo)).take _, Heap.get?_push_size _ rfl⟩
  exact ⟨.ref _, _, I.laid (t' := s.toks) (fun b ob z => Heap.get?_push_of_some _ z) (Nat.le_refl _) laid, rfl, q _ _ (Nat.ne_of_gt I.big) (.mk' free)⟩
/-- xs + ys, and where it stands -/
def qCatB : R2 := fun x y H Q => ∃ a b xs ys, x = .ref a ∧ y = .ref b ∧ H a = some (.lst xs) ∧ H b = some (.lst ys) ∧ xs.length + ys.length ≤ sizeLine ∧ ∀ p H', p ≠ sysModules → New H p (.lst (xs ++ ys)) H' → Q (.ref p) H'
theorem op_catB : OpR X (binaryOp .Add) qCatB := by
  intro pins s σ H x y v u Q I rx ry want
  obtain ⟨a, b, xs, ys, rfl, rfl, hA, hB, fits, q⟩ := want
  cases rx
  cases ry
  obtain ⟨z1, its1, n1, r1, l1, e1⟩ := I.lstM hA
  obtain ⟨z2, its2, n2, r2, l2, e2⟩ := I.lstM hB
  apply PySem.P.add_list e1 e2
  rw [show its1.toArray ++ its2.toArray = (its1 ++ its2).toArray by simp]
  exact ⟨.ref _, _, I.lnew (t' := s.toks) (r1.append r2) (by rw [List.length_append]; omega), rfl, q _ _ (Nat.ne_of_gt I.big) (.mk' I.fresh)⟩
/-- x[::-1], x a list, and where it stands -/
def tRevB (K : PySem.W.Frag) (te : TE) : TE := fun σ H Q => te σ H fun v H1 => ∃ (a : Addr) (xs : List V), v = .ref a ∧ SqL K H1 a xs ∧ ∀ p H2, p ≠ sysModules → New H1 p (.lst xs.reverse) H2 → Q (.ref p) H2
theorem pe_revB {e : Expr} {te : TE} {k : Nat} {p1 p2 p3 pos : Pos} (he : PE X e te) : PE X (.Subscript e (.Slice none none (some (.UnaryOp .USub (.Constant (.int 1) k p1) p2)) p3) pos) (tRevB X.K te) := by
  constructor
  intro pins s σ H Q I want
  apply Subscript_
  apply thn (he.run pins s σ H _ I want)
  rintro v s1 ⟨v', H1, I1, r1, a, xs, rfl, hx, q⟩
  cases r1
  refine back_open I1 fun s4 vs I4 ps => ?_
  have I5 : Inv X pins σ H1 { s4 with heap := s4.heap.push { cls := .type "slice", data := .fields #[.none, .none, vs] } } := I4.kept (t' := s4.toks) fun b ob z => Heap.get?_push_of_some _ z
  obtain ⟨its, r, ht, hz⟩ := I5.list hx
  refine tail_any (ops := [.ref a, .ref s4.heap.objs.size]) ht.isList.typeIs slot_list_getitem.lookup ?_ (by with_unfolding_all rfl)
  refine wpAny_getItem_list_slice ht.isList (Heap.IsSliceOf.new _ _ _ _) .none .none ps (by decide) ?_ (by rw [List.size_toArray, ← r.length]; exact hz)
  rw [PySem.W.krv_pick]
  refine ⟨.ref _, _, I5.laid (t' := s4.toks) (o := .lst xs.reverse) (fun b ob z => Heap.get?_push_of_some _ z) (Nat.le_refl _) ?_, rfl, q _ _ (Nat.ne_of_gt I5.big) (.mk' (I5.hok.fresh (Nat.le_refl _)))⟩
  exact ⟨by rw [List.length_reverse]; exact hz, _, 0, r.reverse, Heap.get?_push_size _ rfl⟩
end
end My
end
section
set_option Elab.async false
set_option linter.all false
set_option maxRecDepth 100000
set_option maxHeartbeats 4000000
namespace My
open PySem PySem.Spec PyProof.Rows L2 LamX
/-- a value that can be shown -/
structure Val (K : PySem.W.Frag) (p : Addr) (H : Hp) (v : V) (d : PyData) : Prop where
  rp : Rp K p H true v d
  fit : fit d = true
  dep : d.depth ≤ 5
  shw : d.showable = true
  len : d.shown.length ≤ 20000
  ln : lenD d ≤ 100
/-- a short text of plain characters -/
def Tx (n : Nat) (z : Str) : Prop := z.length ≤ n ∧ ∀ c ∈ z.cps.toList, c < 128
theorem Tx.mono {n m : Nat} {z : Str} (h : Tx n z) (l : n ≤ m) : Tx m z := ⟨Nat.le_trans h.1 l, h.2⟩
theorem Tx.cut {n : Nat} {z : Str} (h : Tx n z) (lo hi : Option Int) : Tx n (cutS z lo hi) := by
  constructor
  · refine Nat.le_trans ?_ h.1
    show ((z.cps.toList.drop (HT.sIx z.length 0 lo)).take (HT.sIx z.length z.length hi - HT.sIx z.length 0 lo)).toArray.size ≤ _
    rw [List.size_toArray, List.length_take, List.length_drop]
    have : z.cps.toList.length = z.length := Array.length_toList
    omega
  · intro c hc
    have hc : c ∈ (z.cps.toList.drop (HT.sIx z.length 0 lo)).take (HT.sIx z.length z.length hi - HT.sIx z.length 0 lo) := hc
    exact h.2 c (List.mem_of_mem_drop (List.mem_of_mem_take hc))
theorem Tx.add {n m : Nat} {a b : Str} (h : Tx n a) (k : Tx m b) : Tx (n + m) (a ++ b) := by
  constructor
  · rw [len_app]
    have := h.1
    have := k.1
    omega
  · intro c hc
    have hc : c ∈ (a.cps ++ b.cps).toList := hc
    rw [Array.toList_append] at hc
    rcases List.mem_append.mp hc with hc | hc
    · exact h.2 c hc
    · exact k.2 c hc
theorem Tx.one {c : Nat} (h : c < 128) : Tx 1 ⟨#[c]⟩ := ⟨Nat.le_refl _, fun x hx => by
  have : x = c := by simpa using hx
  exact this ▸ h⟩
theorem Tx.up {n : Nat} {z : Str} (h : Tx n z) : Tx n (Txt.upper z) := by
  rw [upper_ascii h.2]
  constructor
  · show (z.cps.map up1).size ≤ n
    rw [Array.size_map]
    exact h.1
  · intro c hc
    have hc : c ∈ (z.cps.map up1).toList := hc
    rw [Array.toList_map] at hc
    obtain ⟨x, hx, rfl⟩ := List.mem_map.mp hc
    have := h.2 x hx
    unfold up1
    split <;> omega
theorem Tx.len {n : Nat} {z : Str} (h : Tx n z) (hn : n ≤ 1000) : z.length ≤ sizeLine := Nat.le_trans h.1 (Nat.le_trans hn (by decide))
theorem tx_val {K : PySem.W.Frag} {p : Addr} {H : Hp} {z : Str} (h : Tx 100 z) : Val K p H (.str z) (.str z) := by
  refine ⟨.str _ _, ?_, Nat.zero_le _, rfl, ?_, Nat.zero_le _⟩
  · show decide (z.length ≤ 4000) = true
    exact decide_eq_true (Nat.le_trans h.1 (by decide))
  · refine Nat.le_trans (shown_wt _ ?_) ?_
    · simp only [chr, List.all_eq_true, decide_eq_true_eq]
      exact fun c hc => Nat.lt_trans (h.2 c hc) (by decide)
    · show 10 * z.length + 2 ≤ 20000
      have := h.1
      omega
theorem tx_big {K : PySem.W.Frag} {p : Addr} {H : Hp} {z : Str} (h : Tx 1000 z) : Val K p H (.str z) (.str z) := by
  refine ⟨.str _ _, ?_, Nat.zero_le _, rfl, ?_, Nat.zero_le _⟩
  · show decide (z.length ≤ 4000) = true
    exact decide_eq_true (Nat.le_trans h.1 (by decide))
  · refine Nat.le_trans (shown_wt _ ?_) ?_
    · simp only [chr, List.all_eq_true, decide_eq_true_eq]
      exact fun c hc => Nat.lt_trans (h.2 c hc) (by decide)
    · show 10 * z.length + 2 ≤ 20000
      have := h.1
      omega
section
variable {K : PySem.W.Frag} {p : Addr} {H H1 : Hp}
theorem two_rp {r : Addr} {v1 v2 : V} {d1 d2 : PyData} (hr : H r = some (.tup [v1, v2])) (ne : r ≠ p) (h1 : Rp K p H true v1 d1) (h2 : Rp K p H true v2 d2) : Rp K p H true (.ref r) (.tuple [d1, d2]) := .tup hr ne (.cons h1 (.cons h2 (.nil _)))
/-- what can be shown -/
structure Sho (n : Nat) (d : PyData) : Prop where
  shw : d.showable = true
  len : d.shown.length ≤ n
  dep : d.depth ≤ 20
theorem Val.sho {v : V} {d : PyData} (h : Val K p H v d) : Sho 20000 d := ⟨h.shw, h.len, Nat.le_trans h.dep (by decide)⟩
theorem two_sho {a b : PyData} {n m : Nat} (ha : Sho n a) (hb : Sho m b) (da : a.depth ≤ 10) (db : b.depth ≤ 10) : Sho (n + m + 8) (.tuple [a, b]) := by
  refine ⟨?_, ?_, ?_⟩
  · show (a.showable && (b.showable && true)) = true
    rw [ha.shw, hb.shw]; rfl
  · have := tuple_le [a.shown, b.shown]
    have e : ([a.shown, b.shown].map (·.length)).sum = a.shown.length + b.shown.length := by simp
    rw [e] at this
    show (tupleText [a.shown, b.shown]).length ≤ _
    simp only [List.length_cons, List.length_nil] at this
    have := ha.len
    have := hb.len
    omega
  · show max a.depth (max b.depth 0) + 1 ≤ 20
    omega
end
def qReprH (K : PySem.W.Frag) : List V → Hp → VK → Prop := fun xs H Q => ∃ x d p, xs = [x] ∧ Rp K p H true x d ∧ Sho 1000000 d ∧ Q (.str d.shown) H
theorem call_reprH {X : Cx} (g : X.A.guards = some []) (hu : X.A.units + 64 < cLine) : CallR X (.builtin "repr") (qReprH X.K) := by
  intro pins s σ H xs us Q I r h
  obtain ⟨x, d, p, e, hd, hs, q⟩ := h
  exact call_reprD g hu pins s σ H xs us Q I r ⟨x, d, p, e, hd.loose _, hs.shw, Nat.le_trans hs.len (by decide), Nat.le_trans hs.dep (by decide), q⟩
theorem word_sho (z : Str) (h : Tx 100 z) : Sho 2000 (.str z) := by
  exact ⟨rfl, Nat.le_trans (shown_wt _ (by
    show (z.cps.toList.all fun c => decide (c < 16 ^ 8)) = true
    rw [List.all_eq_true]
    exact fun c hc => decide_eq_true (Nat.lt_trans (h.2 c hc) (by decide)))) (by show 10 * z.length + 2 ≤ 2000; have := h.1; omega), Nat.zero_le _⟩
end My
end
section
set_option Elab.async false
set_option linter.all false
set_option maxRecDepth 100000
set_option maxHeartbeats 4000000
/-! B13: numbers and dicts from signs to numbers, shown. -/
namespace My
open PySem PySem.Spec PyProof.Rows L2
/-- a number that can be shown -/
def Num (i : Int) : Prop := i.natAbs < 10 ^ 300
theorem num_shown {i : Int} (h : Num i) : (PyData.int i).shown.length ≤ 301 := by
  have := int_text_length_le10 (a := i) (k := 300) (by decide) h
  show (PySem.Str.ofString (toString i)).length ≤ 301
  rw [PySem.ofString_length]
  exact this
theorem num_log {i : Int} (h : Num i) : i.natAbs.log2 < 1920 := by
  by_cases z : i.natAbs = 0
  · rw [z]; decide
  · rw [Nat.log2_lt z]
    exact Nat.lt_of_lt_of_le h (by decide +kernel)
theorem num_showable {i : Int} (h : Num i) : (PyData.int i).showable = true := decide_eq_true (num_log h)
theorem num_sho {i : Int} (h : Num i) : Sho 301 (.int i) := ⟨num_showable h, num_shown h, Nat.zero_le _⟩
theorem num_small {i : Int} (h : i.natAbs < 10 ^ 100) : Num i := Nat.lt_of_lt_of_le h (Nat.pow_le_pow_right (show 0 < 10 by decide) (show 100 ≤ 300 by decide))
theorem num_nat {n : Nat} (h : n ≤ 1000000) : Num (n : Int) := num_small (by
  show n < 10 ^ 100
  exact Nat.lt_of_le_of_lt h (by decide +kernel))
/-- a dict from signs to numbers -/
def dictD (cs : List (Nat × Int)) : PyData := .dict ((cs.map fun e => PyData.str ⟨#[e.1]⟩).zip (cs.map fun e => PyData.int e.2))
theorem dictD_cons (e : Nat × Int) (cs : List (Nat × Int)) : ((e :: cs).map fun e => PyData.str ⟨#[e.1]⟩).zip ((e :: cs).map fun e => PyData.int e.2) = (PyData.str ⟨#[e.1]⟩, PyData.int e.2) :: ((cs.map fun e => PyData.str ⟨#[e.1]⟩).zip (cs.map fun e => PyData.int e.2)) := rfl
theorem dict_le (ts : List Str) : (dictText ts).length ≤ (ts.map (·.length)).sum + ts.length * 2 + 2 := by
  have := StrLaws.join_length_le ", " ts
  have e : (PySem.Str.ofString ", ").length = 2 := by decide
  rw [e] at this
  show (("{" : Str) ++ Str.join ", " ts ++ "}").length ≤ _
  rw [len_app, len_app]
  have e1 : ("{" : Str).length = 1 := by decide
  have e2 : ("}" : Str).length = 1 := by decide
  omega
theorem sign_sho {c : Nat} (h : c < 128) : Sho 12 (.str ⟨#[c]⟩) := by
  refine ⟨rfl, Nat.le_trans (shown_wt _ ?_) (by show 10 * 1 + 2 ≤ 12; decide), Nat.zero_le _⟩
  show ((⟨#[c]⟩ : Str).cps.toList.all fun c => decide (c < 16 ^ 8)) = true
  rw [List.all_eq_true]
  intro x hx
  have : x = c := by simpa using hx
  subst this
  exact decide_eq_true (Nat.lt_trans h (by decide))
theorem kv_sho : ∀ {cs : List (Nat × Int)}, (∀ e ∈ cs, e.1 < 128 ∧ Num e.2) → PyData.showableKv ((cs.map fun e => PyData.str ⟨#[e.1]⟩).zip (cs.map fun e => PyData.int e.2)) = true ∧
    ((PyData.shownKv ((cs.map fun e => PyData.str ⟨#[e.1]⟩).zip (cs.map fun e => PyData.int e.2))).map (·.length)).sum ≤ 315 * cs.length ∧ (PyData.shownKv ((cs.map fun e => PyData.str ⟨#[e.1]⟩).zip (cs.map fun e => PyData.int e.2))).length = cs.length
  | [], _ => ⟨rfl, Nat.le_refl _, rfl⟩
  | e :: cs, h => by
    obtain ⟨h1, h2, h3⟩ := kv_sho (cs := cs) fun x hx => h x (List.mem_cons_of_mem _ hx)
    obtain ⟨e1, e2⟩ := h e List.mem_cons_self
    rw [dictD_cons]
    refine ⟨?_, ?_, ?_⟩
    · show (_ && _ && PyData.showableKv _) = true
      rw [h1, num_showable e2]
      rfl
    · show ((((PyData.str ⟨#[e.1]⟩).shown ++ ": " ++ (PyData.int e.2).shown) :: PyData.shownKv ((cs.map fun e => PyData.str ⟨#[e.1]⟩).zip (cs.map fun e => PyData.int e.2))).map (fun x : Str => x.length)).sum ≤ _
      rw [List.map_cons, List.sum_cons, List.length_cons, len_app, len_app]
      have a := (sign_sho e1).len
      have b := num_shown e2
      have c : (PySem.Str.ofString ": ").length = 2 := by decide
      rw [c]
      omega
    · show (PyData.shownKv _).length + 1 = cs.length + 1
      rw [h3]
theorem dict_sho {cs : List (Nat × Int)} (hl : cs.length ≤ 100) (h : ∀ e ∈ cs, e.1 < 128 ∧ Num e.2) : Sho 32000 (dictD cs) := by
  obtain ⟨h1, h2, h3⟩ := kv_sho h
  refine ⟨h1, ?_, ?_⟩
  · refine Nat.le_trans (dict_le _) ?_
    rw [h3]
    omega
  · have key : ∀ cs : List (Nat × Int), (dictD cs).depth ≤ 1 := by
      intro cs
      induction cs with
      | nil => decide
      | cons e cs ih =>
        have q : (dictD (e :: cs)).depth = max (max 0 0) ((dictD cs).depth - 1) + 1 := rfl
        rw [q]
        omega
    exact Nat.le_trans (key cs) (by decide)
section
variable {K : PySem.W.Frag} {p : Addr} {H : Hp}
theorem rp_keys {st : Bool} : ∀ cs : List (Nat × Int), RpAll K p H st ((toC cs).map fun e => kV e.1) (cs.map fun e => PyData.str ⟨#[e.1]⟩)
  | [] => .nil _
  | e :: cs => .cons (.str _ _) (rp_keys cs)
theorem rp_vals {st : Bool} : ∀ cs : List (Nat × Int), RpAll K p H st ((toC cs).map (·.2)) (cs.map fun e => PyData.int e.2)
  | [] => .nil _
  | e :: cs => .cons (.int _ _) (rp_vals cs)
theorem rp_dict {d : Addr} {cs : List (Nat × Int)} (h : H d = some (.dK (toC cs))) (ne : d ≠ p) (st : Bool) : Rp K p H st (.ref d) (dictD cs) :=
  .dct h ne (rp_keys cs) (rp_vals cs) (by rw [List.length_map, List.length_map])
end
end My
end
section
set_option Elab.async false
set_option linter.all false
set_option maxRecDepth 100000
set_option maxHeartbeats 4000000
/-! B23: list(d), tuple(d), d a dict. -/
namespace My
open PySem PySem.Spec PyProof.Rows L2
section
variable {prog : Program} {w : World} {A : Around} {E : Value → Shared → Prop} {s : Shared} {r : Addr} {d : Addr} {n : Nat} {P : Nat → Value → Prop} {OK : Heap → Prop}
theorem code_tuple_new_dict {Q₁ : Value → Shared → Prop} (KS : PySem.W.KdlSrc prog w "dict" r d n P OK) (hh : A.handled = none) (hok : OK s.heap) (hn : n ≤ sizeLine)
    (h : ∀ (h' : Heap) (tk : Nat) (acc : Array Value), (∀ b o, s.heap.get? b = some o → h'.get? b = some o) → ItemsOf P acc n → Q₁ (.ref h'.objs.size) { s with heap := h'.push { cls := .type "tuple", data := .seq acc }, toks := tk }) :
    codeAny (model prog w) A (.call (.builtin "tuple.__new__") ⟨[.type "tuple", .ref r], []⟩) (wants Q₁ E) s := by
  refine codeAny_of_tree ?_
  show wpAny _ A.in1 (do checkBuiltinCall "tuple.__new__" ⟨[.type "tuple", .ref r], []⟩; again (.builtin "tuple.__new__" ⟨[.type "tuple", .ref r], []⟩)) _ _ s
  refine wpAny_bind (wpAny_of_eq (F.newCall_tuple_1 _) (wpAny_pure ⟨plainId_quiet F.plain_tuple_new _, codeAny_builtin F.entry_tuple_new ?_⟩))
  rw [Around.under_plainId F.plain_tuple_new _]
  have hsub := sub_tuple_self
  have hinit := init_tuple_lookup
  have hmh := madeHere_tuple
  have hTI : s.TypeIs (.ref r) "dict" := KS.type _ hok
  have hh1 : A.in1.handled = none := hh
  wp_walk using wpAny_typeOf hTI, PySem.W.kdu_collect (A := A.in1) KS hh1 hok hn
  intro h' tk acc hk hacc
  show wpAny _ _ (Builtin.Tuple.tupleExact acc.toList.toArray >>= fun v => ret v) _ _ _
  unfold Builtin.Tuple.tupleExact
  refine wpAny_bind (wpAny_newObj_type ?_ (by show acc.toList.toArray.size ≤ sizeLine; simp only [Array.toArray_toList]; rw [hacc.1]; exact hn))
  refine wpAny_pure ?_
  have e : acc.toList.toArray = acc := by simp
  rw [e]
  exact h h' tk acc hk hacc
theorem call_tuple_dict {Q : Value → Shared → Prop} (KS : PySem.W.KdlSrc prog w "dict" r d n P OK) (hh : A.handled = none) (hok : OK s.heap) (hn : n ≤ sizeLine)
    (hQ : ∀ (h' : Heap) (tk : Nat) (acc : Array Value), (∀ b o, s.heap.get? b = some o → h'.get? b = some o) → ItemsOf P acc n → Q (.ref h'.objs.size) { s with heap := h'.push { cls := .type "tuple", data := .seq acc }, toks := tk }) :
    wpAny (model prog w) A (call (.type "tuple") [.ref r]) Q E s := by
  refine callType_codes (Q₁ := fun obj s₁ => s₁.TypeIs obj "tuple" ∧ Q obj s₁) F.called_tuple (F.typeCall_tuple_1 _) F.entry_object_init
    (code_tuple_new_dict (A := A.in1) KS hh hok hn fun h' tk acc hk hacc => ⟨⟨_, Heap.get?_push_size _ rfl, rfl⟩, hQ h' tk acc hk hacc⟩) fun obj s₁ h₁ => ?_
  exact ⟨h₁.1, F.args_object_init_2 obj _, object_init_meets F.called_tuple.init.lookup F.called_tuple.made (by decide) prog w A.in1 _ s₁ ⟨h₁.1, rfl, h₁.2⟩⟩
end
/-- list(d), tuple(d): the keys -/
def qListD : List V → Hp → VK → Prop := fun xs H Q => ∃ p kvs, xs = [.ref p] ∧ H p = some (.dK kvs) ∧ ∀ q H', New H q (.lst (kvs.map fun kv => kV kv.1)) H' → Q (.ref q) H'
theorem call_listDn {X : Cx} (hc : X.calm = true) : CallR X (.type "list") qListD := CallR.weak (call_list_dK hc) fun xs H Q q => by
  obtain ⟨p, kvs, e, h, k⟩ := q
  exact ⟨p, kvs, e, h, fun q hq => k q _ (.mk' hq)⟩
def qTupD : List V → Hp → VK → Prop := fun xs H Q => ∃ p kvs, xs = [.ref p] ∧ H p = some (.dK kvs) ∧ ∀ q H', New H q (.tup (kvs.map fun kv => kV kv.1)) H' → Q (.ref q) H'
theorem call_tupDn {X : Cx} (hc : X.calm = true) : CallR X (.type "tuple") qTupD := by
  intro pins s σ H xs us Q I r h
  obtain ⟨p, kvs, e, hk, q⟩ := h
  subst e
  obtain ⟨u, eu, rx⟩ := vals1 r
  subst eu
  obtain rfl : u = Value.ref p := rx
  obtain ⟨z, lo, vs, rk, hd⟩ := (show ObjOk X.prog X.w H s.heap p (.dK kvs) from I.hok p _ hk)
  obtain ⟨ep, hat⟩ := hd.dictAt
  have hl : kvs.length = vs.length := Paired.length rk
  refine call_tuple_dict (PySem.W.kdl_dict (knd := mixKind X.prog X.w) (kvs := vs) (ep := ep) lo) (I.ok.hd hc) hat (by rw [← hl]; exact z) fun h' tk acc' hkeep hacc => ?_
  have I2 : Inv X pins σ H { s with heap := h', toks := tk } := I.kept hkeep
  refine ⟨.ref h'.objs.size, upd H h'.objs.size (.tup (kvs.map fun kv => kV kv.1)), I2.laid (t' := tk) (fun c o e => Heap.get?_push_of_some _ e) (Nat.le_refl _) (show ObjOk X.prog X.w _ _ _ (.tup (kvs.map fun kv => kV kv.1)) from ⟨?_, acc'.toList, ?_, ?_⟩), rfl, q _ _ (.mk' (I2.hok.fresh (Nat.le_refl _)))⟩
  · rw [List.length_map]; exact z
  · have el : acc'.toList.length = acc'.size := by simp
    refine vals_of_at (by rw [List.length_map, el, hacc.1, hl]) fun j x w h1 h2 => ?_
    obtain ⟨k, y, hky, hi⟩ := hacc.2 j w (by rw [← Array.getElem?_toList]; exact h2)
    have e1 : (kvs.map (·.1))[j]? = some k := by
      rw [KV.keys rk, List.getElem?_map, hky] <;> rfl
    have e2 : (kvs.map fun kv => kV kv.1)[j]? = some (kV k) := by
      have e3 : (kvs.map fun kv => kV kv.1) = (kvs.map (·.1)).map kV := by rw [List.map_map] <;> rfl
      rw [e3, List.getElem?_map, e1] <;> rfl
    rw [e2] at h1
    cases h1
    exact keyIs_rel hi
  · rw [Array.toArray_toList]; exact IsTup.new _ _
end My
end
section
set_option Elab.async false
set_option linter.all false
set_option maxRecDepth 100000
set_option maxHeartbeats 2000000
/-! a dict's keys in a drawn order. -/
namespace My
open PySem PySem.Spec PyProof.Rows L2
def sp_shufD : Sp := fun vs H Q _ => ∃ (p c d : Addr) (kvs : List (Key × V)) (n : Nat), vs = [.ref p, .ref d] ∧ PenAt H p c n ∧ n + kvs.length < 2 ^ 60 ∧ H d = some (.dK kvs) ∧ kvs.length ≤ 1000000 ∧
  ∀ H' r ys, DrewP H p c (n + kvs.length) H' → H r = none → H' r = some (.lst ys) → ys.Perm (kvs.map fun kv => kV kv.1) → Q (.ref r) H'
section
variable {P : Program} {w : World} {K : PySem.W.Frag} {mg : Str → Option Value} {base : Heap}
theorem ok_shufD {f fD : Addr} {fd fdD : FuncData} (F : Fun K "_law_shuffled" "_law_shuffled" s_shuf f fd) (T : TDraw mg) (Tl : mg "list" = none) (D : Def K mg "_law_draw" fD fdD ["_law_pen_here", "_law_many"]) (G : FnOk P w K mg base CX0 1 fD fdD ["_law_pen_here", "_law_many"] sp_draw) :
    FnOk P w K mg base CX0 2 f fd ["_law_pen_here", "_law_items"] sp_shufD := by
  refine F.ok sc_shuf (fun vs H Q E h => ?_) (fun cdv A outer s H vs Q E hr h => ?_)
  · obtain ⟨p, c, d, kvs, n, rfl, _⟩ := h
    rfl
  · obtain ⟨p, c, d, kvs, n, rfl, hP, hn, hS, hxl, k⟩ := h
    have hlk : (kvs.map fun kv => kV kv.1).length = kvs.length := List.length_map _
    refine ⟨_, pss_cons (ps_par (i := 2) (j := 3) rfl sc_shuf.nd rfl rfl (by decide) rfl rfl (pa_cons (pe_callTy (call_listDn rfl) (by rfl) Tl (by decide +kernel) (pa_cons (pv 1) pa_nil)) (pa_cons (pe_lst' pa_nil) pa_nil)) (by rfl))
      (pss_cons (ps_while PassesOwn.never (pt_cmpR (op_neNil hr.units0) (pv 2) (pe_lst' pa_nil) (nomark _))
        (pss_one (ps_expr (pe_bm PySem.F.plainAttrs_list PySem.F.slot_list_append PySem.F.type_list_append mt_append' (pv 3) (pa_cons
          (pe_bm PySem.F.plainAttrs_list PySem.F.slot_list_pop PySem.F.type_list_pop mt_popAt' (pv 2) (pa_cons (pe_call G hr rfl D.mgf D.kp D.bd .nil pass0 (pa_cons (pv 0) (pa_cons (pe_callB call_len_seq (by rfl) T.len PySem.boot_len (pa_cons (pv 2) pa_nil)) pa_nil))) pa_nil)) pa_nil)))))
      (pss_one (ps_ret (pv 3)))), ?_⟩
    refine ⟨_, rfl, d, kvs, rfl, hS, fun a H1 n1 => ⟨by decide, fun b H2 n2 => ⟨_, _, rfl, ?_⟩⟩⟩
    rw [← hlk] at k hn hxl
    generalize (kvs.map fun kv => kV kv.1) = xs at k hn hxl n1
    have hpa : p ≠ a := hP.ne n1.free
    have hpb : p ≠ b := (hP.same n1.same).ne n2.free
    have hca : c ≠ a := hP.neC n1.free
    have hcb : c ≠ b := (hP.same n1.same).neC n2.free
    have hab : a ≠ b := ne_of_none n1.here n2.free
    have hb0 : H b = none := by
      cases e : H b with
      | none => rfl
      | some o => have := n1.same _ _ e; rw [n2.free] at this; cases this
    have s2 : Same H H2 := n1.same.trans n2.same
    refine while_by (fun σ H' => ∃ (left found : List V) (m : Nat), σ = [some (.ref p), some (.ref d), some (.ref a), some (.ref b)] ∧ H' a = some (.lst left) ∧ H' b = some (.lst found) ∧ But p H H' ∧ PenAt H' p c m ∧ m + left.length ≤ n + xs.length ∧ (found ++ left).Perm xs)
      (fun _ H' => match H' a with | some (.lst l) => l.length | _ => 0) ⟨xs, [], n, rfl, n2.same _ _ n1.here, n2.here, .of s2, hP.same s2, Nat.le_refl _, by simp⟩ ?_ ?_
    · rintro σ H3 ⟨left, found, m, rfl, ha, hb, hB, hP3, hm, hperm⟩
      have hlen := hperm.length_eq
      rw [List.length_append] at hlen
      refine ⟨_, rfl, by decide, fun q H4 n4 => ⟨a, q, left, rfl, rfl, SqL.of (n4.same _ _ ha), n4.here, _, rfl, ?_⟩⟩
      have ha4 := n4.same _ _ ha
      have hb4 := n4.same _ _ hb
      have hP4 := hP3.same n4.same
      refine ite2 (fun ht => ?_) (fun hf => ?_)
      · have hpos : 0 < left.length := by
          cases left with
          | nil => simp at ht
          | cons _ _ => simp
        refine ⟨_, rfl, .inl ⟨rfl, _, SqL.of hb4⟩, _, rfl, .inl ⟨rfl, _, SqL.of ha4⟩, _, rfl, _, rfl, a, _, rfl, .inl (SqL.of ha4), p, c, _, m, rfl, hP4, by omega, by omega, by omega, fun H5 r hD r0 r1 => ?_⟩
        obtain ⟨j, rfl⟩ : ∃ j : Nat, r = j := ⟨_, (Int.toNat_of_nonneg r0).symm⟩
        have hj : j < left.length := by omega
        have ha5 := hD.but a _ hpa.symm ha4
        have hb5 := hD.but b _ hpb.symm hb4
        refine ⟨a, left, left[j], j, rfl, rfl, ha5, by simp [hj], by omega, fun H6 w6 => ?_⟩
        have hb6 : H6 b = some (.lst found) := (w6.els b hab.symm).trans hb5
        have fits : found.length < sizeLine := Nat.lt_of_le_of_lt (show found.length ≤ 1000000 by omega) (by decide)
        refine ⟨b, found, left[j], rfl, rfl, hb6, fits, fun H7 w7 => ?_⟩
        refine ⟨⟨left.eraseIdx j, found ++ [left[j]], m + 1, rfl, (w7.els a hab).trans w6.here, w7.here, ?_, ?_, ?_, ?_⟩, ?_⟩
        · exact But.wr (But.wr ((hB.trans (.of n4.same)).trans hD.but) n1.free w6) hb0 w7
        · exact (hD.pen.els w6 hpa hca).els w7 hpb hcb
        · rw [List.length_eraseIdx_of_lt hj]
          omega
        · rw [List.append_assoc]
          exact (List.Perm.append_left found (perm_eraseIdx hj)).trans hperm
        · show (match H7 a with | some (.lst l) => l.length | _ => 0) < (match H3 a with | some (.lst l) => l.length | _ => 0)
          rw [(w7.els a hab).trans w6.here, ha]
          show (left.eraseIdx j).length < left.length
          rw [List.length_eraseIdx_of_lt hj]
          omega
      · have hnil : left = [] := by
          cases left with
          | nil => rfl
          | cons _ _ => simp at hf
        subst hnil
        rw [List.append_nil] at hperm
        exact ⟨_, rfl, k _ b found ⟨hB.trans (.of n4.same), hP4.mono (by rw [List.length_nil] at hm; omega)⟩ hb0 hb4 hperm⟩
    · intro σ H Q Q' m h
      obtain ⟨v, e, h0, h⟩ := h
      refine ⟨v, e, h0, fun q H' n => ?_⟩
      obtain ⟨a, b, xs, e1, e2, h1, h2, k, e3, h3⟩ := h q H' n
      exact ⟨a, b, xs, e1, e2, h1, h2, k, e3, m _ _ h3⟩
end
end My
end
section
set_option Elab.async false
set_option linter.all false
set_option maxRecDepth 100000
set_option maxHeartbeats 4000000
namespace My
open PySem PySem.Spec PyProof.Rows L2
/-! ### x[::-1], x a text of two signs; x * 3, x of one sign -/
def tRevS (te : TE) : TE := fun σ H Q => te σ H fun v H1 => ∃ x y, v = .str (mkS [x, y]) ∧ Q (.str (mkS [y, x])) H1
theorem pe_revS {X : Cx} {e : Expr} {te : TE} {k : Nat} {p1 p2 p3 pos : Pos} (he : PE X e te) : PE X (.Subscript e (.Slice none none (some (.UnaryOp .USub (.Constant (.int 1) k p1) p2)) p3) pos) (tRevS te) := by
  constructor
  intro pins s σ H Q I want
  apply Subscript_
  apply thn (he.run pins s σ H _ I want)
  intro v s1 got
  obtain ⟨v', H1, I1, r1, x, y, rfl, q⟩ := got
  obtain ⟨t, rfl⟩ := r1
  have stepP : PO X (some (.UnaryOp .USub (.Constant (.int 1) k p1) p2)) (tPart (tUn (rU fun i => .int (-i)) (tC (.int 1)))) := po_some (pe_un un_neg pe_int)
  apply wpAny_Slice
  apply thn (po_none.run pins s1 σ H1 (fun o G => o = none ∧ G = H1) I1 ⟨rfl, rfl⟩)
  rintro vl s2 ⟨l, H2, I2, pl, rfl, rfl⟩
  apply thn (po_none.run pins s2 σ _ (fun o G => o = none ∧ G = H2) I2 ⟨rfl, rfl⟩)
  rintro vu s3 ⟨u, H3, I3, pu, rfl, rfl⟩
  apply thn (stepP.run pins s3 σ _ (fun o G => o = some (-1) ∧ G = H3) I3 ⟨1, rfl, -1, rfl, rfl, rfl⟩)
  rintro vs s4 ⟨o, H4, I4, ps, rfl, rfl⟩
  have I5 : Inv X pins σ H4 { s4 with heap := s4.heap.push { cls := .type "slice", data := .fields #[vl, vu, vs] } } := I4.kept (t' := s4.toks) fun b ob z => Heap.get?_push_of_some _ z
  obtain ⟨l', rfl, el⟩ := IsPart.raw pl
  obtain ⟨u', rfl, eu⟩ := IsPart.raw pu
  obtain ⟨st, rfl, es⟩ := IsPart.raw ps
  show wpAny (model X.prog X.w) X.A (subscriptTail e (.Slice none none (some (.UnaryOp .USub (.Constant (.int 1) k p1) p2)) p3) (.str (mkS [x, y]) t) (.ref s4.heap.objs.size)) (EP X pins σ Q) X.xe _
  refine tail_any (ops := [.str (mkS [x, y]) t, .ref s4.heap.objs.size]) (typeIs_str _ _ _) slot_str_getitem.lookup ?_ (by with_unfolding_all rfl)
  refine wpAny_getItem_str_slice (l := l') (u := u') (st := st) (Heap.IsSliceOf.new _ _ _ _) (by rw [es]; decide) ?_
  cases l' with
  | some q => cases el
  | none =>
  cases u' with
  | some q => cases eu
  | none =>
  cases st with
  | none => cases es
  | some q1 =>
  obtain ⟨i, tk⟩ := q1
  obtain rfl : i = -1 := Option.some.inj es
  have hp : slicePicked (mkS [x, y]) none none (some (-1, tk)) = [1, 0] := by
    show Builtin.Str.strSliceIndices none none (-1) 2 = [1, 0]
    decide +kernel
  unfold sliceMade
  rw [hp, if_neg (by simp)]
  exact ⟨by show 2 ≤ sizeLine; decide, .str (mkS [y, x]), _, I5.tok _, ⟨_, rfl⟩, q⟩
/-- x * n -/
def rTimes : R2 := fun x y H Q => ∃ c, x = .str (mkS [c]) ∧ y = .int 3 ∧ Q (.str (mkS [c, c, c])) H
theorem op_times {X : Cx} : OpR X (binaryOp .Mult) rTimes := by
  intro pins s σ H x y v u Q I rx ry want
  obtain ⟨c, rfl, rfl, q⟩ := want
  obtain ⟨t, rfl⟩ := rx
  obtain ⟨t2, rfl⟩ := ry
  refine P.mul_str (by decide) (fun _ _ => ?_) (fun _ _ => ?_) ?_
  · show ¬ ((1 : Nat) : Int) > _
    decide
  · first | rfl | decide
  · rw [if_neg (by decide)]
    exact ⟨by show 3 ≤ sizeLine; decide, .str (mkS [c, c, c]), H, I.tok _, ⟨_, rfl⟩, q⟩
end My
end
section
set_option Elab.async false
set_option linter.all false
set_option maxRecDepth 100000
set_option maxHeartbeats 2000000
/-! a text of two signs, or the same the other way round. -/
namespace My
open PySem PySem.Spec PyProof.Rows L2
def sp_flipS : Sp := fun vs H Q _ => ∃ (p c : Addr) (x y : Nat) (n : Nat), vs = [.ref p, .str (mkS [x, y])] ∧ PenAt H p c n ∧ n < 2 ^ 60 ∧
  ∀ H' z, DrewP H p c (n + 1) H' → (z = mkS [x, y] ∨ z = mkS [y, x]) → Q (.str z) H'
section
variable {P : Program} {w : World} {K : PySem.W.Frag} {mg : Str → Option Value} {base : Heap}
theorem ok_flipS {f fP : Addr} {fd fdP : FuncData} (F : Fun K "_law_flipped" "_law_flipped" s_flip f fd) (D : Def K mg "_law_pick" fP fdP ["_law_pen_here", "_law_options"]) (G : FnOk P w K mg base CX0 2 fP fdP ["_law_pen_here", "_law_options"] (sp_pick K)) :
    FnOk P w K mg base CX0 3 f fd ["_law_pen_here", "_law_pair"] sp_flipS := by
  refine F.ok sc_flip (fun vs H Q E h => ?_) (fun cdv A outer s H vs Q E hr h => ?_)
  · obtain ⟨p, c, x, y, n, rfl, _⟩ := h
    rfl
  · obtain ⟨p, c, x, y, n, rfl, hP, hn, k⟩ := h
    refine ⟨_, pss_one (ps_ret (pe_call G hr rfl D.mgf D.kp D.bd .nil pass0 (pa_cons (pv 0) (pa_cons (pe_lst' (pa_cons (pv 1) (pa_cons (pe_revS (pv 1)) pa_nil))) pa_nil)))), ?_⟩
    refine ⟨_, rfl, _, rfl, _, rfl, x, y, rfl, by show 2 ≤ sizeLine; decide, fun a H2 n2 => ?_⟩
    have ha : a ≠ p := fun e => hP.ne n2.free e.symm
    refine ⟨p, c, a, _, n, rfl, hP.same n2.same, hn, SqL.of n2.here, ha, by show 0 < 2; decide, by show 2 ≤ 1000000; decide, fun H3 v hD hv => ?_⟩
    have dr : DrewP H p c (n + 1) H3 := ⟨(But.of n2.same).trans hD.but, hD.pen⟩
    rcases List.mem_cons.mp hv with rfl | hv
    · exact k _ _ dr (.inl rfl)
    · rcases List.mem_cons.mp hv with rfl | hv
      · exact k _ _ dr (.inr rfl)
      · cases hv
end
end My
end
section
set_option Elab.async false
set_option linter.all false
set_option maxRecDepth 100000
set_option maxHeartbeats 4000000
/-! Qpl: drawn fonts and counts. -/
namespace My
open PySem PySem.Spec PyProof.Rows L2 LamX
theorem alpha_low' : ∀ c ∈ alphabet.cps.toList, c < 128 := by decide +kernel
theorem good_tx {m : Nat} {S : Str} {ps : List (Nat × Nat)} (g : Good m S ps) : Tx m S := ⟨g.hi, fun c hc => alpha_low' c (g.ab c hc)⟩
theorem PenAt.butL {H H1 : Hp} {p c l : Addr} {n : Nat} (b : But l H H1) (h1 : p ≠ l) (h2 : c ≠ l) (h : PenAt H p c n) : PenAt H1 p c n := by
  obtain ⟨cs, u, z, e1, e2, e3, e4, e5⟩ := h
  exact ⟨cs, u, z, b _ _ h1 e1, b _ _ h2 e2, e3, e4, e5⟩
/-- a drawn font and drawn counts of a turn -/
structure Pl (H : Hp) (t t1 b d : Addr) (S : Str) (ys : List V) (ps : List (Nat × Nat)) (cs : List (Str × Int)) : Prop where
  at_ : PlainAt H t t1 b d S ys ps cs
  good : Good 10 S ps
  csp : CsP S big30 cs
section
variable {H H1 : Hp} {t t1 b d : Addr} {S : Str} {ys : List V} {ps : List (Nat × Nat)} {cs : List (Str × Int)}
theorem Pl.same (s : Same H H1) (h : Pl H t t1 b d S ys ps cs) : Pl H1 t t1 b d S ys ps cs := ⟨h.at_.same s, h.good, h.csp⟩
theorem Pl.ext (s : ExtN H H1) (h : Pl H t t1 b d S ys ps cs) : Pl H1 t t1 b d S ys ps cs := ⟨h.at_.ext s, h.good, h.csp⟩
theorem Pl.pen {p c : Addr} {n : Nat} (hP : PenAt H p c n) (s : But p H H1) (h : Pl H t t1 b d S ys ps cs) : Pl H1 t t1 b d S ys ps cs := ⟨h.at_.pen hP s, h.good, h.csp⟩
theorem Pl.no (h : Pl H t t1 b d S ys ps cs) : 45 ∉ S.cps.toList := no_dash h.good
theorem Pl.csb (h : Pl H t t1 b d S ys ps cs) : CsB S cs := csp_ok h.good.hi h.good.nd h.no (by decide +kernel) h.csp
end
/-- entries that can be shown -/
def EnT (es : List (Str × Int)) : Prop := (∀ e ∈ es, Tx 2 e.1 ∧ Num e.2) ∧ es.length ≤ 110
theorem ent_of {S : Str} {cs es : List (Str × Int)} {l : List Str} (ab : ∀ c ∈ S.cps.toList, c ∈ alphabet.cps.toList) (hc : CsB S cs) (hin : ∀ k ∈ l, k ∈ cs.map (·.1)) (hl : l.length ≤ 110) (hp : Paired (FlipR cs) l es) : EnT es := by
  refine ⟨?_, by rw [← Paired.length hp]; exact hl⟩
  clear hl
  induction hp with
  | nil => intro e he; cases he
  | cons hr _ ih =>
    rename_i k e l es _
    intro x hx
    rcases List.mem_cons.mp hx with rfl | hx
    · have hk := hin k List.mem_cons_self
      obtain ⟨e0, he0, ek⟩ := List.mem_map.mp hk
      obtain ⟨a, c, ez, ha, hc'⟩ := ks_cps (hc.inS e0 he0)
      obtain ⟨⟨p, q, e1, e2⟩, e3⟩ := hr
      rw [ek] at ez
      obtain ⟨rfl, rfl⟩ := mkS_two (e1.symm.trans ez)
      have sa : p < 128 := alpha_low' _ (ab _ ha)
      have sq : q < 128 := by
        rcases hc' with rfl | h
        · decide
        · exact alpha_low' _ (ab _ h)
      refine ⟨?_, ?_⟩
      · rcases e2 with e2 | e2 <;> rw [e2] <;> refine ⟨by rw [mkS_len]; exact Nat.le_refl 2, fun z hz => ?_⟩
        · have hz : z = p ∨ z = q := by simpa using hz
          rcases hz with rfl | rfl <;> assumption
        · have hz : z = q ∨ z = p := by simpa using hz
          rcases hz with rfl | rfl <;> assumption
      · have ec : gC cs k = e0.2 := by
          unfold gC
          rw [← ek, ctK_nd hc.nd he0]
          rfl
        rw [e3, ec]
        obtain ⟨b1, b2⟩ := hc.bd e0 he0
        refine num_small ?_
        have : e0.2.natAbs ≤ 10 ^ 31 := by omega
        exact Nat.lt_of_le_of_lt this (by decide +kernel)
    · exact ih (fun z hz => hin z (List.mem_cons_of_mem _ hz)) x hx
theorem cs_tx {S : Str} {cs : List (Str × Int)} (ab : ∀ c ∈ S.cps.toList, c ∈ alphabet.cps.toList) (hc : CsB S cs) : ∀ e ∈ cs, Tx 2 e.1 ∧ Num e.2 := fun e he => by
  obtain ⟨a, c, ez, ha, hc'⟩ := ks_cps (hc.inS e he)
  have sq : c < 128 := by
    rcases hc' with rfl | h
    · decide
    · exact alpha_low' _ (ab _ h)
  refine ⟨?_, ?_⟩
  · rw [ez]
    refine ⟨by rw [mkS_len]; exact Nat.le_refl 2, fun z hz => ?_⟩
    have hz : z = a ∨ z = c := by simpa using hz
    rcases hz with rfl | rfl
    · exact alpha_low' _ (ab _ ha)
    · exact sq
  · obtain ⟨b1, b2⟩ := hc.bd e he
    refine num_small ?_
    have : e.2.natAbs ≤ 10 ^ 31 := by omega
    exact Nat.lt_of_le_of_lt this (by decide +kernel)
theorem EntAt.extL {H H1 : Hp} {es : List (Str × Int)} {ys : List V} (s : ExtL H H1) (h : EntAt H es ys) : EntAt H1 es ys := Paired.map (fun e y hy => by
  obtain ⟨q, e1, e2⟩ := hy
  exact ⟨q, e1, s _ _ e2 (fun _ z => by cases z)⟩) h
theorem CaseAt.extL {H H1 : Hp} {CC C a : Addr} {S : Str} {ps : List (Nat × Nat)} {cs : List (Str × Int)} (s : ExtL H H1) (h : CaseAt H CC C a S ps cs) : CaseAt H1 CC C a S ps cs := by
  obtain ⟨dx, fa, dd, tp, es, h1, h2, h3, h4, h5⟩ := h.at_
  exact ⟨dx, fa, dd, tp, es, s _ _ h1 (fun _ z => by cases z), h2.extL s, s _ _ h3 (fun _ z => by cases z), s _ _ h4 (fun _ z => by cases z), EntAt.extL s h5⟩
/-- entries of these kinds, some the other way round -/
theorem lc_fl {K : PySem.W.Frag} {r D p c : Addr} {l : List Str} {cs : List (Str × Int)} {n i : Nat} {te : TE} {vs : List Nat} {σ : L2.St} {H1 : Hp} {Qd : Hp → Prop} (hP : PenAt H1 p c n) (hA : H1 r = some (.lst (l.map V.str))) (hap : r ≠ p) (small : l.length ≤ 110) (free : H1 D = none)
    (hw : ∀ x, wipe ((wipe σ vs).set i (some x)) vs = wipe σ vs)
    (he : ∀ (j : Nat) (k : Str) (H' : Hp) (C : VK), l[j]? = some k → j < 110 → But p H1 H' → PenAt H' p c (n + j) → (∀ H2 q z, DrewP H' p c (n + j + 1) H2 → FlipR cs k (z, gC cs k) → H2 q = some (.tup [.str z, .int (gC cs k)]) → C (.ref q) H2) → te ((wipe σ vs).set i (some (.str k))) H' C)
    (hd : ∀ H' zs es, DrewP H1 p c (n + 110) H' → H' D = some (.lst zs) → EntAt H' es zs → Paired (FlipR cs) l es → Qd H') :
    ∃ W : Nat → Nat → Hp → Prop, (∃ m, W 0 m (upd H1 D (.lst []))) ∧ ∀ j m H, W j m H →
      ((Itl K r).stop j H ∧ Qd H) ∨ ((Itl K r).go j H ∧ ∃ Nx : Hp → Prop, (∀ H', Nx H' → ∃ m', m' < m ∧ W (j + 1) m' H') ∧ ∀ x H', (Itl K r).yld j H x H' → gName i x (wipe σ vs) H' fun σ2 H2 => wipe σ2 vs = wipe σ vs ∧ tYes σ2 H2 fun b H3 =>
        if b = true then te σ2 H3 fun y H4 => ∃ acc, H4 D = some (.lst acc) ∧ acc.length < sizeLine ∧ Nx (upd H4 D (.lst (acc ++ [y]))) else Nx H3) := by
  have pD : p ≠ D := hP.ne free
  have cD : c ≠ D := hP.neC free
  refine lc_it walk_list (fun j H' => But p H1 H' ∧ PenAt H' p c (n + j) ∧ ∃ zs es, H' D = some (.lst zs) ∧ EntAt H' es zs ∧ Paired (FlipR cs) (l.take j) es ∧ zs.length = j)
    ⟨But.wr (But.refl H1) free .mk', (hP.mono (by omega)).els .mk' pD cD, [], [], upd_same, .nil, by simp; exact .nil, rfl⟩ (fun j H' _ q => SqL.of (q.1 _ _ hap hA)) ?_ ?_
  · rintro j x H2 H3 hj ⟨hB, hPj, zs, es, hD, hE, hpr, hzl⟩ ⟨rfl, hx⟩
    rw [List.length_map] at hj
    obtain ⟨k, hk⟩ : ∃ k, l[j]? = some k := ⟨l[j]'hj, by simp [hj]⟩
    obtain rfl : x = .str k := by
      rw [List.getElem?_map, hk] at hx
      exact (Option.some.inj hx).symm
    refine ⟨hw _, ?_⟩
    unfold tYes
    refine iteT (he j k _ _ hk (by omega) hB hPj fun H4 q z d4 fl hq => ?_)
    have hD4 : H4 D = some (.lst zs) := d4.but _ _ pD.symm hD
    have hE4 := EntAt.pen hPj d4.but hE
    have w5 : Wr H4 D (.lst (zs ++ [.ref q])) (upd H4 D (.lst (zs ++ [.ref q]))) := .mk'
    have qD : q ≠ D := ne_of hq hD4 (by intro z; cases z)
    refine ⟨zs, hD4, Nat.lt_of_le_of_lt (show zs.length ≤ 110 by omega) (by decide), But.wr (hB.trans d4.but) free w5, d4.pen.els w5 pD cD, _, es ++ [(z, gC cs k)], upd_same, Paired.snoc (EntAt.extL (ExtL.wr hD4 w5) hE4) ⟨q, rfl, (w5.els q qD).trans hq⟩, ?_, by simp [hzl]⟩
    have nx : l.take (j + 1) = l.take j ++ [k] := by
      rw [List.take_add_one, hk]
      rfl
    rw [nx]
    exact Paired.snoc hpr fl
  · rintro H' ⟨hB, hPn, zs, es, hD, hE, hpr, hzl⟩
    rw [List.length_map] at hPn hpr
    rw [List.take_length] at hpr
    exact hd H' zs es ⟨hB, hPn.mono (by omega)⟩ hD hE hpr
theorem perm_strs {L : List Str} {ys : List V} (h : ys.Perm (L.map V.str)) : ∃ l : List Str, ys = l.map V.str ∧ l.Perm L := by
  have key : Paired (fun (a : Str) (y : V) => y = V.str a) L (L.map V.str) := by
    clear h
    induction L with
    | nil => exact .nil
    | cons a L ih => exact .cons rfl ih
  obtain ⟨l, h1, h2⟩ := paired_perm h key
  refine ⟨l, ?_, h2⟩
  clear h2 h key
  induction h1 with
  | nil => rfl
  | cons e _ ih => rw [e, ih]; rfl
end My
end
section
set_option Elab.async false
set_option linter.all false
set_option maxRecDepth 100000
set_option maxHeartbeats 4000000
/-! Pents: entries as data. -/
namespace My
open PySem PySem.Spec PyProof.Rows L2
def enD (e : Str × Int) : PyData := .tuple [.str e.1, .int e.2]
theorem rp_ents {K : PySem.W.Frag} {H : Hp} {p : Addr} {o : HO} (hp : H p = some o) (no : ∀ xs, o ≠ .tup xs) {st : Bool} : ∀ {cs : List (Str × Int)} {ys : List V}, EntAt H cs ys → RpAll K p H st ys (cs.map enD)
  | _, _, .nil => .nil _
  | _, _, .cons ⟨q, e, h⟩ t => by
    subst e
    exact .cons (.tup h (fun z => by rw [z, hp] at h; exact no _ (Option.some.inj h)) (.cons (.str _ _) (.cons (.int _ _) (.nil _)))) (rp_ents hp no t)
theorem ents_nd' : ∀ es : List (Str × Int), PyData.hasDictAll (es.map enD) = false
  | [] => rfl
  | e :: es => by
    show ((false || (false || false)) || PyData.hasDictAll (es.map enD)) = false
    rw [ents_nd' es]
    rfl
end My
end
section
set_option Elab.async false
set_option linter.all false
set_option maxRecDepth 100000
set_option maxHeartbeats 4000000
/-! Pmkc: Case(..). -/
namespace My
open PySem PySem.Spec PyProof.Rows L2 LamX
def qMkC (K : PySem.W.Frag) (CC C : Addr) (dvs : List V) (t : TA) : TE := fun σ H Q => t σ H fun vs H1 => ∃ (fa b p : Addr) (d : PyData) (S : Str) (ps : List (Nat × Nat)) (es : List (Str × Int)) (ys : List V), vs ++ dvs = [.ref fa, .ref b] ∧ Rp K p H1 false (.ref b) d ∧ isSeqD d = true ∧ FontAt H1 C fa S ps ∧ S.length ≤ 10 ∧ S.cps.toList.Nodup ∧ 45 ∉ S.cps.toList ∧ (SqL K H1 b ys ∨ SqT K H1 b ys) ∧ EntAt H1 es ys ∧ EntOk S es ∧
  ∀ H' a, Same H1 H' → H1 a = none → CaseAt H' CC C a S ps (cntd S es) → Q (.ref a) H'
theorem pe_case {X : Cx} {CC C f : Addr} {fd : FuncData} {ds : List Value} {dvs : List V} {e : Expr} {es : List Expr} {p pos : Pos} {t : TA} (M : Mk X.K CC f) (G : FnOk X.prog X.w X.K X.mg X.base CX0 6 f fd ["self", "font", "plates"] (sp_cinit X.K CC C)) (hr : Room 7 X.A) (hg : Gl X "Case") (hm : X.mg "Case" = some (.ref CC))
    (hb : Binds X.K fd ["self", "font", "plates"] ds) (hd : Vals dvs ds) (ha : PA X (e :: es) t) (he : starEach (e :: es) X.env = (false, eval e X.env) :: starEach es X.env := by rfl) (hpl : (backTo pos (starEach es X.env)).any (·.1) = false := by rfl) :
    PE X (.Call (.Name "Case" p) (e :: es) [] pos) (qMkC X.K CC C dvs t) :=
  PE.weak (pe_make M G hr hg hm hb hd pass0 (PA.mc ha) (by decide) he hpl) fun σ H Q q => ⟨_, q, fun vs H1 z => by
    obtain ⟨fa, b, p, d, S, ps, es, ys, ev, hv, hs, hF, hS, nd, no, hsq, hE, ok, k⟩ := z
    intro x dx hx hdx ne
    rw [ev]
    have s := made_up (C := CC) hx hdx
    exact ⟨x, dx, fa, b, p, d, S, ps, es, ys, rfl, upd_same, hv.but (.of s), hs, hF.same s, hS, nd, no, hsq.imp (fun h => s.seq h) (fun h => s.tupl h), hE.same s, ok, fun H' bt ca => ⟨rfl, k H' x (made_same hx hdx bt) hx ca⟩⟩⟩
end My
end
section
set_option Elab.async false
set_option linter.all false
set_option maxRecDepth 100000
set_option maxHeartbeats 4000000
namespace My
open PySem PySem.Spec PyProof.Rows L2
abbrev s_fmade : Stmt := topS 56
def sp_fmade (K : PySem.W.Frag) (C : Addr) : Sp := fun vs H Q _ => ∃ (p c t b : Addr) (n : Nat) (S : Str) (ys : List V) (ps : List (Nat × Nat)), vs = [.ref p, .ref t] ∧ PenAt H p c n ∧ n < 2 ^ 50 ∧ H t = some (.tup [.str S, .ref b]) ∧ SqL K H b ys ∧ PairsAt H ps ys ∧ Good 10 S ps ∧
  ∀ H' a, But p H H' → PenAt H' p c (n + 20) → FontAt H' C a S (dueOf S (headsAll ps)) → Q (.ref a) H'
section
variable {P : Program} {w : World} {K : PySem.W.Frag} {mg : Str → Option Value} {base : Heap}
abbrev NFm : List Str := ["_law_pen_here", "_law_font_here", "_law_pair"]
theorem sc_fmade : FnScope NFm ["_law_pen_here", "_law_font_here"] (defScope s_fmade) := ⟨rfl, rfl, rfl, by decide +kernel, rfl, by decide +kernel, by decide +kernel⟩
theorem ok_fmade {f C fI fS fF : Addr} {fd fdI fdS fdF : FuncData} (F : Fun K "_law_font_made" "_law_font_made" s_fmade f fd) (M : Mk K C fI) (GI : FnOk P w K mg base CX0 4 fI fdI ["self", "signs", "turns"] (sp_init K C)) (bI : Binds K fdI ["self", "signs", "turns"] []) (gF : mg "Font" = some (.ref C))
    (DS : Def K mg "_law_shuffled" fS fdS ["_law_pen_here", "_law_items"]) (GS : FnOk P w K mg base CX0 2 fS fdS ["_law_pen_here", "_law_items"] (sp_shuf K))
    (DF : Def K mg "_law_flipped" fF fdF ["_law_pen_here", "_law_pair"]) (GF : FnOk P w K mg base CX0 3 fF fdF ["_law_pen_here", "_law_pair"] (sp_flip K)) :
    FnOk P w K mg base CX0 6 f fd ["_law_pen_here", "_law_font_here"] (sp_fmade K C) := by
  refine F.ok sc_fmade (fun vs H Q E h => ?_) (fun cdv A outer s H vs Q E hr h => ?_)
  · obtain ⟨p, c, t, b, n, S, ys, ps, rfl, _⟩ := h
    rfl
  · obtain ⟨p, c, t, b, n, S, ys, ps, rfl, hP, hn, ht, hb, hps, hG, k⟩ := h
    have r2 : Room 2 _ := hr.mono (by decide)
    have r3 : Room 3 _ := hr.mono (by decide)
    have hl := pairs_len hG
    have hyl := hps.length
    refine ⟨_, pss_one (ps_ret (pe_font M GI hr rfl gF bI .nil (pa_cons (pe_ix ix_tup (pv 1) pe_int (fun _ _ => rfl)) (pa_cons (by exact (pe_lc (own := [("_law_pair", 2)]) (g := gName 2) (tt := tYes) rfl sc_fmade.nd (pi_list (pe_call GS r2 rfl DS.mgf DS.kp DS.bd .nil pass0 (pa_cons (pv 0) (pa_cons (pe_ix ix_tup (pv 1) pe_int (fun _ _ => rfl)) pa_nil))))
      (blkOk_by (own := [("_law_pair", 2)]) (N := NFm) (sc := defScope s_fmade) (by decide +kernel)) (fun _ _ _ _ _ => pg_name (i := 2) sc_fmade.nd rfl (Or.inl rfl)) (fun _ _ _ _ _ => pts_nil)
      (fun _ _ _ _ _ => pe_call (E := E0) GF r3 rfl DF.mgf DF.kp DF.bd .nil pass0 (pa_cons (pv 0) (pa_cons (pv 2) pa_nil))))) pa_nil)))), ?_⟩
    refine ⟨_, rfl, t, _, _, _, rfl, rfl, SqT.of ht, at0 _ _, _, rfl, _, rfl, t, _, _, _, rfl, rfl, SqT.of ht, at1 _ _, p, c, _, ys, n, rfl, hP, by omega, .lst hb, by omega, fun H1 r xs d1 f1 h1 perm => ?_⟩
    obtain ⟨ps2, hps2, perm2⟩ := paired_perm perm (hps.pen hP d1.but)
    have lxs := hps2.length
    have lps := perm2.length_eq
    refine ⟨r, rfl, ⟨_, SqL.of h1⟩, fun D1 hD1 => lc_flip (c := c) (n := n + ys.length) d1.pen h1 (fun z => hP.ne f1 z.symm) hps2 (by omega) hD1 (fun x => rfl) ?_ ?_⟩
    · rintro j q e H' C hj hPj hq hC
      refine ⟨_, rfl, _, rfl, p, c, q, _, _, _, rfl, hPj, by omega, hq, fun H2 r' d2 hr' => ?_⟩
      rcases hr' with hr' | hr'
      · exact hC H2 r' e d2 (.inl rfl) hr'
      · exact hC H2 r' (e.2, e.1) d2 (.inr rfl) hr'
    · rintro H' zs qs d2 hD hqs sm hl2
      have sm2 := same_trans (same_perm perm2) sm
      have abq := turns_ab hG sm2
      obtain ⟨_, _, _, _, nd⟩ := pairs_data qs abq
      obtain ⟨dfit, _, _, _⟩ := passed_data hl2 abq (.inl rfl)
      have d12 := d1.trans d2
      have hrp : Rp K p H' false (.ref D1) (.list (qs.map pairD)) := by
        obtain ⟨cs, u, z, hp, _⟩ := d2.pen
        exact .lst hD (fun z => d1.pen.ne hD1 z.symm) (fun z => by rw [nd] at z; cases z) (rp_pairs hp (fun xs z => by cases z) hqs)
      have kept : keptD S (.list (qs.map pairD)) = some (dueOf S (headsAll ps)) := kept_same sm2 hG.tnd hG.tin
      exact ⟨S, .ref D1, _, _, p, rfl, hrp, dfit, good_fontD (Nat.le_refl 10) hG, kept, fun H2 a s2 fa ft => k H2 a (d12.but.trans (.of s2)) ((d12.pen.mono (by omega)).same s2) ft⟩
end
end My
end
section
set_option Elab.async false
set_option linter.all false
set_option maxRecDepth 100000
set_option maxHeartbeats 4000000
/-! Qmadec: a case of the package from a drawn one. -/
namespace My
open PySem PySem.Spec PyProof.Rows L2 LamX
abbrev s_cmade : Stmt := topS 57
def sp_cmade (CC C : Addr) : Sp := fun vs H Q _ => ∃ (p c t t1 b d : Addr) (n : Nat) (S : Str) (ys : List V) (ps : List (Nat × Nat)) (cs : List (Str × Int)), vs = [.ref p, .ref t] ∧ PenAt H p c n ∧ n < 2 ^ 48 ∧ Pl H t t1 b d S ys ps cs ∧
  ∀ H' a, DrewP H p c (n + 400) H' → CaseAt H' CC C a S (dueOf S (headsAll ps)) cs → Q (.ref a) H'
section
variable {P : Program} {w : World} {K : PySem.W.Frag} {mg : Str → Option Value} {base : Heap}
abbrev NMc : List Str := ["_law_pen_here", "_law_plain_here", "_law_font_here", "_law_counts", "_law_plates", "_law_kind"]
theorem sc_cmade : FnScope NMc ["_law_pen_here", "_law_plain_here"] (defScope s_cmade) := ⟨rfl, rfl, rfl, by decide +kernel, rfl, by decide +kernel, by decide +kernel⟩
theorem ok_cmade {f CC C fI fM fS fF fP : Addr} {fd fdI fdM fdS fdF fdP : FuncData} (F : Fun K "_law_made" "_law_made" s_cmade f fd) (T : TB mg)
    (M : Mk K CC fI) (GI : FnOk P w K mg base CX0 6 fI fdI ["self", "font", "plates"] (sp_cinit K CC C)) (bI : Binds K fdI ["self", "font", "plates"] []) (gF : mg "Case" = some (.ref CC))
    (DM : Def K mg "_law_font_made" fM fdM ["_law_pen_here", "_law_font_here"]) (GM : FnOk P w K mg base CX0 6 fM fdM ["_law_pen_here", "_law_font_here"] (sp_fmade K C))
    (DS : Def K mg "_law_shuffled" fS fdS ["_law_pen_here", "_law_items"]) (GS : FnOk P w K mg base CX0 2 fS fdS ["_law_pen_here", "_law_items"] sp_shufD)
    (DF : Def K mg "_law_flipped" fF fdF ["_law_pen_here", "_law_pair"]) (GF : FnOk P w K mg base CX0 3 fF fdF ["_law_pen_here", "_law_pair"] sp_flipS)
    (DP : Def K mg "_law_pick" fP fdP ["_law_pen_here", "_law_options"]) (GP : FnOk P w K mg base CX0 2 fP fdP ["_law_pen_here", "_law_options"] (sp_pick K)) :
    FnOk P w K mg base CX0 8 f fd ["_law_pen_here", "_law_plain_here"] (sp_cmade CC C) := by
  refine F.ok sc_cmade (fun vs H Q E h => ?_) (fun cdv A outer s H vs Q E hr h => ?_)
  · obtain ⟨p, c, t, t1, b, d, n, S, ys, ps, cs, rfl, _⟩ := h
    rfl
  · obtain ⟨p, c, t, t1, b, d, n, S, ys, ps, cs, rfl, hP, hn, hT, k⟩ := h
    have hu := hu_of hr
    have r2 : Room 2 _ := hr.mono (by decide)
    have r3 : Room 3 _ := hr.mono (by decide)
    have r6 : Room 6 _ := hr.mono (by decide)
    refine ⟨_, pss_cons (ps_asg (pv 1) (pg_tup rfl (pgs_cons (pg_name (i := 2) sc_cmade.nd rfl (Or.inl rfl)) (pgs_cons (pg_name (i := 3) sc_cmade.nd rfl (Or.inr rfl)) pgs_nil))))
      (pss_cons (ps_setLc (i := 4) (own := [("_law_kind", 5)]) (g := gName 5) (tt := tYes) rfl sc_cmade.nd rfl rfl (sw_true rfl rfl rfl (by decide +kernel)) (pi_list (pe_call GS r2 rfl DS.mgf DS.kp DS.bd .nil pass0 (pa_cons (pv 0) (pa_cons (pv 3) pa_nil))))
        (blkOk_by (own := [("_law_kind", 5)]) (N := NMc) (sc := defScope s_cmade) (by decide +kernel)) (fun _ _ _ _ _ => pg_name (i := 5) sc_cmade.nd rfl (Or.inl rfl)) (fun _ _ _ _ _ => pts_nil)
        (fun _ _ _ _ _ => pe_tup' (pa_cons (pe_call (E := E0) GF r3 rfl DF.mgf DF.kp DF.bd .nil pass0 (pa_cons (pv 0) (pa_cons (pv 5) pa_nil))) (pa_cons (pe_dget hu (pv 3) (pv 5) (fun _ _ => rfl)) pa_nil))))
      (pss_one (ps_ret (pe_case M GI hr rfl gF bI .nil (pa_cons (pe_call GM r6 rfl DM.mgf DM.kp DM.bd .nil pass0 (pa_cons (pv 0) (pa_cons (pv 2) pa_nil)))
        (pa_cons (pe_call GP r2 rfl DP.mgf DP.kp DP.bd .nil pass0 (pa_cons (pv 0) (pa_cons (pe_lst' (pa_cons (pv 4) (pa_cons (pe_callTy call_tupOfL (by rfl) T.tuple (by decide +kernel) (pa_cons (pv 4) pa_nil)) pa_nil))) pa_nil))) pa_nil)))))), ?_⟩
    refine ⟨_, rfl, t, _, rfl, SqT.of hT.at_.h0, rfl, _, _, rfl, _, _, rfl, rfl, ?_⟩
    have hB := hT.csb
    have kl : (toS cs).length = cs.length := List.length_map _
    have cl := hB.len
    refine ⟨_, rfl, _, rfl, p, c, d, toS cs, n, rfl, hP, by rw [kl]; omega, hT.at_.h4, by rw [kl]; omega, fun H1 r xs d1 f1 h1 perm => ?_⟩
    rw [toS_ks] at perm
    obtain ⟨l, rfl, pl⟩ := perm_strs perm
    have ll : l.length ≤ 110 := by rw [pl.length_eq, List.length_map]; exact cl
    have lin : ∀ k ∈ l, k ∈ cs.map (·.1) := fun k hk => pl.mem_iff.mp hk
    rw [kl] at d1
    have hT1 := hT.pen hP d1.but
    refine ⟨r, rfl, ⟨_, SqL.of h1⟩, fun D1 hD1 => lc_fl (c := c) (cs := cs) (n := n + cs.length) d1.pen h1 (fun z => hP.ne f1 z.symm) ll hD1 (fun x => rfl) ?_ ?_⟩
    · rintro j k' H' C hk hj hBj hPj hC
      have hin := lin _ (List.mem_of_getElem? hk)
      obtain ⟨e0, he0, ek⟩ := List.mem_map.mp hin
      obtain ⟨x, y, ez, _, _⟩ := ks_cps (hB.inS e0 he0)
      rw [ek] at ez
      subst ez
      have hd' := hBj _ _ (d1.pen.neK hT1.at_.h4) hT1.at_.h4
      refine ⟨_, rfl, _, rfl, p, c, x, y, _, rfl, hPj, by omega, fun H2 z d2 hz => ?_⟩
      have hd2 := d2.but _ _ (hPj.neK hd') hd'
      have ec : ctK cs (mkS [x, y]) = some (gC cs (mkS [x, y])) := by
        unfold gC
        rw [← ek, ctK_nd hB.nd he0]
        rfl
      have dg := dget_toS (mkS [x, y]) hd2
      rw [ec] at dg
      refine ⟨_, rfl, _, rfl, d, _, rfl, dg, by show 2 ≤ sizeLine; decide, fun q H3 n3 => ?_⟩
      exact hC H3 q z ⟨d2.but.trans (.of n3.same), d2.pen.same n3.same⟩ ⟨⟨x, y, rfl, hz⟩, rfl⟩ n3.here
    · rintro H2 zs es d2 hD hE hpr
      obtain ⟨eo, ec⟩ := flips_ok hT.good.hi hT.good.nd hT.no (Int.le_refl _) hT.csp pl hpr
      have d12 : DrewP H p c (n + 300) H2 := (d1.trans d2).mono (by omega)
      have hT2 := hT.pen hP d12.but
      have P2 := d12.pen
      have Dp : D1 ≠ p := fun z => d1.pen.ne hD1 z.symm
      refine ⟨_, rfl, _, rfl, p, c, t1, b, n + 300, S, ys, ps, rfl, P2, by omega, hT2.at_.h1, SqL.of hT2.at_.h2, hT2.at_.h3, hT.good, fun H3 a3 b3 P3 ft => ?_⟩
      have hD3 := b3 _ _ Dp hD
      have hE3 := EntAt.pen P2 b3 hE
      refine ⟨_, rfl, _, rfl, _, rfl, D1, zs, rfl, SqL.of hD3, fun tp H4 n4 => ⟨by show 2 ≤ sizeLine; decide, fun q H5 n5 => ?_⟩⟩
      have s35 := n4.same.trans n5.same
      have tpp : tp ≠ p := fun z => P3.ne n4.free z.symm
      refine ⟨p, c, q, _, n + 300 + 20, rfl, P3.same s35, by omega, SqL.of n5.here, fun z => (P3.same n4.same).ne n5.free z.symm, by show 0 < 2; decide, by show 2 ≤ 1000000; decide, fun H6 v d6 hv => ?_⟩
      have b36 : But p H3 H6 := (But.of s35).trans d6.but
      have D6 := b36 _ _ Dp hD3
      have tp6 : H6 tp = some (.tup zs) := d6.but _ _ tpp (n5.same _ _ n4.here)
      have E6 := EntAt.pen P3 b36 hE3
      have F6 := ft.pen P3 b36
      have ndE := ents_nd' es
      obtain ⟨cs0, u0, z0, hp0, _⟩ := id d6.pen
      have fin : ∀ {H' : Hp} {a : Addr}, Same H6 H' → CaseAt H' CC C a S (dueOf S (headsAll ps)) (cntd S es) → Q (.ref a) H' := fun {H' a} s ca => by
        rw [ec] at ca
        exact k H' a ⟨((d12.but.trans b3).trans b36).trans (.of s), (d6.pen.mono (by omega)).same s⟩ ca
      rcases List.mem_cons.mp hv with rfl | hv
      · exact ⟨a3, D1, p, _, S, _, es, zs, rfl, .lst D6 Dp (fun z => by rw [ndE] at z; cases z) (rp_ents hp0 (fun xs z => by cases z) E6), rfl, F6, hT.good.hi, hT.good.nd, hT.no, .inl (SqL.of D6), E6, eo, fun H7 a7 s7 f7 ca7 => fin s7 ca7⟩
      · rw [List.mem_singleton.mp hv]
        exact ⟨a3, tp, p, _, S, _, es, zs, rfl, .tup tp6 tpp (rp_ents hp0 (fun xs z => by cases z) E6), rfl, F6, hT.good.hi, hT.good.nd, hT.no, .inr (SqT.of tp6), E6, eo, fun H7 a7 s7 f7 ca7 => fin s7 ca7⟩
end
end My
end
section
set_option Elab.async false
set_option linter.all false
set_option maxRecDepth 100000
set_option maxHeartbeats 4000000
/-! B8: == and != by an own ==; bool of an own class. -/
namespace My
open PySem PySem.Spec PyProof.Rows L2
open PySem.W (Frag findIn isFn notFirst mroIn Looks InstAt)
/-- the class's own == at f; its != is object's -/
structure EqC (K : Frag) (C f : Addr) : Prop where
  eq : findIn K (.ref C) "__eq__" = some (some (.ref f))
  fn : isFn K (.ref f) = true
  ne : findIn K (.ref C) "__ne__" = some (some (.builtin "object.__ne__"))
  ob : mroIn K C (.type "object") = some true
section
variable {prog : Program} {w : World} {A : Around} {E : Value → Shared → Prop} {s : Shared} {K : Frag} {x C L f : Addr} {h₀ : Heap} {ox : Obj} {od : Option Obj} {b tb : Value}
theorem objNe_K {Q : Fin → Shared → Prop} (hu : A.units < cLine) (X : K.In s.heap) (I : InstAt s.heap x ox C od) (O : EqC K C f)
    (h : wpAny (model prog w) A (call (.ref f) [.ref x, b]) (fun v s' => ∃ c, v = .bool c ∧ Q (.done (.ret (.bool (!c)))) s') E s) :
    wpAny (model prog w) A (Builtin.«object.__ne__» ⟨[.ref x, b], []⟩) Q E s := by
  unfold Builtin.«object.__ne__»
  refine wpAny_bind (wpAny_of_eq (a := ((Value.ref x : Value), [b])) (by first | rfl | (simp only [slotArgs]; rfl)) ?_)
  refine wpAny_bind (wpAny_cRoomFor hu ?_)
  refine wpAny_bind (m := callSpecialIfBound? (.ref x) (Str.ofString "__eq__") [b]) (PySem.W.ifBound_K X I O.eq O.fn (wpAny_mono h (fun r s' hr => ?_) fun _ _ e => e))
  obtain ⟨c, rfl, hq⟩ := hr
  refine wpAny_bind (m := truthy (.bool _)) (wpAny_truthy_bool ?_)
  first | exact wpAny_pure hq | exact hq
theorem tryNe_K {Q : Option Value → Shared → Prop} (hu : A.units + 1 < cLine) (X : K.In s.heap) (I : InstAt s.heap x ox C od) (O : EqC K C f)
    (h : wpAny (model prog w) A.in1 (call (.ref f) [.ref x, b]) (fun v s' => ∃ c, v = .bool c ∧ Q (some (.bool (!c))) s') E s) :
    wpAny (model prog w) A (tryCompare (.ref x) "__ne__" b) Q E s := by
  have S := F.cmp_object.ne
  have isO : Looks (model prog w) s.heap (isInstance (.ref x) (.type "object")) true := I.type.andThen (PySem.W.looks_mroIn X O.ob)
  have big : wpAny (model prog w) A (call (.builtin "object.__ne__") [.ref x, b]) (fun v s' => ∃ c, v = .bool (!c) ∧ Q (some (.bool (!c))) s') E s := by
    refine wpAny_call (codeAny_call_builtin S.plain F.cmpEntry_ne (PySem.W.check_slot (M := model prog w) (s := s) F.cmpKind_ne F.cmpSplit_ne isO (F.cmpArgs_ne (.ref x) b) ?_))
    refine objNe_K (A := A.in1) (show A.units + 1 < cLine from hu) X I O (wpAny_mono h (fun v s' hv => ?_) fun _ _ e => e)
    obtain ⟨c, rfl, hq⟩ := hv
    exact ⟨c, rfl, c, rfl, hq⟩
  simp only [tryCompare]
  refine wpAny_bind ?_
  simp only [callSpecialIfBound?, bindSpecialIfBound?]
  refine wpAny_holding (wpAny_bind (wpAny_bind (wpAny_bind (I.type.here ((PySem.W.looks_findIn X O.ne).here ?_)))))
  simp only [S.bind]
  refine wpAny_bind (wpAny_askSetting (wpAny_ite ?_))
  have fin : wpAny (model prog w) A (call (.builtin "object.__ne__") ([.ref x] ++ [b]) >>= fun v => pure (some v)) (fun r s' => ∃ c, r = some (.bool (!c)) ∧ Q (some (.bool (!c))) s') E s :=
    wpAny_bind (wpAny_mono big (fun v s' h' => by
      obtain ⟨c, rfl, hq⟩ := h'
      exact wpAny_pure ⟨c, rfl, hq⟩) fun _ _ h' => h')
  have fin2 := wpAny_mono fin (Q' := fun r s' => wpAny (model prog w) A (match r with | some .notImplemented | none => pure none | some v => pure (some v)) Q E s') (fun r s' h' => by
      obtain ⟨c, rfl, hq⟩ := h'
      exact wpAny_pure hq) fun _ _ h' => h'
  split
  · exact wpAny_bind (wpAny_pure (wpAny_pure fin2))
  · exact wpAny_tryCatch (wpAny_bind (wpAny_pure (wpAny_pure fin2)))
theorem richNe_K {Q : Value → Shared → Prop} (hu : A.units + 1 < cLine) (X : K.In s.heap) (I : InstAt s.heap x ox C od) (O : EqC K C f) (hb : Looks (model prog w) s.heap (typeOf b) tb) (hn : notFirst K C tb = true)
    (h : wpAny (model prog w) A.in1 (call (.ref f) [.ref x, b]) (fun v s' => ∃ c, v = .bool c ∧ Q (.bool (!c)) s') E s) : wpAny (model prog w) A (richCompare .NotEq (.ref x) b) Q E s := by
  have one : wpAny (model prog w) A (tryCompare (.ref x) "__ne__" b) (fun r s' => ∃ v, r = some v ∧ Q v s') E s := tryNe_K hu X I O (wpAny_mono h (fun v s' hv => by
    obtain ⟨c, rfl, hq⟩ := hv
    exact ⟨c, rfl, _, rfl, hq⟩) fun _ _ e => e)
  unfold richCompare
  simp only [oneThing_ref]
  refine wpAny_holding (wpAny_bind (wpAny_cRoomFor (Nat.lt_of_succ_lt hu) ?_))
  refine wpAny_bind (I.type.here (wpAny_bind (hb.here ?_)))
  rw [cmpInfo_NotEq]
  dsimp only
  split
  · rename_i q
    have e : PySem.W.subIn K tb (.ref C) = some false := by
      rcases Bool.or_eq_true_iff.mp hn with e | e
      · rw [beq_iff_eq.mp e] at q; simp at q
      · exact beq_iff_eq.mp e
    refine wpAny_bind ((PySem.W.looks_subIn X e).here ?_)
    simp only [Bool.false_eq_true, if_false]
    refine wpAny_bind (wpAny_mono one (fun r s' z => ?_) fun _ _ e => e)
    obtain ⟨v, rfl, hq⟩ := z
    exact wpAny_pure hq
  · refine wpAny_bind (wpAny_pure ?_)
    simp only [Bool.false_eq_true, if_false]
    refine wpAny_bind (wpAny_mono one (fun r s' z => ?_) fun _ _ e => e)
    obtain ⟨v, rfl, hq⟩ := z
    exact wpAny_pure hq
end
/-- a value's type, an instance's class too -/
def TyI (K : Frag) (H : Hp) (y : V) (t : Value) : Prop := TyX K H y t ∨ ∃ b C' dx fs, y = .ref b ∧ H b = some (.ins C' dx fs) ∧ t = .ref C'
theorem TyI.look {X : Cx} {pins : List (Addr × Obj)} {σ : L2.St} {H : Hp} {s : Shared} {y : V} {t u : Value} (I : Inv X pins σ H s) (r : RelV y u) (h : TyI X.K H y t) : Looks (model X.prog X.w) s.heap (typeOf u) t := by
  rcases h with h | ⟨b, C', dx, fs, rfl, hb, rfl⟩
  · obtain ⟨P, Z, p, _⟩ := kit_of I r h
    exact Z.ty _ _ I.kIn p
  · cases (show u = Value.ref b from r)
    obtain ⟨mA, J, _⟩ := ins_get I.hok hb
    obtain ⟨od, J, _⟩ := J.look
    exact J.type
theorem notFirst_self (K : Frag) (C : Addr) : notFirst K C (.ref C) = true := by simp [notFirst]
section
variable {X : Cx} {k : Nat} {C f : Addr} {fd : FuncData} {sp : Sp} {ot : Str}
/-- x == y, x != y, x an instance of the class at C with an own == -/
def rEqO (K : Frag) (C : Addr) (sp : Sp) (neg : Bool) : R2 := fun x y H Q => ∃ a dx fs t, x = .ref a ∧ H a = some (.ins C dx fs) ∧ TyI K H y t ∧ notFirst K C t = true ∧ sp [.ref a, y] H (fun v H' => ∃ b : Bool, v = .bl b ∧ Q (.bl (if neg then !b else b)) H') E0
theorem run_eq {A : Around} {pins : List (Addr × Obj)} {σ : L2.St} {H : Hp} {s : Shared} {a : Addr} {y : V} {u : Value} {Q : VK} {R : Value → Shared → Prop} {neg : Bool} (F : FnOk X.prog X.w X.K X.mg X.base CX0 k f fd ["self", ot] sp) (hr : Room k A) (hb : Binds X.K fd ["self", ot] []) (I : Inv X pins σ H s) (hA : Env0 X.prog X.w X.K X.mg X.base A X.stack s H)
    (ry : RelV y u) (q : sp [.ref a, y] H (fun v H' => ∃ b : Bool, v = .bl b ∧ Q (.bl (if neg then !b else b)) H') E0) (hR : ∀ b s', EP X pins σ Q (.bool (if neg then !b else b)) s' → R (.bool b) s') : wpAny (model X.prog X.w) A (call (.ref f) [.ref a, u]) R X.xe s := by
  refine wpAny_call ?_
  refine codeAny_mono (F.run A X.stack s H ⟨[.ref a, u], []⟩ [.ref a, u] [.ref a, y] _ _ hr hA (hb _ [.ref a, u] I.kIn rfl) (.cons rfl (.cons ry .nil)) q) fun r s' hq => ?_
  cases r with
  | error er => exact False.elim hq
  | ok fl =>
    cases fl with
    | ret w =>
      obtain ⟨z, H', I3, rv, b, ev, q3⟩ := I.after hq
      subst ev
      obtain rfl : w = Value.bool b := rv
      exact hR b s' ⟨.bl _, H', I3, rfl, q3⟩
    | next => exact False.elim hq
    | brk => exact False.elim hq
    | cont => exact False.elim hq
theorem op_eqO (O : EqC X.K C f) (F : FnOk X.prog X.w X.K X.mg X.base CX0 k f fd ["self", ot] sp) (hr : Room k X.A) (hb : Binds X.K fd ["self", ot] []) : OpR X (compareOp .Eq) (rEqO X.K C sp false) := by
  intro pins s σ H x y v u Q I rx ry h
  obtain ⟨a, dx, fs, t, rfl, ea, ty, hn, q⟩ := h
  obtain rfl : v = Value.ref a := rx
  obtain ⟨mA, J, _⟩ := ins_get I.hok ea
  obtain ⟨od, J, _⟩ := J.look
  obtain ⟨m, hF⟩ := I.fr
  show wpAny (model X.prog X.w) X.A (richCompare .Eq (.ref a) u) (EP X pins σ Q) X.xe s
  refine PySem.W.cmp_K (op := .Eq) (tb := t) hr.units0 hF I.ok.mod.kin J (ty.look I ry) hn O.eq O.fn ?_
  exact run_eq (neg := false) F hr hb I I.env0 ry q fun b s' hq => hq
theorem op_neO (O : EqC X.K C f) (F : FnOk X.prog X.w X.K X.mg X.base CX0 k f fd ["self", ot] sp) (hr : Room (k + 1) X.A) (hb : Binds X.K fd ["self", ot] []) : OpR X (compareOp .NotEq) (rEqO X.K C sp true) := by
  intro pins s σ H x y v u Q I rx ry h
  obtain ⟨a, dx, fs, t, rfl, ea, ty, hn, q⟩ := h
  obtain rfl : v = Value.ref a := rx
  obtain ⟨mA, J, _⟩ := ins_get I.hok ea
  obtain ⟨od, J, _⟩ := J.look
  show wpAny (model X.prog X.w) X.A (richCompare .NotEq (.ref a) u) (EP X pins σ Q) X.xe s
  have hu : X.A.units + 1 < cLine := hu_of (hr.mono (Nat.succ_le_succ (Nat.zero_le k)))
  refine richNe_K hu I.kIn J O (ty.look I ry) hn ?_
  exact run_eq (neg := true) F hr.in1 hb I I.env0.in1 ry q fun b s' hq => ⟨b, rfl, hq⟩
end
/-- bool(x), x an instance of a class with an own __bool__ -/
theorem meets_bool_own {prog : Program} {w : World} {K : Frag} {h₀ : Heap} {L x C f : Addr} {ox : Obj} {od : Option Obj} {m : Str → Option Value} (hs : findIn K (.ref C) "__bool__" = some (some (.ref f))) (hf : isFn K (.ref f) = true) :
    MeetsIn prog w (Builtin.«bool.__new__» ⟨[.type "bool", .ref x], []⟩) (fun A R s => Fr h₀ L s.heap m ∧ K.In h₀ ∧ InstAt s.heap x ox C od ∧ wpAny (model prog w) A.in1 (call (.ref f) [.ref x]) (fun v s' => ∃ c, v = .bool c ∧ R (.ok (.ret (.bool c))) s') (fun e s' => R (.error e) s') s) :=
  .of_wp fun A R s hs' => by
    obtain ⟨hF, hK, hI, hc⟩ := hs'
    obtain ⟨hp, g, d, tk, os⟩ := s
    have f1 := F.conv_sub_bool
    have tr : ∀ (Q : Bool → Shared → Prop), (∀ c s', R (.ok (.ret (.bool c))) s' → Q c s') → wpAny (model prog w) A.in1 (truthy (.ref x)) Q (fun e s' => R (.error e) s') ⟨hp, g, d, tk, os⟩ := fun Q hQ =>
      PySem.W.truthy_K hF hK hI hs hf (wpAny_mono hc (fun v s' hv => by
        obtain ⟨c, rfl, hq⟩ := hv
        exact hQ _ _ hq) fun _ _ e => e)
    repeat (any_goals (first | assumption | (with_reducible refine tr _ (fun c s' hq => ?_)) | wp_step))
    all_goals first | exact ⟨_, rfl, hq⟩ | skip
section
variable {X : Cx} {k : Nat} {C f : Addr} {fd : FuncData} {sp : Sp}
def qBoolO (C : Addr) (sp : Sp) : List V → Hp → VK → Prop := fun xs H Q => ∃ a dx fs, xs = [.ref a] ∧ H a = some (.ins C dx fs) ∧ sp [.ref a] H (fun v H' => ∃ b : Bool, v = .bl b ∧ Q (.bl b) H') E0
theorem call_boolO (hs : findIn X.K (.ref C) "__bool__" = some (some (.ref f))) (hf : isFn X.K (.ref f) = true) (F : FnOk X.prog X.w X.K X.mg X.base CX0 k f fd ["self"] sp) (hr : Room (k + 2) X.A) (hb : Binds X.K fd ["self"] []) : CallR X (.type "bool") (qBoolO C sp) := by
  intro pins s σ H xs us Q I r h
  obtain ⟨a, dx, fs, rfl, ea, q⟩ := h
  obtain ⟨u, rfl, rx⟩ := vals1 r
  obtain rfl : u = Value.ref a := rx
  obtain ⟨mA, od0, _, _, _, _⟩ := ins_get I.hok ea
  obtain ⟨od, J, _⟩ := od0.look
  obtain ⟨m, fr⟩ := I.fr
  refine callType_newIn PySem.F.called_bool PySem.F.newNe_bool (PySem.F.typeCall_bool_1 _) (PySem.F.newCall_bool_1 _) (fun obj => PySem.F.args_object_init_2 obj _) PySem.F.entry_bool_new (meets_bool_own hs hf) ⟨fr, I.ok.mod.kin, J, ?_⟩
  refine wpAny_call ?_
  refine codeAny_mono (F.run X.A.in1.in1 X.stack s H ⟨[.ref a], []⟩ [.ref a] [.ref a] _ _ (show Room (k + 1) X.A.in1 from Room.in1 hr).in1 I.env0.in1.in1 (hb _ [.ref a] I.kIn rfl) (.cons rfl .nil) q) fun r s' hq => ?_
  cases r with
  | error er => exact False.elim hq
  | ok fl =>
    cases fl with
    | ret u =>
      obtain ⟨v, H', I3, rv, b, ev, q3⟩ := I.after hq
      subst ev
      obtain rfl : u = Value.bool b := rv
      exact ⟨b, rfl, rfl, .bl b, H', I3, rfl, q3⟩
    | next => exact False.elim hq
    | brk => exact False.elim hq
    | cont => exact False.elim hq
end
end My
end
section
set_option Elab.async false
set_option linter.all false
set_option maxRecDepth 100000
set_option maxHeartbeats 4000000
namespace My
open PySem PySem.Spec PyProof.Rows L2
abbrev s_feq : Stmt := inCls s_cls 8
abbrev s_isRow : Stmt := topS 29
abbrev s_chk : Stmt := topS 33
/-- an instance's class can be asked for -/
structure InsT (K : PySem.W.Frag) (C : Addr) : Prop where
  cl : Cls K C
  ca : PySem.W.findIn K (.ref C) "__class__" = some (some (.builtin "object.__class__"))
  cn : PySem.W.specialIn K (.builtin "object.__class__") "__get__" = some (some (.builtin "getset_descriptor.__get__"))
  ct : PySem.W.takesIn K (.builtin "object.__class__") = some true
  cm : PySem.W.mroIn K C (.type "object") = some true
theorem InsT.ty {K : PySem.W.Frag} {C a dx : Addr} {H : Hp} {fs : List (Str × V)} (h : InsT K C) (e : H a = some (.ins C dx fs)) : TyX K H (.ref a) (.ref C) := .base (.ins e h.cl h.ca h.cn h.ct h.cm)
theorem kit_self {K : PySem.W.Frag} (C : Addr) : PySem.W.kitOne K (.ref C) (.ref C) = some true := by simp [PySem.W.kitOne]
theorem pairs_dp {K : PySem.W.Frag} {H : Hp} : ∀ {ps : List (Nat × Nat)} {ys : List V}, PairsAt H ps ys → DpAll K H ys (ps.map pairD)
  | _, _, .nil => .nil
  | _, _, .cons ⟨q, e, h⟩ t => e ▸ .cons (.tup (SqT.of h) (.cons (.str _) (.cons (.str _) .nil))) (pairs_dp t)
theorem pairs_eqv : ∀ ps qs : List (Nat × Nat), PyData.eqvAll (ps.map pairD) (qs.map pairD) = decide (ps = qs)
  | [], [] => rfl
  | [], _ :: _ => rfl
  | _ :: _, [] => rfl
  | (a, b) :: ps, (c, d) :: qs => by
    have one : ∀ x y : Nat, ((⟨#[x]⟩ : Str) == ⟨#[y]⟩) = decide (x = y) := fun x y => eqV_sg x y
    show ((((⟨#[a]⟩ : Str) == ⟨#[c]⟩) && (((⟨#[b]⟩ : Str) == ⟨#[d]⟩) && true)) && PyData.eqvAll (ps.map pairD) (qs.map pairD)) = _
    rw [pairs_eqv ps qs, one, one, Bool.and_true]
    by_cases h1 : a = c
    · by_cases h2 : b = d
      · by_cases h3 : ps = qs
        · simp [h1, h2, h3]
        · simp [h1, h2, h3]
      · simp [h1, h2]
    · simp [h1]
/-- signs that a text may have -/
def LowP (ps : List (Nat × Nat)) : Prop := ∀ e ∈ ps, e.1 < 128 ∧ e.2 < 128
theorem ok_one {c : Nat} (h : c < 128) : PyData.strOk ⟨#[c]⟩ = true := by
  have h2 : c < 1114112 := by omega
  simp [PyData.strOk, h2]
theorem pairs_lay : ∀ ps : List (Nat × Nat), LowP ps → (PyData.list (ps.map pairD)).canLay0 = true ∧ (PyData.list (ps.map pairD)).depth ≤ 3
  | [], _ => ⟨rfl, by decide⟩
  | e :: ps, h => by
    obtain ⟨h1, h2⟩ := pairs_lay ps fun x hx => h x (List.mem_cons_of_mem _ hx)
    obtain ⟨e1, e2⟩ := h e List.mem_cons_self
    refine ⟨?_, ?_⟩
    · show (_ && (PyData.list (ps.map pairD)).canLay0) = true
      rw [h1, Bool.and_true]
      show (PyData.strOk ⟨#[e.1]⟩ && (PyData.strOk ⟨#[e.2]⟩ && true)) = true
      rw [ok_one e1, ok_one e2]
      rfl
    · have q : (PyData.list ((e :: ps).map pairD)).depth = max 1 ((PyData.list (ps.map pairD)).depth - 1) + 1 := rfl
      rw [q]
      omega
theorem pairs_shape {ps : List (Nat × Nat)} (h : LowP ps) : SeqAt.shaped (.tuple (ps.map pairD)) = true := by
  obtain ⟨h1, h2⟩ := pairs_lay ps h
  have h1 : (PyData.tuple (ps.map pairD)).canLay0 = true := h1
  have h2 : (PyData.tuple (ps.map pairD)).depth ≤ 3 := h2
  unfold SeqAt.shaped
  rw [h1, Bool.true_and]
  exact decide_eq_true (by omega)
def sp_feq (C : Addr) : Sp := fun vs H Q _ => ∃ (a b : Addr) (S T : Str) (ps qs : List (Nat × Nat)), vs = [.ref a, .ref b] ∧ FontAt H C a S ps ∧ FontAt H C b T qs ∧ LowP ps ∧ LowP qs ∧ Q (.bl (decide (S = T ∧ ps = qs))) H
section
variable {P : Program} {w : World} {K : PySem.W.Frag} {mg : Str → Option Value} {base : Heap}
theorem sc_feq : FnScope ["self", "other"] ["self", "other"] (defScope s_feq) := ⟨rfl, rfl, rfl, by decide +kernel, rfl, by decide +kernel, by decide +kernel⟩
theorem ok_feq {f C : Addr} {fd : FuncData} (F : Fun K "__eq__" "Font.__eq__" s_feq f fd) (T : TB mg) (I : InsT K C) (gF : mg "Font" = some (.ref C)) (n1 : NoAttr K C "_signs") (n2 : NoAttr K C "_turns") : FnOk P w K mg base CX0 1 f fd ["self", "other"] (sp_feq C) := by
  refine F.ok sc_feq (fun vs H Q E h => ?_) (fun cdv A outer s H vs Q E hr h => ?_)
  · obtain ⟨a, b, S, T, ps, qs, rfl, _⟩ := h
    rfl
  · obtain ⟨a, b, S, T', ps, qs, rfl, ha, hb, l1, l2, k⟩ := h
    obtain ⟨dx, r, ys, h1, h2, h3⟩ := ha.at_
    obtain ⟨dy, q, zs, g1, g2, g3⟩ := hb.at_
    refine ⟨_, pss_one (ps_ret (pe_and (pe_callB call_isi (by rfl) T.isi (by decide +kernel) (pa_cons (pv 1) (pa_cons (pe_glob (v := .ref C) rfl gF rfl) pa_nil)))
      (pe_and (pe_cmpR op_eq (pe_fld (pv 0) rfl) (pe_fld (pv 1) rfl) (nomark _)) (pe_one (pe_cmpR (op_eqD hr.units) (pe_fld (pv 0) rfl) (pe_fld (pv 1) rfl) (nomark _)))))), ?_⟩
    refine ⟨_, rfl, _, _, _, _, _, rfl, .own C, I.ty g1, kit_self C, _, rfl, iteT ?_⟩
    refine ⟨_, rfl, a, C, dx, _, _, rfl, h1, I.cl, n1, fs_signs S r, _, rfl, b, C, dy, _, _, rfl, g1, I.cl, n1, fs_signs T' q, rfl, _, rfl, ?_⟩
    refine ite2 (fun t => ?_) (fun t => ?_)
    · have t : S = T' := by
        have := of_decide_eq_true t
        injection this
      subst t
      refine ⟨_, rfl, a, C, dx, _, _, rfl, h1, I.cl, n2, fs_turns S r, _, rfl, b, C, dy, _, _, rfl, g1, I.cl, n2, fs_turns S q, .tuple (ps.map pairD), .tuple (qs.map pairD), .tup (SqT.of h2) (pairs_dp h3), .tup (SqT.of g2) (pairs_dp g3), ?_, ?_, ?_⟩
      · exact pairs_shape l1
      · exact pairs_shape l2
      · have e : PyData.eqv (.tuple (ps.map pairD)) (.tuple (qs.map pairD)) = decide (S = S ∧ ps = qs) := by
          show PyData.eqvAll _ _ = _
          rw [pairs_eqv]
          simp
        rw [e]
        exact k
    · have t : S ≠ T' := fun z => t (decide_eq_true (by rw [z]))
      have e : decide (S = T' ∧ ps = qs) = false := decide_eq_false fun z => t z.1
      rw [e] at k
      exact k
end
end My
end
section
set_option Elab.async false
set_option linter.all false
set_option maxRecDepth 100000
set_option maxHeartbeats 4000000
/-! Pceq: cases compared. -/
namespace My
open PySem PySem.Spec PyProof.Rows L2
abbrev c_eq : Stmt := inCls c_cls 11
theorem ok_tx2 {z : Str} (h : z.length ≤ 2 ∧ ∀ c ∈ z.cps.toList, c < 128) : PyData.strOk z = true := by
  unfold PyData.strOk
  simp only [Bool.and_eq_true, decide_eq_true_eq, List.all_eq_true, Array.all_eq_true_iff_forall_mem]
  first
    | exact ⟨Nat.le_trans h.1 (by decide), fun c hc => by have := h.2 c (by simpa using hc); first | omega | (simp; omega)⟩
    | exact ⟨fun c hc => by have := h.2 c (by simpa using hc); first | omega | (simp; omega), Nat.le_trans h.1 (by decide)⟩
    | exact fun c hc => by have := h.2 c (by simpa using hc); first | omega | (simp; omega)
theorem entsE_dp {K : PySem.W.Frag} {H : Hp} : ∀ {cs : List (Str × Int)} {ys : List V}, EntAt H cs ys → DpAll K H ys (cs.map enD)
  | _, _, .nil => .nil
  | _, _, .cons ⟨q, e, h⟩ t => e ▸ .cons (.tup (SqT.of h) (.cons (.str _) (.cons (.int _) .nil))) (entsE_dp t)
theorem entsE_eqv : ∀ cs : List (Str × Int), PyData.eqvAll (cs.map enD) (cs.map enD) = true
  | [] => rfl
  | e :: cs => by
    show (((e.1 == e.1) && ((e.2 == e.2) && true)) && PyData.eqvAll (cs.map enD) (cs.map enD)) = true
    rw [entsE_eqv cs]
    simp
theorem entsE_lay : ∀ cs : List (Str × Int), (∀ e ∈ cs, e.1.length ≤ 2 ∧ ∀ c ∈ e.1.cps.toList, c < 128) → (PyData.list (cs.map enD)).canLay0 = true ∧ (PyData.list (cs.map enD)).depth ≤ 3
  | [], _ => ⟨rfl, by decide⟩
  | e :: cs, h => by
    obtain ⟨h1, h2⟩ := entsE_lay cs fun x hx => h x (List.mem_cons_of_mem _ hx)
    refine ⟨?_, ?_⟩
    · show (_ && (PyData.list (cs.map enD)).canLay0) = true
      rw [h1, Bool.and_true]
      show (PyData.strOk e.1 && (true && true)) = true
      rw [ok_tx2 (h e List.mem_cons_self)]
      rfl
    · have q : (PyData.list ((e :: cs).map enD)).depth = max 1 ((PyData.list (cs.map enD)).depth - 1) + 1 := rfl
      rw [q]
      omega
theorem entsE_shape {cs : List (Str × Int)} (h : ∀ e ∈ cs, e.1.length ≤ 2 ∧ ∀ c ∈ e.1.cps.toList, c < 128) : SeqAt.shaped (.tuple (cs.map enD)) = true := by
  obtain ⟨h1, h2⟩ := entsE_lay cs h
  have h1 : (PyData.tuple (cs.map enD)).canLay0 = true := h1
  have h2 : (PyData.tuple (cs.map enD)).depth ≤ 3 := h2
  unfold SeqAt.shaped
  rw [h1, Bool.true_and]
  exact decide_eq_true (by omega)
def sp_ceq (CC C : Addr) : Sp := fun vs H Q _ => ∃ (a b : Addr) (S : Str) (ps : List (Nat × Nat)) (cs : List (Str × Int)), vs = [.ref a, .ref b] ∧ CaseAt H CC C a S ps cs ∧ CaseAt H CC C b S ps cs ∧ LowP ps ∧ (∀ e ∈ cs, e.1.length ≤ 2 ∧ ∀ c ∈ e.1.cps.toList, c < 128) ∧ Q (.bl true) H
section
variable {P : Program} {w : World} {K : PySem.W.Frag} {mg : Str → Option Value} {base : Heap}
theorem sc_ceq : FnScope ["self", "other"] ["self", "other"] (defScope c_eq) := ⟨rfl, rfl, rfl, by decide +kernel, rfl, by decide +kernel, by decide +kernel⟩
theorem ok_ceq {f CC C fe : Addr} {fd fde : FuncData} (F : Fun K "__eq__" "Case.__eq__" c_eq f fd) (T : TB mg) (cc : CCls K CC) (IW : InsT K CC) (gW : mg "Case" = some (.ref CC)) (O : EqC K C fe) (G : FnOk P w K mg base CX0 1 fe fde ["self", "other"] (sp_feq C)) (hb : Binds K fde ["self", "other"] []) :
    FnOk P w K mg base CX0 2 f fd ["self", "other"] (sp_ceq CC C) := by
  refine F.ok sc_ceq (fun vs H Q E h => ?_) (fun cdv A outer s H vs Q E hr h => ?_)
  · obtain ⟨a, b, S, ps, cs, rfl, _⟩ := h
    rfl
  · obtain ⟨a, b, S, ps, cs, rfl, ha, hb', lo, tx, k⟩ := h
    obtain ⟨dx, fa, d, t, ys, h1, h2, h3, h4, h5⟩ := ha.at_
    obtain ⟨dy, ga, e, t', ys', g1, g2, g3, g4, g5⟩ := hb'.at_
    obtain ⟨_, _, _, i1, _, _⟩ := id h2.at_
    obtain ⟨_, _, _, j1, _, _⟩ := id g2.at_
    refine ⟨_, pss_one (ps_ret (pe_and (pe_callB call_isi (by rfl) T.isi (by decide +kernel) (pa_cons (pv 1) (pa_cons (pe_glob (v := .ref CC) rfl gW rfl) pa_nil)))
      (pe_and (pe_cmpR (op_eqO O G hr hb) (pe_fld (pv 0) rfl) (pe_fld (pv 1) rfl) (nomark _)) (pe_one (pe_cmpR (op_eqD hr.units) (pe_fld (pv 0) rfl) (pe_fld (pv 1) rfl) (nomark _)))))), ?_⟩
    refine ⟨_, rfl, _, _, _, _, _, rfl, .own CC, IW.ty g1, kit_self CC, _, rfl, iteT ?_⟩
    refine ⟨_, rfl, a, CC, dx, _, _, rfl, h1, cc.cls, cc.nF, cfs_font fa d t, _, rfl, b, CC, dy, _, _, rfl, g1, cc.cls, cc.nF, cfs_font ga e t', fa, _, _, .ref C, rfl, i1, .inr ⟨ga, C, _, _, rfl, j1, rfl⟩, notFirst_self K C, fa, ga, S, S, ps, ps, rfl, h2, g2, lo, lo, true, by rw [decide_eq_true ⟨rfl, rfl⟩], _, rfl, iteT ?_⟩
    refine ⟨_, rfl, a, CC, dx, _, _, rfl, h1, cc.cls, cc.nP, cfs_plates fa d t, _, rfl, b, CC, dy, _, _, rfl, g1, cc.cls, cc.nP, cfs_plates ga e t', .tuple (cs.map enD), .tuple (cs.map enD), .tup (SqT.of h4) (entsE_dp h5), .tup (SqT.of g4) (entsE_dp g5), entsE_shape tx, entsE_shape tx, ?_⟩
    have ev : PyData.eqv (.tuple (cs.map enD)) (.tuple (cs.map enD)) = true := entsE_eqv cs
    rw [ev]
    exact k
end
end My
end
section
set_option Elab.async false
set_option linter.all false
set_option maxRecDepth 100000
set_option maxHeartbeats 4000000
namespace My
open PySem PySem.Spec PyProof.Rows L2
/-- whether a value is a row of the signs -/
def rowD (S : Str) : PyData → Bool
  | .str z => z.cps.toList.all fun c => decide (c ∈ S.cps.toList)
  | _ => false
def sp_isRow (K : PySem.W.Frag) : Sp := fun vs H Q _ => ∃ (S : Str) (v : V) (d : PyData) (p : Addr), vs = [.str S, v] ∧ Rp K p H false v d ∧ textFits 4000 d ∧ ∀ H', Same H H' → Q (.bl (rowD S d)) H'
/-- a set as it is written -/
def setK (S z : Str) : List Nat := S.cps.toList.filter fun c => decide (c ∈ z.cps.toList)
def sp_written (K : PySem.W.Frag) (C IS : Addr) : Sp := fun vs H Q E => ∃ (a p : Addr) (S : Str) (ps : List (Nat × Nat)) (v : V) (d : PyData), vs = [.ref a, v] ∧ FontAt H C a S ps ∧ S.length ≤ 4000 ∧ Rp K p H false v d ∧ textFits 4000 d ∧
  (setD S d = false → Err E IS v H) ∧ (∀ z, d = .str z → setD S d = true → ∀ H', Same H H' → Q (.str (mkS (setK S z))) H')
section
variable {P : Program} {w : World} {K : PySem.W.Frag} {mg : Str → Option Value} {base : Heap}
theorem sc_isRow : FnScope ["signs", "value", "sign"] ["signs", "value"] (defScope s_isRow) := ⟨rfl, rfl, rfl, by decide +kernel, rfl, by decide +kernel, by decide +kernel⟩
theorem ok_isRow {f : Addr} {fd : FuncData} (F : Fun K "is_row" "is_row" s_isRow f fd) (T : TB mg) : FnOk P w K mg base CX0 1 f fd ["signs", "value"] (sp_isRow K) := by
  refine F.ok sc_isRow (fun vs H Q E h => ?_) (fun cdv A outer s H vs Q E hr h => ?_)
  · obtain ⟨S, v, d, p, rfl, _⟩ := h
    rfl
  · obtain ⟨S, v, d, p, rfl, hd, hz, k⟩ := h
    refine ⟨_, pss_one (ps_ret (pe_and (pe_callB call_isi (by rfl) T.isi (by decide +kernel) (pa_cons (pv 1) (pa_cons (pe_bltn (v := .ty "str") (by rfl) T.str (by decide +kernel) rfl) pa_nil)))
      (pe_one (pe_callB (cr_all rfl) (by rfl) T.all (by decide +kernel) (pa_cons (pe_lc (own := [("sign", 2)]) (g := gName 2) (tt := tYes) rfl sc_isRow.nd (pi_str (pv 1)) (blkOk_by (own := [("sign", 2)]) (N := ["signs", "value", "sign"]) (sc := defScope s_isRow) (by decide +kernel))
        (fun _ _ _ _ _ => pg_name (i := 2) sc_isRow.nd rfl (Or.inl rfl)) (fun _ _ _ _ _ => pts_nil) (fun _ _ _ _ _ => pe_cmpR op_in_sign (pv 2) (pv 0) (by rfl))) pa_nil))))), ?_⟩
    refine ⟨_, rfl, _, _, _, _, _, rfl, .ty "str", hd.ty, kit_str d, _, rfl, ?_⟩
    cases d with
    | str z =>
      cases hd
      have hz : z.length ≤ 4000 := hz
      refine iteT ?_
      refine ⟨_, rfl, z, rfl, fun D hD => lc_ff walk_signs (fun _ => true) (fun x => match x with | .str y => .bl (y.cps.toList.all fun c => decide (c ∈ S.cps.toList)) | _ => .non) hD (fun _ _ => trivial) (by rw [signs_len]; exact Nat.lt_of_le_of_lt hz (by decide)) (fun x => rfl) (fun x H' C _ _ h => h _ (Same.refl _)) ?_ ?_⟩
      · intro x H' C hx _ _ hC
        obtain ⟨c, _, rfl⟩ := mem_signs hx
        refine ⟨_, rfl, _, rfl, c, S, rfl, rfl, ?_⟩
        have := hC H' (Same.refl _)
        simpa using this
      · intro H' sm hl
        refine ⟨D, z.cps.toList.map fun c => decide (c ∈ S.cps.toList), rfl, SqL.of ?_, ?_⟩
        · rw [hl, pv_filter_true]
          simp [signs]
        · have e : rowD S (.str z) = (z.cps.toList.map fun c => decide (c ∈ S.cps.toList)).all id := by
            rw [List.all_map]
            rfl
          rw [← e]
          exact k H' sm
    | _ => exact iteF (k H (Same.refl H))
end
end My
end
section
set_option Elab.async false
set_option linter.all false
set_option maxRecDepth 100000
set_option maxHeartbeats 4000000
namespace My
open PySem PySem.Spec PyProof.Rows L2
abbrev s_isTab : Stmt := topS 7
theorem kit_dict {K : PySem.W.Frag} (d : PyData) : PySem.W.kitOne K (.type (tyName d)) (.type "dict") = some (match d with | .dict _ => true | _ => false) := by
  cases d
  · exact kit_ty (show kitB "NoneType" "dict" = some false by decide +kernel)
  · exact kit_ty (show kitB "bool" "dict" = some false by decide +kernel)
  · exact kit_ty (show kitB "int" "dict" = some false by decide +kernel)
  · exact kit_ty (show kitB "str" "dict" = some false by decide +kernel)
  · exact kit_ty (show kitB "list" "dict" = some false by decide +kernel)
  · exact kit_ty (show kitB "tuple" "dict" = some false by decide +kernel)
  · exact kit_ty (show kitB "dict" "dict" = some true by decide +kernel)
def sp_isTab (K : PySem.W.Frag) : Sp := fun vs H Q _ => ∃ (a b : Addr) (cs : List (Nat × Int)) (l : List Nat) (hi : Option Int), vs = [.ref a, .ref b, upTo hi] ∧ H a = some (.dK (toC cs)) ∧ SqL K H b (l.map sg) ∧ a ≠ b ∧ cs.length ≤ 100000 ∧ (cs.map (·.1)).Nodup ∧
  ∀ H', Same H H' → Q (.bl (cs.all fun e => decide (e.1 ∈ l) && numD 0 hi (.int e.2))) H'
section
variable {P : Program} {w : World} {K : PySem.W.Frag} {mg : Str → Option Value} {base : Heap}
abbrev NTa : List Str := ["value", "names", "greatest", "key"]
theorem sc_isTab : FnScope NTa ["value", "names", "greatest"] (defScope s_isTab) := ⟨rfl, rfl, rfl, by decide +kernel, rfl, by decide +kernel, by decide +kernel⟩
theorem ok_isTab {f fN : Addr} {fd fdN : FuncData} {dvs : List V} (F : FunD K "is_table" "is_table" (defArgs s_isTab) (defBody s_isTab) (defScope s_isTab) dvs [] f fd) (T : TB mg) (td : mg "dict" = none) (D : Def K mg "is_number" fN fdN ["value", "least", "greatest"]) (G : FnOk P w K mg base CX0 2 fN fdN ["value", "least", "greatest"] (sp_isNum K)) :
    FnOk P w K mg base CX0 3 f fd ["value", "names", "greatest"] (sp_isTab K) := by
  refine F.ok sc_isTab (fun vs H Q E h => ?_) (fun cdv A outer s H vs Q E hr h => ?_)
  · obtain ⟨a, b, cs, l, hi, rfl, _⟩ := h
    rfl
  · obtain ⟨a, b, cs, l, hi, rfl, ha, hb, hab, hl, nd, k⟩ := h
    have hu := hu_of hr
    refine ⟨_, PSs.nox (pss_cons (ps_if (pt_not (pt_val (pe_callB call_isi (by rfl) T.isi (by decide +kernel) (pa_cons (pv 0) (pa_cons (pe_bltn (v := .ty "dict") (by rfl) td (by decide +kernel) rfl) pa_nil))))) (pss_one (ps_ret pe_bl)) pss_nil)
      (pss_one (ps_ret (pe_callB (cr_all rfl) (by rfl) T.all (by decide +kernel) (pa_cons (by exact (pe_lock (pe_lc (own := [("key", 3)]) (g := gName 3) (tt := tYes) rfl sc_isTab.nd (pi_keys (pv 0)) (blkOk_by (own := [("key", 3)]) (N := NTa) (sc := defScope s_isTab) (by decide +kernel))
        (fun _ _ _ _ _ => pg_name (i := 3) sc_isTab.nd rfl (Or.inl rfl)) (fun _ _ _ _ _ => pts_nil)
        (fun _ _ _ _ _ => pe_and (pe_callB (id := "isinstance") (isiN (K := K) (by rfl)) (by rfl) T.isi (by decide +kernel) (pa_cons (pv 3) (pa_cons (pe_bltn (v := .ty "str") (by rfl) T.str (by decide +kernel) rfl) pa_nil)))
          (pe_and (pe_cmpR (inSeqN (K := K) (by rfl)) (pv 3) (pv 1) (by rfl))
          (pe_one (pe_call (E := E0) G hr rfl D.mgf D.kp D.bd .nil pass0 (pa_cons (pe_dget hu (pv 0) (pv 3) (fun _ _ => rfl)) (pa_cons pe_int (pa_cons (pv 2) pa_nil))))))))) ) pa_nil))))), ?_⟩
    refine ⟨_, rfl, _, _, _, _, _, rfl, .ty "dict", .base (.dK ha), kit_dict (.dict []), _, rfl, iteF ?_⟩
    refine ⟨a, _, ha, trivial, fun od => ?_⟩
    have eb : (upd H a (.frz od (.dK (toC cs)))) b = H b := lock_els (fun z => hab z.symm)
    have hb1 : SqL K (upd H a (.frz od (.dK (toC cs)))) b (l.map sg) := by
      rcases hb with (h | ⟨o, h⟩) | h
      · exact .inl (.inl (eb.trans h))
      · exact .inl (.inr ⟨o, eb.trans h⟩)
      · exact .inr h
    have lk : (upd H a (.frz od (.dK (toC cs)))) a = some (.frz od (.dK (toC cs))) := locked
    have bk : ∀ H', Same (upd H a (.frz od (.dK (toC cs)))) H' → Same H (upd H' a (.dK (toC cs))) := fun H' s => unlock ha s
    generalize upd H a (HO.frz od (.dK (toC cs))) = H1 at lk hb1 bk ⊢
    have hz : cs.length = ((toC cs).map fun e => kV e.1).length := by simp [toC]
    refine ⟨_, rfl, a, od, rfl, .inl ⟨_, lk, fun D hD => lc_pair walk_ks cs hz (fun _ => true) (fun e y _ => y = .bl (decide (e.1 ∈ l) && numD 0 hi (.int e.2))) (fun _ _ _ _ _ _ h => h) hD (fun H' s => s _ _ lk) (by rw [← hz]; exact Nat.lt_of_le_of_lt hl (by decide)) (fun x => rfl) (fun _ _ _ H' C _ _ _ h => h H' (Same.refl _)) ?_ ?_⟩⟩
    · intro j x e H' C hx he _ s hC
      have ek : x = sg e.1 := by
        rw [toC_ks, List.map_map, List.getElem?_map, he] at hx
        exact (Option.some.inj hx).symm
      subst ek
      have hb2 := s.seq hb1
      have lk2 := s _ _ lk
      have en : cntOf cs e.1 = some e.2 := by
        have key : ∀ (cs : List (Nat × Int)) (j : Nat), (cs.map (·.1)).Nodup → cs[j]? = some e → cntOf cs e.1 = some e.2 := by
          intro cs
          induction cs with
          | nil => intro j _ h; simp at h
          | cons a cs ih =>
            intro j nd h
            rw [List.map_cons, List.nodup_cons] at nd
            cases j with
            | zero =>
              have h : a = e := by simpa using h
              subst h
              simp [cntOf]
            | succ j =>
              have h : cs[j]? = some e := by simpa using h
              have ne : a.1 ≠ e.1 := fun z => nd.1 (by rw [z]; exact List.mem_map.mpr ⟨e, List.mem_of_getElem? h, rfl⟩)
              have e1 : cntOf (a :: cs) e.1 = cntOf cs e.1 := by simp [cntOf, ne]
              rw [e1, ih j nd.2 h]
        exact key cs j nd he
      have dg : DGet H' a (sg e.1) (some (.int e.2)) := by
        have := dget_frz e.1 lk2
        rw [en] at this
        exact this
      have mem : inV (sg e.1) (l.map sg) = decide (e.1 ∈ l) := inV_sg e.1 l
      refine ⟨_, rfl, _, _, _, _, _, rfl, .ty "str", .base (.str _), kit_str (.str ⟨#[e.1]⟩), _, rfl, iteT ?_⟩
      refine ⟨_, rfl, _, rfl, b, _, rfl, .inl hb2, rfl, flat_sg l, _, rfl, ?_⟩
      rw [mem]
      cases hm : decide (e.1 ∈ l) with
      | false => exact iteF (hC H' _ (Same.refl _) (by rw [hm]; rfl))
      | true => exact iteT ⟨_, rfl, _, rfl, a, _, rfl, dg, _, rfl, .int e.2, .int e.2, 0, 0, hi, rfl, .int _ _, hC H' _ (Same.refl _) (by rw [hm, Bool.true_and])⟩
    · intro H' ys s hD' hP
      rw [pv_filter_true] at hP
      have ey := paired_eq hP
      have s2 := bk H' s
      refine ⟨s _ _ lk, D, cs.map fun e => decide (e.1 ∈ l) && numD 0 hi (.int e.2), rfl, SqL.of ?_, ?_⟩
      · have ne : D ≠ a := fun z => by rw [z, lk] at hD; cases hD
        rw [upd_ne ne, hD', ey, List.map_map]
        rfl
      · have e : (cs.map fun e => decide (e.1 ∈ l) && numD 0 hi (.int e.2)).all id = cs.all fun e => decide (e.1 ∈ l) && numD 0 hi (.int e.2) := by
          rw [List.all_map]
          rfl
        rw [e]
        exact k _ s2
end
end My
end
section
set_option Elab.async false
set_option linter.all false
set_option maxRecDepth 100000
set_option maxHeartbeats 4000000
namespace My
open PySem PySem.Spec PyProof.Rows L2
abbrev w_cls : Stmt := topS 44
abbrev w_init : Stmt := inCls w_cls 0
/-- what wants keep -/
def wantsFs (fa d : Addr) : List (Str × V) := putF "_counts" (.ref d) (putF "_font" (.ref fa) [])
theorem wfs_font (fa d : Addr) : List.lookup ("_font" : Str) (wantsFs fa d) = some (V.ref fa) := rfl
theorem wfs_counts (fa d : Addr) : List.lookup ("_counts" : Str) (wantsFs fa d) = some (V.ref d) := rfl
/-- wants at a -/
structure WantsAt (H : Hp) (W C a : Addr) (S : Str) (ps : List (Nat × Nat)) (f : Nat → Int) : Prop where
  at_ : ∃ dx fa d, H a = some (.ins W dx (wantsFs fa d)) ∧ FontAt H C fa S ps ∧ H d = some (.dK (toC (cts S.cps.toList f)))
theorem WantsAt.same {H H1 : Hp} {W C a : Addr} {S : Str} {ps : List (Nat × Nat)} {f : Nat → Int} (s : Same H H1) (h : WantsAt H W C a S ps f) : WantsAt H1 W C a S ps f := by
  obtain ⟨dx, fa, d, h1, h2, h3⟩ := h.at_
  exact ⟨dx, fa, d, s _ _ h1, h2.same s, s _ _ h3⟩
/-- what a class of instances tells of its own store -/
structure WCls (K : PySem.W.Frag) (W : Addr) : Prop where
  cls : Cls K W
  nF : NoAttr K W "_font"
  nC : NoAttr K W "_counts"
/-- counts that may be wanted -/
structure CntOk (S : Str) (cs : List (Nat × Int)) : Prop where
  nd : (cs.map (·.1)).Nodup
  inS : ∀ e ∈ cs, e.1 ∈ S.cps.toList
  pos : ∀ e ∈ cs, 0 ≤ e.2
  len : cs.length ≤ 100000
def sp_winit (W C : Addr) : Sp := fun vs H Q _ => ∃ (a dx fa d : Addr) (S : Str) (ps : List (Nat × Nat)) (cs : List (Nat × Int)), vs = [.ref a, .ref fa, .ref d] ∧ H a = some (.ins W dx []) ∧ FontAt H C fa S ps ∧ S.length ≤ 4000 ∧ S.cps.toList.Nodup ∧ H d = some (.dK (toC cs)) ∧ CntOk S cs ∧
  ∀ H', But a H H' → WantsAt H' W C a S ps (fun c => (cntOf cs c).getD 0) → Q .non H'
section
variable {P : Program} {w : World} {K : PySem.W.Frag} {mg : Str → Option Value} {base : Heap}
abbrev NWi : List Str := ["self", "font", "counts", "sign"]
theorem sc_winit : FnScope NWi ["self", "font", "counts"] (defScope w_init) := ⟨rfl, rfl, rfl, by decide +kernel, rfl, by decide +kernel, by decide +kernel⟩
theorem ok_winit {f W C fT : Addr} {fd fdT : FuncData} (F : Fun K "__init__" "Wants.__init__" w_init f fd) (T : TB mg) (wc : WCls K W) (sg_ : SgnC P w K mg base C)
    (mT : mg "is_table" = some (.ref fT)) (kT : PySem.W.keepIn K (.ref fT) = true) (bT : Binds K fdT ["value", "names", "greatest"] [.none]) (GT : FnOk P w K mg base CX0 3 fT fdT ["value", "names", "greatest"] (sp_isTab K)) :
    FnOk P w K mg base CX0 4 f fd ["self", "font", "counts"] (sp_winit W C) := by
  obtain ⟨p1, g1, fd1, hp1, G1, b1⟩ := sg_.ex
  refine F.ok sc_winit (fun vs H Q E h => ?_) (fun cdv A outer s H vs Q E hr h => ?_)
  · obtain ⟨a, dx, fa, d, S, ps, cs, rfl, _⟩ := h
    rfl
  · obtain ⟨a, dx, fa, d, S, ps, cs, rfl, ha, hF, hS, hnd, hd, hc, k⟩ := h
    obtain ⟨fdx, r, ys, h1, h2, h3⟩ := hF.at_
    have hu := hu_of hr
    refine ⟨_, PSs.nox (pss_cons (ps_if (pt_not (pt_val (pe_call GT hr rfl mT kT bT (show Vals [V.non] [Value.none] from .cons rfl .nil) pass0 (pa_cons (pv 2) (pa_cons (pe_callTy (call_listAny hr.hd) (by rfl) T.list (by decide +kernel) (pa_cons (pe_prop (E := E0) (pv 1) sg_.cls hp1 G1 hr b1 .nil pass0 rfl) pa_nil)) pa_nil))))) (pss_one ps_never) pss_nil)
      (pss_cons (ps_fld (pv 0) (pv 1) rfl)
      (pss_one (ps_fld (pv 0) (by exact (pe_dc (own := [("sign", 3)]) (g := gName 3) (tt := tYes) rfl sc_winit.nd (pi_str (pe_prop (E := E0) (pv 1) sg_.cls hp1 G1 hr b1 .nil pass0 rfl)) (blkOk_by (own := [("sign", 3)]) (N := NWi) (sc := defScope w_init) (by decide +kernel))
        (fun _ _ _ _ _ => pg_name (i := 3) sc_winit.nd rfl (Or.inl rfl)) (fun _ _ _ _ _ => pts_nil) (fun _ _ _ _ _ => pv 3) (fun _ _ _ _ _ => pe_dget2 hu (pv 2) (pv 3) pe_int (by first | exact ⟨rfl, rfl, rfl, rfl⟩ | exact ⟨rfl, rfl, rfl, rfl, rfl⟩)))) rfl)))), ?_⟩
    have lS : S.length ≤ sizeLine := Nat.le_trans hS (by decide)
    have gS : ∀ (H' : Hp) (dx r : Addr), H' fa = some (.ins C dx (fontFs S r)) → ∀ (Q : VK), Q (.str S) H' → getSp C "_signs" [.ref fa] H' Q E0 := fun H' dx r e Q q => ⟨fa, dx, _, _, rfl, e, fs_signs S r, q⟩
    refine ⟨_, rfl, _, rfl, fa, fdx, _, rfl, h1, gS H fdx r h1 _ ⟨_, _, rfl, .str lS, fun l H1 n1 => ?_⟩⟩
    have s1 := n1.same
    have ne : d ≠ l := ne_of_none hd n1.free
    refine ⟨d, l, cs, S.cps.toList, none, rfl, s1 _ _ hd, SqL.of n1.here, ne, hc.len, hc.nd, fun H2 s2 => ⟨_, rfl, ?_⟩⟩
    have all : (cs.all fun e => decide (e.1 ∈ S.cps.toList) && numD 0 none (.int e.2)) = true := by
      rw [List.all_eq_true]
      intro e he
      show (decide (e.1 ∈ S.cps.toList) && (decide (0 ≤ e.2) && true)) = true
      rw [decide_eq_true (hc.inS e he), decide_eq_true (hc.pos e he)]
      rfl
    rw [all]
    refine iteF ?_
    have s12 : Same H H2 := s1.trans s2
    have ha2 := s12 _ _ ha
    refine ⟨_, rfl, _, rfl, a, W, dx, [], rfl, ha2, wc.cls, wc.nF, by decide, ?_⟩
    have w3 : Wr H2 a (.ins W dx (putF "_font" (.ref fa) [])) (upd H2 a (.ins W dx (putF "_font" (.ref fa) []))) := .mk'
    generalize upd H2 a (HO.ins W dx (putF "_font" (V.ref fa) [])) = H3 at w3 ⊢
    have fneA : fa ≠ a := fun z => by
      rw [z, ha] at h1
      have := Option.some.inj h1
      injection this with _ _ e
      cases e
    have el : ∀ {q : Addr} {o : HO}, H q = some o → q ≠ a → H3 q = some o := fun {q o} e ne => (w3.els q ne).trans (s12 _ _ e)
    have h1' := el h1 fneA
    have h2' : H3 r = some (.tup ys) := el h2 (ne_of h2 ha (by intro z; cases z))
    have d' : H3 d = some (.dK (toC cs)) := el hd (ne_of hd ha (by intro z; cases z))
    have F3 : FontAt H3 C fa S ps := ⟨fdx, r, ys, h1', h2', Paired.map (fun e y hy => by
      obtain ⟨q, e1, e2⟩ := hy
      exact ⟨q, e1, el e2 (ne_of e2 ha (by intro z; cases z))⟩) h3⟩
    have hz : S.cps.toList.length = (signs S).length := by rw [signs_len]; exact Array.length_toList
    refine ⟨_, rfl, fa, fdx, _, rfl, h1', gS H3 fdx r h1' _ ⟨S, rfl, fun D hD => ?_⟩⟩
    refine dc_map walk_signs S.cps.toList hz (fun _ => true) (fun c => Sum.inr ⟨#[c]⟩) (fun c => .int ((cntOf cs c).getD 0)) (keys_nodup hnd) hD (fun _ _ => trivial) (by rw [signs_len]; exact Nat.lt_of_le_of_lt hS (by decide)) (fun x => rfl) (fun _ _ _ H' C _ _ _ h => h H' (Same.refl _)) ?_ ?_ ?_
    · intro j x c H' C hx hc _ _ hC
      obtain rfl : x = sg c := by
        unfold signs at hx
        rw [List.getElem?_map, hc] at hx
        exact (Option.some.inj hx).symm
      exact ⟨_, rfl, hC H' (Same.refl _)⟩
    · intro j x c H' C hx hc _ s4 hC
      obtain rfl : x = sg c := by
        unfold signs at hx
        rw [List.getElem?_map, hc] at hx
        exact (Option.some.inj hx).symm
      refine ⟨_, rfl, d, rfl, .inl ⟨_, .inl (s4 _ _ d')⟩, _, rfl, _, dget_toC c (s4 _ _ d'), ?_⟩
      have e : ((cntOf cs c).map V.int).getD (.int 0) = .int ((cntOf cs c).getD 0) := by cases cntOf cs c <;> rfl
      rw [e]
      exact hC H' (Same.refl _)
    · intro H4 s4 hD4
      have hA4 := s4 _ _ w3.here
      refine ⟨_, rfl, a, W, dx, _, rfl, hA4, wc.cls, wc.nC, (show 1 < 1000 by decide), ?_⟩
      have w5 : Wr H4 a (.ins W dx (putF "_counts" (.ref D) (putF "_font" (.ref fa) []))) (upd H4 a (.ins W dx (putF "_counts" (.ref D) (putF "_font" (.ref fa) [])))) := .mk'
      generalize upd H4 a (HO.ins W dx (putF "_counts" (V.ref D) (putF "_font" (V.ref fa) []))) = H5 at w5 ⊢
      have B : But a H H5 := ((But.of s12).trans w3.but).trans ((But.of s4).trans w5.but)
      have F5 : FontAt H5 C fa S ps := by
        obtain ⟨fx, fr, fys, g1, g2, g3⟩ := (F3.same s4).at_
        have eh : ∀ {q : Addr} {o : HO}, H4 q = some o → q ≠ a → H5 q = some o := fun {q o} e ne => (w5.els q ne).trans e
        exact ⟨fx, fr, fys, eh g1 fneA, eh g2 (ne_of g2 hA4 (by intro z; cases z)), Paired.map (fun e y hy => by
          obtain ⟨q, e1, e2⟩ := hy
          exact ⟨q, e1, eh e2 (ne_of e2 hA4 (by intro z; cases z))⟩) g3⟩
      have Da : D ≠ a := fun z => by rw [z, w3.here] at hD; cases hD
      refine k H5 B ⟨dx, fa, D, w5.here, F5, (w5.els D Da).trans ?_⟩
      rw [hD4, pv_filter_true]
      simp [toC, cts]
end
end My
end
section
set_option Elab.async false
set_option linter.all false
set_option maxRecDepth 100000
set_option maxHeartbeats 4000000
/-! B14: comprehensions whose elements draw. -/
namespace My
open PySem PySem.Spec PyProof.Rows L2
theorem sgn_at {S : Str} {j c : Nat} {x : V} (hx : (signs S)[j]? = some x) (hc : S.cps.toList[j]? = some c) : x = sg c := by
  unfold signs at hx
  rw [List.getElem?_map, hc] at hx
  exact (Option.some.inj hx).symm
theorem signs_z (S : Str) : S.cps.toList.length = (signs S).length := by rw [signs_len]; exact Array.length_toList
theorem all_sg {A : List Nat} : ∀ {ys : List V}, (∀ y ∈ ys, ∃ x, x ∈ A ∧ y = sg x) → ∃ l : List Nat, ys = l.map sg ∧ ∀ x ∈ l, x ∈ A
  | [], _ => ⟨[], rfl, fun _ h => by cases h⟩
  | y :: ys, h => by
    obtain ⟨l, e, m⟩ := all_sg (ys := ys) fun z hz => h z (List.mem_cons_of_mem _ hz)
    obtain ⟨x, hx, rfl⟩ := h y List.mem_cons_self
    exact ⟨x :: l, by rw [e]; rfl, fun z hz => (List.mem_cons.mp hz).elim (fun q => q ▸ hx) (m z)⟩
theorem toC_pen {c : Addr} {u l : Int} {cs : List (Nat × Int)} : penK c u l ≠ toC cs := fun h => by
  have h2 := congrArg (fun l : List (Key × V) => (l[0]?).map (·.2)) h
  unfold toC at h2
  rw [List.getElem?_map] at h2
  cases e : cs[0]? with
  | none => rw [e] at h2; cases h2
  | some x =>
    rw [e] at h2
    have h2 : some (V.ref c) = some (V.int x.2) := h2
    cases Option.some.inj h2
theorem PenAt.neC2 {H : Hp} {p c d : Addr} {n : Nat} {cs : List (Nat × Int)} (hP : PenAt H p c n) (h : H d = some (.dK (toC cs))) : d ≠ p := fun e => by
  obtain ⟨_, u, z, hp, _⟩ := hP
  rw [e, hp] at h
  have := Option.some.inj h
  injection this with this
  exact toC_pen this
/-- a comprehension whose elements draw, m draws each; what is known of an element stays where neither the pen nor the new list is changed -/
theorem lc_drawn {J : It} {n : Nat} {G : Hp → Prop} {Z : Nat → V → Prop} (w : Walk J n G (fun i H x H' => H' = H ∧ Z i x)) {p c D : Addr} {n0 m : Nat} {i : Nat} {te : TE} {vs : List Nat} {σ : L2.St} {H1 : Hp} {Qd : Hp → Prop} (R : Nat → V → Hp → Prop)
    (mono : ∀ j y H H', (∀ b o, b ≠ p → b ≠ D → H b = some o → H' b = some o) → R j y H → R j y H') (hP : PenAt H1 p c n0) (free : H1 D = none) (small : n < sizeLine) (hw : ∀ x, wipe ((wipe σ vs).set i (some x)) vs = wipe σ vs) (hG : ∀ H', But p H1 H' → G H')
    (he : ∀ (j : Nat) (x : V) (H' : Hp) (C : VK), j < n → But p H1 H' → PenAt H' p c (n0 + m * j) → H' D ≠ none → Z j x → (∀ H2 y, DrewP H' p c (n0 + m * (j + 1)) H2 → R j y H2 → C y H2) → te ((wipe σ vs).set i (some x)) H' C)
    (hd : ∀ H' ys, But p H1 H' → PenAt H' p c (n0 + m * n) → H' D = some (.lst ys) → ys.length = n → (∀ j y, ys[j]? = some y → R j y H') → Qd H') :
    ∃ W : Nat → Nat → Hp → Prop, (∃ m, W 0 m (upd H1 D (.lst []))) ∧ ∀ j m H, W j m H →
      (J.stop j H ∧ Qd H) ∨ (J.go j H ∧ ∃ Nx : Hp → Prop, (∀ H', Nx H' → ∃ m', m' < m ∧ W (j + 1) m' H') ∧ ∀ x H', J.yld j H x H' → gName i x (wipe σ vs) H' fun σ2 H2 => wipe σ2 vs = wipe σ vs ∧ tYes σ2 H2 fun b H3 =>
        if b = true then te σ2 H3 fun y H4 => ∃ acc, H4 D = some (.lst acc) ∧ acc.length < sizeLine ∧ Nx (upd H4 D (.lst (acc ++ [y]))) else Nx H3) := by
  have pD : p ≠ D := hP.ne free
  have cD : c ≠ D := hP.neC free
  refine lc_it w (fun j H' => But p H1 H' ∧ PenAt H' p c (n0 + m * j) ∧ ∃ ys, H' D = some (.lst ys) ∧ ys.length = j ∧ ∀ k y, ys[k]? = some y → R k y H')
    ⟨But.wr (But.refl H1) free .mk', (hP.mono (by omega)).els .mk' pD cD, [], upd_same, rfl, fun k y h => by simp at h⟩ (fun j H' _ q => hG H' q.1) ?_ ?_
  · rintro j x H2 H3 hj ⟨hB, hPj, ys, hD, hl, hR⟩ ⟨rfl, hz⟩
    refine ⟨hw _, ?_⟩
    unfold tYes
    refine iteT (he j x _ _ hj hB hPj (by rw [hD]; exact fun z => by cases z) hz fun H4 y d4 hy => ?_)
    have hD4 : H4 D = some (.lst ys) := d4.but _ _ pD.symm hD
    have w5 : Wr H4 D (.lst (ys ++ [y])) (upd H4 D (.lst (ys ++ [y]))) := .mk'
    have keep : ∀ b o, b ≠ p → b ≠ D → H3 b = some o → (upd H4 D (.lst (ys ++ [y]))) b = some o := fun b o h1 h2 e => (w5.els b h2).trans (d4.but b o h1 e)
    have keep4 : ∀ b o, b ≠ p → b ≠ D → H4 b = some o → (upd H4 D (.lst (ys ++ [y]))) b = some o := fun b o h1 h2 e => (w5.els b h2).trans e
    refine ⟨ys, hD4, by omega, But.wr (hB.trans d4.but) free w5, d4.pen.els w5 pD cD, ys ++ [y], upd_same, by simp [hl], fun k z hk => ?_⟩
    by_cases hkj : k < ys.length
    · rw [List.getElem?_append_left hkj] at hk
      exact mono _ _ _ _ keep (hR k z hk)
    · rw [List.getElem?_append_right (by omega)] at hk
      have e0 : k - ys.length = 0 := by
        cases q : k - ys.length with
        | zero => rfl
        | succ q' => rw [q] at hk; simp at hk
      rw [e0] at hk
      have hk : y = z := by simpa using hk
      subst hk
      have : k = j := by omega
      subst this
      exact mono _ _ _ _ keep4 hy
  · rintro H' ⟨hB, hPn, ys, hD, hl, hR⟩
    exact hd H' ys hB hPn hD hl hR
end My
end
section
set_option Elab.async false
set_option linter.all false
set_option maxRecDepth 100000
set_option maxHeartbeats 4000000
namespace My
open PySem PySem.Spec PyProof.Rows L2
abbrev w_of : Stmt := inCls w_cls 1
abbrev w_none : Stmt := inCls w_cls 2
/-- how often a text has a sign -/
def countZ (z : Str) (c : Nat) : Int := (z.cps.toList.count c : Nat)
theorem count_is' (z : Str) (c : Nat) : Txt.count z ⟨#[c]⟩ = countZ z c := by
  rw [count_cnt]
  unfold countZ
  generalize z.cps.toList = l
  induction l with
  | nil => rfl
  | cons a l ih =>
    rw [cnt_cons, ih, List.count_cons]
    by_cases h : a = c
    · simp [h]; omega
    · simp [h]
theorem cts_congr {l : List Nat} {f g : Nat → Int} (h : ∀ c ∈ l, f c = g c) : cts l f = cts l g := List.map_congr_left fun c hc => by rw [h c hc]
theorem WantsAt.congr {H : Hp} {W C a : Addr} {S : Str} {ps : List (Nat × Nat)} {f g : Nat → Int} (h : WantsAt H W C a S ps f) (e : ∀ c ∈ S.cps.toList, f c = g c) : WantsAt H W C a S ps g := by
  obtain ⟨dx, fa, d, h1, h2, h3⟩ := h.at_
  exact ⟨dx, fa, d, h1, h2, by rw [h3, cts_congr e]⟩
theorem cnt_ok {S : Str} (nd : S.cps.toList.Nodup) (hS : S.length ≤ 4000) {f : Nat → Int} (pos : ∀ c ∈ S.cps.toList, 0 ≤ f c) : CntOk S (cts S.cps.toList f) := by
  have e : (cts S.cps.toList f).map (·.1) = S.cps.toList := by
    unfold cts
    rw [List.map_map]
    exact List.map_id' _
  refine ⟨by rw [e]; exact nd, fun x hx => ?_, fun x hx => ?_, ?_⟩
  · obtain ⟨c, hc, rfl⟩ := List.mem_map.mp hx
    exact hc
  · obtain ⟨c, hc, rfl⟩ := List.mem_map.mp hx
    exact pos c hc
  · unfold cts
    rw [List.length_map]
    have : S.cps.toList.length = S.length := Array.length_toList
    omega
theorem cts_get {S : Str} {f : Nat → Int} {c : Nat} (h : c ∈ S.cps.toList) : (cntOf (cts S.cps.toList f) c).getD 0 = f c := by
  rw [cts_at h]
  rfl
theorem WantsAt.pen {H H1 : Hp} {W C a p c : Addr} {S : Str} {ps : List (Nat × Nat)} {f : Nat → Int} {n : Nat} (hP : PenAt H p c n) (s : But p H H1) (h : WantsAt H W C a S ps f) : WantsAt H1 W C a S ps f := by
  obtain ⟨dx, fa, d, h1, h2, h3⟩ := h.at_
  obtain ⟨cs, u, z, hp, _⟩ := id hP
  exact ⟨dx, fa, d, s _ _ (ne_of h1 hp (by intro z; cases z)) h1, h2.pen hP s, s _ _ (hP.neC2 h3) h3⟩
theorem WantsAt.ext {H H1 : Hp} {W C a : Addr} {S : Str} {ps : List (Nat × Nat)} {f : Nat → Int} (s : LamX.ExtN H H1) (h : WantsAt H W C a S ps f) : WantsAt H1 W C a S ps f := by
  obtain ⟨dx, fa, d, h1, h2, h3⟩ := h.at_
  exact ⟨dx, fa, d, s _ _ h1 (fun _ z => by cases z), h2.ext s, s _ _ h3 (fun _ z => by cases z)⟩
/-- Wants(font, counts), made within a def -/
def sp_wof (K : PySem.W.Frag) (W C IR : Addr) : Sp := fun vs H Q E => ∃ (fa p : Addr) (S : Str) (ps : List (Nat × Nat)) (v : V) (d : PyData), vs = [.ref W, .ref fa, v] ∧ FontAt H C fa S ps ∧ S.length ≤ 4000 ∧ S.cps.toList.Nodup ∧ Rp K p H false v d ∧ textFits 4000 d ∧
  (rowD S d = false → Err E IR v H) ∧ (∀ z, d = .str z → rowD S d = true → ∀ H' a, Same H H' → H a = none → WantsAt H' W C a S ps (countZ z) → Q (.ref a) H')
def sp_wnone (W C : Addr) : Sp := fun vs H Q _ => ∃ (fa : Addr) (S : Str) (ps : List (Nat × Nat)), vs = [.ref W, .ref fa] ∧ FontAt H C fa S ps ∧ S.length ≤ 4000 ∧ S.cps.toList.Nodup ∧ ∀ H' a, Same H H' → H a = none → WantsAt H' W C a S ps (fun _ => 0) → Q (.ref a) H'
section
variable {P : Program} {w : World} {K : PySem.W.Frag} {mg : Str → Option Value} {base : Heap}
abbrev NWo : List Str := ["cls", "font", "row", "sign"]
theorem sc_wof : FnScope NWo ["cls", "font", "row"] (defScope w_of) := ⟨rfl, rfl, rfl, by decide +kernel, rfl, by decide +kernel, by decide +kernel⟩
theorem ok_wof {f W C fI fR IR fIR : Addr} {fd fdI fdR : FuncData} (F : Fun K "of" "Wants.of" w_of f fd) (sg_ : SgnC P w K mg base C) (D : Def K mg "is_row" fR fdR ["signs", "value"]) (G : FnOk P w K mg base CX0 1 fR fdR ["signs", "value"] (sp_isRow K))
    (TE : VErr K mg "InvalidRow" "InvalidRow.__init__" IR fIR) (M : Mk K W fI) (GI : FnOk P w K mg base CX0 4 fI fdI ["self", "font", "counts"] (sp_winit W C)) (bI : Binds K fdI ["self", "font", "counts"] []) :
    FnOk P w K mg base (L2.CX P w) 6 f fd ["cls", "font", "row"] (sp_wof K W C IR) := by
  obtain ⟨p1, g1, fd1, hp1, G1, b1⟩ := sg_.ex
  refine F.okX sc_wof (fun vs H Q E h => ?_) (fun cdv A outer s H vs Q E hr h => ?_)
  · obtain ⟨fa, p, S, ps, v, d, rfl, _⟩ := h
    rfl
  · obtain ⟨fa, p, S, ps, v, d, rfl, hF, hS, hnd, hd, hz, kE, kQ⟩ := h
    obtain ⟨dx, r, ys, h1, h2, h3⟩ := hF.at_
    have r1 : Room 1 _ := hr.mono (by decide)
    have r3 : Room 3 _ := hr.mono (by decide)
    refine ⟨_, pss_cons (ps_if (pt_not (pt_val (pe_call (E := E0) G r1 rfl D.mgf D.kp D.bd .nil pass0 (pa_cons (pe_prop (E := E0) (pv 1) sg_.cls hp1 G1 r3 b1 .nil pass0 rfl) (pa_cons (pv 2) pa_nil))))) (pss_one (ps_raiseErr rfl TE fld_value hr (show 1 ≤ 5 by decide) (takes_of rfl rfl rfl rfl) (by exact (pa_cons (pv 2) pa_nil)) rfl)) pss_nil)
      (PSs.nox (pss_one (ps_ret (pe_makeL (i := 0) (E := E0) M GI hr rfl (by first | exact Or.inl rfl | exact Or.inr (Or.inl rfl)) bI .nil pass0 (pa_cons (pv 1) (pa_cons (by exact (pe_dc (own := [("sign", 3)]) (g := gName 3) (tt := tYes) rfl sc_wof.nd (pi_str (pe_prop (E := E0) (pv 1) sg_.cls hp1 G1 r3 b1 .nil pass0 rfl)) (blkOk_by (own := [("sign", 3)]) (N := NWo) (sc := defScope w_of) (by decide +kernel))
        (fun _ _ _ _ _ => pg_name (i := 3) sc_wof.nd rfl (Or.inl rfl)) (fun _ _ _ _ _ => pts_nil) (fun _ _ _ _ _ => pv 3) (fun _ _ _ _ _ => pe_m1 PySem.F.slot_str_count PySem.F.type_str_count mt_count (pv 2) (pv 3)))) pa_nil)))))), ?_⟩
    have gS : ∀ H', Same H H' → ∀ (Q : VK), Q (.str S) H' → getSp C "_signs" [.ref fa] H' Q E0 := fun H' s Q q => ⟨fa, dx, _, _, rfl, s _ _ h1, fs_signs S r, q⟩
    refine ⟨_, rfl, fa, dx, _, rfl, h1, gS H (Same.refl _) _ ⟨_, rfl, S, v, d, p, rfl, hd, hz, fun H1 s1 => ⟨_, rfl, ?_⟩⟩⟩
    cases hs : rowD S d with
    | false => exact iteT ⟨_, rfl, _, rfl, fun dd f => (kE hs).at s1 f⟩
    | true =>
      refine iteF ?_
      obtain ⟨z, rfl⟩ : ∃ z, d = .str z := by
        cases d with
        | str z => exact ⟨z, rfl⟩
        | _ => cases hs
      cases hd
      have fin := kQ z rfl hs
      have hz2 : S.cps.toList.length = (signs S).length := by rw [signs_len]; exact Array.length_toList
      refine ⟨rfl, _, rfl, _, rfl, fa, dx, _, rfl, s1 _ _ h1, gS H1 s1 _ ⟨S, rfl, fun D hD => ?_⟩⟩
      refine dc_map walk_signs S.cps.toList hz2 (fun _ => true) (fun c => Sum.inr ⟨#[c]⟩) (fun c => .int (countZ z c)) (keys_nodup hnd) hD (fun _ _ => trivial) (by rw [signs_len]; exact Nat.lt_of_le_of_lt hS (by decide)) (fun x => rfl) (fun _ _ _ H' C _ _ _ h => h H' (Same.refl _)) ?_ ?_ ?_
      · intro j x c H' C hx hc _ _ hC
        obtain rfl : x = sg c := by
          unfold signs at hx
          rw [List.getElem?_map, hc] at hx
          exact (Option.some.inj hx).symm
        exact ⟨_, rfl, hC H' (Same.refl _)⟩
      · intro j x c H' C hx hc _ s4 hC
        obtain rfl : x = sg c := by
          unfold signs at hx
          rw [List.getElem?_map, hc] at hx
          exact (Option.some.inj hx).symm
        refine ⟨_, rfl, ⟨_, rfl⟩, _, rfl, z, ⟨#[c]⟩, rfl, rfl, ?_⟩
        rw [count_is']
        exact hC H' (Same.refl _)
      · intro H2 s2 hD2
        have hD2' : H2 D = some (.dK (toC (cts S.cps.toList (countZ z)))) := by
          rw [hD2, pv_filter_true]
          simp [toC, cts]
        have s12 := s1.trans s2
        intro x dx2 hx hdx ne
        have up := made_up (C := W) hx hdx
        refine ⟨x, dx2, fa, D, S, ps, _, rfl, upd_same, (hF.same s12).same up, hS, hnd, up _ _ hD2', cnt_ok hnd hS (fun c _ => Int.natCast_nonneg _), fun H3 bt wa => ⟨rfl, ?_⟩⟩
        refine fin H3 x (s12.trans (made_same hx hdx bt)) (My.Same.free s12 hx) (wa.congr fun c hc => cts_get hc)
theorem sc_wnone : FnScope ["cls", "font"] ["cls", "font"] (defScope w_none) := ⟨rfl, rfl, rfl, by decide +kernel, rfl, by decide +kernel, by decide +kernel⟩
theorem ok_wnone {f W C fI : Addr} {fd fdI : FuncData} (F : Fun K "none" "Wants.none" w_none f fd) (M : Mk K W fI) (GI : FnOk P w K mg base CX0 4 fI fdI ["self", "font", "counts"] (sp_winit W C)) (bI : Binds K fdI ["self", "font", "counts"] []) :
    FnOk P w K mg base CX0 6 f fd ["cls", "font"] (sp_wnone W C) := by
  refine F.ok sc_wnone (fun vs H Q E h => ?_) (fun cdv A outer s H vs Q E hr h => ?_)
  · obtain ⟨fa, S, ps, rfl, _⟩ := h
    rfl
  · obtain ⟨fa, S, ps, rfl, hF, hS, hnd, k⟩ := h
    refine ⟨_, pss_one (ps_ret (pe_makeL (i := 0) (E := E0) M GI hr rfl (by first | exact Or.inl rfl | exact Or.inr (Or.inl rfl)) bI .nil pass0 (pa_cons (pv 1) (pa_cons pe_dnew' pa_nil)))), ?_⟩
    refine ⟨rfl, _, rfl, fun D H1 n1 => ?_⟩
    intro x dx2 hx hdx ne
    have up := made_up (C := W) hx hdx
    refine ⟨x, dx2, fa, D, S, ps, [], rfl, upd_same, (hF.same n1.same).same up, hS, hnd, up _ _ n1.here, ⟨List.nodup_nil, fun _ h => (by cases h), fun _ h => (by cases h), Nat.zero_le _⟩, fun H3 bt wa => ⟨rfl, k H3 x (n1.same.trans (made_same hx hdx bt)) (My.Same.free n1.same hx) (wa.congr fun c _ => rfl)⟩⟩
end
end My
end
section
set_option Elab.async false
set_option linter.all false
set_option maxRecDepth 100000
set_option maxHeartbeats 4000000
namespace My
open PySem PySem.Spec PyProof.Rows L2
abbrev w_counts : Stmt := inCls w_cls 4
abbrev w_total : Stmt := inCls w_cls 5
abbrev w_eq : Stmt := inCls w_cls 8
abbrev w_bool : Stmt := inCls w_cls 9
abbrev w_want : Stmt := inCls w_cls 12
/-- the counts above 0 -/
def posC (l : List Nat) (f : Nat → Int) : List (Nat × Int) := (cts l f).filter fun e => decide (0 < e.2)
def sp_wcounts (W C : Addr) : Sp := fun vs H Q _ => ∃ (a : Addr) (S : Str) (ps : List (Nat × Nat)) (f : Nat → Int), vs = [.ref a] ∧ WantsAt H W C a S ps f ∧ S.length ≤ 4000 ∧ S.cps.toList.Nodup ∧ ∀ H' D, Same H H' → H D = none → H' D = some (.dK (toC (posC S.cps.toList f))) → Q (.ref D) H'
def sp_wtotal (W C : Addr) : Sp := fun vs H Q _ => ∃ (a : Addr) (S : Str) (ps : List (Nat × Nat)) (f : Nat → Int), vs = [.ref a] ∧ WantsAt H W C a S ps f ∧ S.length ≤ 4000 ∧ S.cps.toList.Nodup ∧ ∀ H', Same H H' → Q (.int (S.cps.toList.map f).sum) H'
def sp_wbool (W C : Addr) : Sp := fun vs H Q _ => ∃ (a : Addr) (S : Str) (ps : List (Nat × Nat)) (f : Nat → Int), vs = [.ref a] ∧ WantsAt H W C a S ps f ∧ S.length ≤ 4000 ∧ S.cps.toList.Nodup ∧ ∀ H', Same H H' → Q (.bl (decide (0 < (S.cps.toList.map f).sum))) H'
def sp_weq (W C : Addr) : Sp := fun vs H Q _ => ∃ (a b : Addr) (S : Str) (ps : List (Nat × Nat)) (f g : Nat → Int), vs = [.ref a, .ref b] ∧ WantsAt H W C a S ps f ∧ WantsAt H W C b S ps g ∧ LowP ps ∧ (∀ c ∈ S.cps.toList, f c = g c) ∧ S.cps.toList.Nodup ∧ Q (.bl true) H
def sp_wwant (K : PySem.W.Frag) (W C IS : Addr) : Sp := fun vs H Q E => ∃ (a p : Addr) (S : Str) (ps : List (Nat × Nat)) (f : Nat → Int) (v : V) (d : PyData), vs = [.ref a, v] ∧ WantsAt H W C a S ps f ∧ S.length ≤ 4000 ∧ Rp K p H false v d ∧ textFits 4000 d ∧
  (setD S d = false → Err E IS v H) ∧ (∀ z, d = .str z → setD S d = true → ∀ H', Same H H' → Q (.int ((setK S z).map f).sum) H')
section
variable {P : Program} {w : World} {K : PySem.W.Frag} {mg : Str → Option Value} {base : Heap}
theorem cts_entry {l : List Nat} {f : Nat → Int} {j : Nat} {e : Nat × Int} (h : (cts l f)[j]? = some e) : e.1 ∈ l ∧ e.2 = f e.1 := by
  unfold cts at h
  rw [List.getElem?_map] at h
  cases hl : l[j]? with
  | none => rw [hl] at h; cases h
  | some c =>
    rw [hl] at h
    obtain rfl := Option.some.inj h
    exact ⟨List.mem_of_getElem? hl, rfl⟩
theorem cts_nodup {l : List Nat} {f : Nat → Int} (nd : l.Nodup) : ((cts l f).map fun e => (Sum.inr ⟨#[e.1]⟩ : Key)).Nodup := by
  unfold cts
  rw [List.map_map]
  exact keys_nodup nd
theorem sc_wcounts : FnScope ["self", "sign"] ["self"] (defScope w_counts) := ⟨rfl, rfl, rfl, by decide +kernel, rfl, by decide +kernel, by decide +kernel⟩
theorem ok_wcounts {f W C : Addr} {fd : FuncData} (F : Fun K "counts" "Wants.counts" w_counts f fd) (wc : WCls K W) : FnOk P w K mg base CX0 1 f fd ["self"] (sp_wcounts W C) := by
  refine F.ok sc_wcounts (fun vs H Q E h => ?_) (fun cdv A outer s H vs Q E hr h => ?_)
  · obtain ⟨a, S, ps, f, rfl, _⟩ := h
    rfl
  · obtain ⟨a, S, ps, f, rfl, hW, hS, nd, k⟩ := h
    obtain ⟨dx, fa, d, h1, h2, h3⟩ := hW.at_
    have hu := hu_of hr
    refine ⟨_, pss_one (ps_ret (pe_lock (pe_dc (own := [("sign", 1)]) (g := gName 1) rfl sc_wcounts.nd (pi_keys (pe_fld (pv 0) rfl)) (blkOk_by (own := [("sign", 1)]) (N := ["self", "sign"]) (sc := defScope w_counts) (by decide +kernel))
      (fun _ _ _ _ _ => pg_name (i := 1) sc_wcounts.nd rfl (Or.inl rfl)) (fun _ _ _ _ _ => pts_one (pt_cmpR op_gt (pe_dget hu (pe_fldN (K := K) (by rfl) (pv 0) rfl) (pv 1) (fun _ _ => rfl)) pe_int (nomark _))) (fun _ _ _ _ _ => pv 1) (fun _ _ _ _ _ => pe_dget hu (pe_fldN (K := K) (by rfl) (pv 0) rfl) (pv 1) (fun _ _ => rfl))))), ?_⟩
    refine ⟨d, _, h3, trivial, fun od => ?_⟩
    have ne : a ≠ d := ne_of h1 h3 (by intro z; cases z)
    have a1 : (upd H d (.frz od (.dK (toC (cts S.cps.toList f))))) a = some (.ins W dx (wantsFs fa d)) := (lock_els ne).trans h1
    have lk : (upd H d (.frz od (.dK (toC (cts S.cps.toList f))))) d = some (.frz od (.dK (toC (cts S.cps.toList f)))) := locked
    have bk : ∀ H', Same (upd H d (.frz od (.dK (toC (cts S.cps.toList f))))) H' → Same H (upd H' d (.dK (toC (cts S.cps.toList f)))) := fun H' s => unlock h3 s
    have up : ∀ x, (upd H d (.frz od (.dK (toC (cts S.cps.toList f))))) x = none → H x = none ∧ x ≠ d := fun x hx => by
      have q : x ≠ d := fun z => by rw [z, lk] at hx; cases hx
      exact ⟨(lock_els q).symm.trans hx, q⟩
    generalize upd H d (HO.frz od (.dK (toC (cts S.cps.toList f)))) = H1 at a1 lk bk up ⊢
    have hz : (cts S.cps.toList f).length = ((toC (cts S.cps.toList f)).map fun e => kV e.1).length := by simp [toC]
    have small : ((toC (cts S.cps.toList f)).map fun e => kV e.1).length < sizeLine := by
      rw [← hz]
      unfold cts
      rw [List.length_map, Array.length_toList]
      exact Nat.lt_of_le_of_lt hS (by decide)
    have get : ∀ {j : Nat} {x : V} {e : Nat × Int} {H' : Hp}, ((toC (cts S.cps.toList f)).map fun e => kV e.1)[j]? = some x → (cts S.cps.toList f)[j]? = some e → Same H1 H' → x = sg e.1 ∧ DGet H' d (sg e.1) (some (.int e.2)) := by
      intro j x e H' hx he s
      have ek : x = sg e.1 := by
        rw [toC_ks, List.map_map, List.getElem?_map, he] at hx
        exact (Option.some.inj hx).symm
      obtain ⟨e1, e2⟩ := cts_entry he
      refine ⟨ek, ?_⟩
      have := dget_frz e.1 (s _ _ lk)
      rw [cts_at e1, ← e2] at this
      exact this
    refine ⟨_, rfl, a, W, dx, _, _, rfl, a1, wc.cls, wc.nC, wfs_counts fa d, d, od, rfl, .inl ⟨_, lk, fun D hD => ?_⟩⟩
    refine dc_map walk_ks (cts S.cps.toList f) hz (fun e => decide (0 < e.2)) (fun e => Sum.inr ⟨#[e.1]⟩) (fun e => .int e.2) (cts_nodup nd) hD (fun H' s => s _ _ lk) small (fun x => rfl) ?_ ?_ ?_ ?_
    · intro j x e H' C hx he s hC
      obtain ⟨rfl, dg⟩ := get hx he s
      refine ⟨_, rfl, a, W, dx, _, _, rfl, s _ _ a1, wc.cls, wc.nC, wfs_counts fa d, _, rfl, d, _, rfl, dg, _, _, rfl, rfl, _, rfl, ?_⟩
      exact hC H' (Same.refl _)
    · intro j x e H' C hx he _ s hC
      obtain ⟨rfl, dg⟩ := get hx he s
      exact ⟨_, rfl, hC H' (Same.refl _)⟩
    · intro j x e H' C hx he _ s hC
      obtain ⟨rfl, dg⟩ := get hx he s
      exact ⟨_, rfl, a, W, dx, _, _, rfl, s _ _ a1, wc.cls, wc.nC, wfs_counts fa d, _, rfl, d, _, rfl, dg, hC H' (Same.refl _)⟩
    · intro H' s hD'
      obtain ⟨f1, nd'⟩ := up D hD
      exact ⟨s _ _ lk, k _ D (bk H' s) f1 (by rw [upd_ne nd', hD']; rfl)⟩
theorem sc_wtotal : FnScope ["self", "sign"] ["self"] (defScope w_total) := ⟨rfl, rfl, rfl, by decide +kernel, rfl, by decide +kernel, by decide +kernel⟩
theorem ok_wtotal {f W C : Addr} {fd : FuncData} (F : Fun K "total" "Wants.total" w_total f fd) (ts : mg "sum" = none) (wc : WCls K W) : FnOk P w K mg base CX0 1 f fd ["self"] (sp_wtotal W C) := by
  refine F.ok sc_wtotal (fun vs H Q E h => ?_) (fun cdv A outer s H vs Q E hr h => ?_)
  · obtain ⟨a, S, ps, f, rfl, _⟩ := h
    rfl
  · obtain ⟨a, S, ps, f, rfl, hW, hS, nd, k⟩ := h
    obtain ⟨dx, fa, d, h1, h2, h3⟩ := hW.at_
    have hu := hu_of hr
    refine ⟨_, pss_one (ps_ret (pe_callB (cr_sum rfl) (by rfl) ts (by decide +kernel) (pa_cons (by exact (pe_lock (pe_lc (own := [("sign", 1)]) (g := gName 1) (tt := tYes) rfl sc_wtotal.nd (pi_keys (pe_fld (pv 0) rfl)) (blkOk_by (own := [("sign", 1)]) (N := ["self", "sign"]) (sc := defScope w_total) (by decide +kernel))
      (fun _ _ _ _ _ => pg_name (i := 1) sc_wtotal.nd rfl (Or.inl rfl)) (fun _ _ _ _ _ => pts_nil) (fun _ _ _ _ _ => pe_dget hu (pe_fldN (K := K) (by rfl) (pv 0) rfl) (pv 1) (fun _ _ => rfl))))) pa_nil))), ?_⟩
    refine ⟨d, _, h3, trivial, fun od => ?_⟩
    have ne : a ≠ d := ne_of h1 h3 (by intro z; cases z)
    have a1 : (upd H d (.frz od (.dK (toC (cts S.cps.toList f))))) a = some (.ins W dx (wantsFs fa d)) := (lock_els ne).trans h1
    have lk : (upd H d (.frz od (.dK (toC (cts S.cps.toList f))))) d = some (.frz od (.dK (toC (cts S.cps.toList f)))) := locked
    have bk : ∀ H', Same (upd H d (.frz od (.dK (toC (cts S.cps.toList f))))) H' → Same H (upd H' d (.dK (toC (cts S.cps.toList f)))) := fun H' s => unlock h3 s
    generalize upd H d (HO.frz od (.dK (toC (cts S.cps.toList f)))) = H1 at a1 lk bk ⊢
    have hz : (cts S.cps.toList f).length = ((toC (cts S.cps.toList f)).map fun e => kV e.1).length := by simp [toC]
    have small : ((toC (cts S.cps.toList f)).map fun e => kV e.1).length < sizeLine := by
      rw [← hz]
      unfold cts
      rw [List.length_map, Array.length_toList]
      exact Nat.lt_of_le_of_lt hS (by decide)
    refine ⟨_, rfl, a, W, dx, _, _, rfl, a1, wc.cls, wc.nC, wfs_counts fa d, d, od, rfl, .inl ⟨_, lk, fun D hD => ?_⟩⟩
    refine lc_pair walk_ks (cts S.cps.toList f) hz (fun _ => true) (fun e y _ => y = .int e.2) (fun _ _ _ _ _ _ h => h) hD (fun H' s => s _ _ lk) small (fun x => rfl) (fun _ _ _ H' C _ _ _ h => h H' (Same.refl _)) ?_ ?_
    · intro j x e H' C hx he _ s hC
      have ek : x = sg e.1 := by
        rw [toC_ks, List.map_map, List.getElem?_map, he] at hx
        exact (Option.some.inj hx).symm
      subst ek
      obtain ⟨e1, e2⟩ := cts_entry he
      have dg := dget_frz e.1 (s _ _ lk)
      rw [cts_at e1, ← e2] at dg
      exact ⟨_, rfl, a, W, dx, _, _, rfl, s _ _ a1, wc.cls, wc.nC, wfs_counts fa d, _, rfl, d, _, rfl, dg, hC H' _ (Same.refl _) rfl⟩
    · intro H' ys s hD' hP
      rw [pv_filter_true] at hP
      have nd' : D ≠ d := fun z => by rw [z, lk] at hD; cases hD
      refine ⟨s _ _ lk, D, S.cps.toList.map f, rfl, SqL.of ?_, k _ (bk H' s)⟩
      rw [upd_ne nd', hD', paired_eq hP]
      unfold cts
      rw [List.map_map, List.map_map]
      rfl
theorem sc_wbool : FnScope ["self"] ["self"] (defScope w_bool) := ⟨rfl, rfl, rfl, by decide +kernel, rfl, by decide +kernel, by decide +kernel⟩
theorem ok_wbool {f W C p g : Addr} {fd fdT : FuncData} (F : Fun K "__bool__" "Wants.__bool__" w_bool f fd) (tb : mg "bool" = none) (wc : WCls K W) (hp : PropOf K W "total" p g) (G : FnOk P w K mg base CX0 1 g fdT ["self"] (sp_wtotal W C)) (hb : Binds K fdT ["self"] []) : FnOk P w K mg base CX0 3 f fd ["self"] (sp_wbool W C) := by
  refine F.ok sc_wbool (fun vs H Q E h => ?_) (fun cdv A outer s H vs Q E hr h => ?_)
  · obtain ⟨a, S, ps, f, rfl, _⟩ := h
    rfl
  · obtain ⟨a, S, ps, f, rfl, hW, hS, nd, k⟩ := h
    obtain ⟨dx, fa, d, h1, h2, h3⟩ := hW.at_
    refine ⟨_, pss_one (ps_ret (pe_callTy call_bool1 (by rfl) tb (by decide +kernel) (pa_cons (pe_cmpR op_gt (pe_prop (E := E0) (pv 0) wc.cls hp G hr hb .nil pass0 rfl) pe_int (nomark _)) pa_nil))), ?_⟩
    exact ⟨_, rfl, a, dx, _, rfl, h1, a, S, ps, f, rfl, hW, hS, nd, fun H' s' => ⟨_, _, rfl, rfl, .inr ⟨_, rfl, k H' s'⟩⟩⟩
theorem sc_weq : FnScope ["self", "other"] ["self", "other"] (defScope w_eq) := ⟨rfl, rfl, rfl, by decide +kernel, rfl, by decide +kernel, by decide +kernel⟩
theorem ok_weq {f W C fe : Addr} {fd fde : FuncData} (F : Fun K "__eq__" "Wants.__eq__" w_eq f fd) (T : TB mg) (wc : WCls K W) (IW : InsT K W) (gW : mg "Wants" = some (.ref W)) (O : EqC K C fe) (G : FnOk P w K mg base CX0 1 fe fde ["self", "other"] (sp_feq C)) (hb : Binds K fde ["self", "other"] []) :
    FnOk P w K mg base CX0 2 f fd ["self", "other"] (sp_weq W C) := by
  refine F.ok sc_weq (fun vs H Q E h => ?_) (fun cdv A outer s H vs Q E hr h => ?_)
  · obtain ⟨a, b, S, ps, f, g, rfl, _⟩ := h
    rfl
  · obtain ⟨a, b, S, ps, f, g, rfl, ha, hb', lo, hfg, hnd, k⟩ := h
    obtain ⟨dx, fa, d, h1, h2, h3⟩ := ha.at_
    obtain ⟨dy, ga, e, g1, g2, g3⟩ := hb'.at_
    obtain ⟨_, _, _, i1, _, _⟩ := id h2.at_
    obtain ⟨_, _, _, j1, _, _⟩ := id g2.at_
    refine ⟨_, pss_one (ps_ret (pe_and (pe_callB call_isi (by rfl) T.isi (by decide +kernel) (pa_cons (pv 1) (pa_cons (pe_glob (v := .ref W) rfl gW rfl) pa_nil)))
      (pe_and (pe_cmpR (op_eqO O G hr hb) (pe_fld (pv 0) rfl) (pe_fld (pv 1) rfl) (nomark _)) (pe_one (pe_cmpR (op_eq_dictA hr.units0) (pe_fld (pv 0) rfl) (pe_fld (pv 1) rfl) (nomark _)))))), ?_⟩
    refine ⟨_, rfl, _, _, _, _, _, rfl, .own W, IW.ty g1, kit_self W, _, rfl, iteT ?_⟩
    refine ⟨_, rfl, a, W, dx, _, _, rfl, h1, wc.cls, wc.nF, wfs_font fa d, _, rfl, b, W, dy, _, _, rfl, g1, wc.cls, wc.nF, wfs_font ga e, fa, _, _, .ref C, rfl, i1, .inr ⟨ga, C, _, _, rfl, j1, rfl⟩, notFirst_self K C, fa, ga, S, S, ps, ps, rfl, h2, g2, lo, lo, true, by rw [decide_eq_true ⟨rfl, rfl⟩], _, rfl, iteT ?_⟩
    refine ⟨_, rfl, a, W, dx, _, _, rfl, h1, wc.cls, wc.nC, wfs_counts fa d, _, rfl, b, W, dy, _, _, rfl, g1, wc.cls, wc.nC, wfs_counts ga e, d, e, _, _, rfl, rfl, h3, g3, ?_, ?_, k⟩
    · simp [toC, cts]
    · intro p hp
      obtain ⟨x, hx, rfl⟩ := List.mem_map.mp hp
      obtain ⟨c, hc, rfl⟩ := List.mem_map.mp hx
      refine ⟨?_, rfl⟩
      show valV _ (Sum.inr ⟨#[c]⟩ : Key) = _
      rw [valV_toC, cts_at hc, hfg c hc]
      rfl
end
end My
end
section
set_option Elab.async false
set_option linter.all false
set_option maxRecDepth 100000
set_option maxHeartbeats 4000000
/-! B25: == and != of a built-in value and an instance with an own ==. -/
namespace My
open PySem PySem.Spec PyProof.Rows L2
open PySem.W (Frag findIn isFn notFirst mroIn Looks InstAt)
section
variable {prog : Program} {w : World} {A : Around} {E : Value → Shared → Prop} {s : Shared} {K : Frag} {x C L f : Addr} {h₀ : Heap} {ox : Obj} {od : Option Obj} {u tb : Value}
/-- the built-in left side declines -/
def Dec (prog : Program) (w : World) (B : Builtin) (u : Value) (x : Addr) (s : Shared) : Prop := ∀ (A : Around) (E : Value → Shared → Prop) (Q : Fin → Shared → Prop), Q (.done (.ret .notImplemented)) s → wpAny (model prog w) A (B ⟨[u, .ref x], []⟩) Q E s
theorem tryDec {T id : String} {name : Str} {B : Builtin} {Q : Option Value → Shared → Prop} (hT : s.TypeIs u T) (slot : Slot T name id) (entry : entryFor table id = some B) (args : argsOk id ⟨[u, .ref x], []⟩) (D : Dec prog w B u x s) (h : Q none s) :
    wpAny (model prog w) A (tryCompare u name (.ref x)) Q E s :=
  wpAny_tryCompare_declines hT slot (wpAny_call (codeAny_call_builtin slot.plain entry (slot.check _ _ _ _ _ _ _ _ hT args (D _ _ _ ⟨rfl, h⟩))))
theorem dec_none_eq : Dec prog w Builtin.«NoneType.__eq__» .none x s := fun A E Q h => by
  unfold Builtin.«NoneType.__eq__»
  refine wpAny_bind (wpAny_of_eq (a := ((Value.none : Value), [Value.ref x])) (by first | rfl | (simp only [slotArgs]; rfl)) ?_)
  exact wpAny_pure h
theorem dec_none_ne : Dec prog w Builtin.«NoneType.__ne__» .none x s := fun A E Q h => by
  unfold Builtin.«NoneType.__ne__»
  refine wpAny_bind (wpAny_of_eq (a := ((Value.none : Value), [Value.ref x])) (by first | rfl | (simp only [slotArgs]; rfl)) ?_)
  exact wpAny_pure h
theorem dec_str {m : String} {g : List Nat → List Nat → Bool} {z : Str} {t : Tok} {dx : Addr} (hx : s.heap.get? x = some (PySem.W.instObj C dx)) : Dec prog w (Builtin.Str.strCompare m g) (.str z t) x s := fun A E Q h => by
  unfold Builtin.Str.strCompare Builtin.Str.strSlot
  refine wpAny_bind (wpAny_bind (wpAny_of_eq (a := ((Value.str z t : Value), [Value.ref x])) (by first | rfl | (simp only [slotArgs]; rfl)) ?_))
  refine wpAny_bind (wpAny_of_eq (a := z) (by rfl) ?_)
  refine wpAny_pure ?_
  show wpAny _ _ (asStr? (.ref x) >>= _) _ _ _
  unfold asStr?
  refine wpAny_bind (wpAny_bind (wpAny_load hx (wpAny_pure ?_)))
  exact wpAny_bind (wpAny_rule (wpAny_pure h))
theorem dec_int_eq {z : Int} {t : Tok} {dx : Addr} (hx : s.heap.get? x = some (PySem.W.instObj C dx)) : Dec prog w Builtin.«int.__eq__» (.int z t) x s := fun A E Q h => by
  have hr : wpAny (model prog w) A (asInt? (.ref x)) (fun r s' => r = none ∧ s' = s) E s := by
    unfold asInt?
    exact wpAny_bind (wpAny_load hx (wpAny_pure ⟨rfl, rfl⟩))
  show wpAny (model prog w) A (Builtin.Int.intBinary "__eq__" (fun x y => ret (.bool (x == y))) false ⟨[.int z t, .ref x], []⟩) Q E s
  unfold Builtin.Int.intBinary
  refine wpAny_bind (wpAny_of_eq (a := ((Value.int z t : Value), [Value.ref x])) (by first | rfl | (simp only [slotArgs]; rfl)) ?_)
  refine wpAny_bind (wpAny_of_eq (a := z) (by rfl) ?_)
  refine wpAny_bind (wpAny_mono hr (fun r s' hq => ?_) fun _ _ e => e)
  obtain ⟨rfl, rfl⟩ := hq
  exact wpAny_bind (wpAny_rule (wpAny_pure h))
theorem dec_int_ne {z : Int} {t : Tok} {dx : Addr} (hx : s.heap.get? x = some (PySem.W.instObj C dx)) : Dec prog w Builtin.«int.__ne__» (.int z t) x s := fun A E Q h => by
  have hr : wpAny (model prog w) A (asInt? (.ref x)) (fun r s' => r = none ∧ s' = s) E s := by
    unfold asInt?
    exact wpAny_bind (wpAny_load hx (wpAny_pure ⟨rfl, rfl⟩))
  show wpAny (model prog w) A (Builtin.Int.intBinary "__ne__" (fun x y => ret (.bool (x != y))) false ⟨[.int z t, .ref x], []⟩) Q E s
  unfold Builtin.Int.intBinary
  refine wpAny_bind (wpAny_of_eq (a := ((Value.int z t : Value), [Value.ref x])) (by first | rfl | (simp only [slotArgs]; rfl)) ?_)
  refine wpAny_bind (wpAny_of_eq (a := z) (by rfl) ?_)
  refine wpAny_bind (wpAny_mono hr (fun r s' hq => ?_) fun _ _ e => e)
  obtain ⟨rfl, rfl⟩ := hq
  exact wpAny_bind (wpAny_rule (wpAny_pure h))
theorem no_inst {T : String} {Q : Bool → Shared → Prop} (X : K.In s.heap) (I : InstAt s.heap x ox C od) (hm : mroIn K C (.type T) = some false) (h : Q false s) : wpAny (model prog w) A (isInstance (.ref x) (.type T)) Q E s := by
  unfold isInstance
  exact wpAny_bind (I.type.here ((PySem.W.looks_mroIn X hm).here h))
theorem dec_tup_eq {a : Addr} (X : K.In s.heap) (I : InstAt s.heap x ox C od) (hm : mroIn K C (.type "tuple") = some false) : Dec prog w Builtin.«tuple.__eq__» (.ref a) x s := fun A E Q h => by
  have tr : ∀ (Q : Bool → Shared → Prop), Q false s → wpAny (model prog w) A (isInstance (.ref x) (.type "tuple")) Q E s := fun Q hQ => no_inst X I hm hQ
  obtain ⟨hp, g, d, tk, os⟩ := s
  repeat (any_goals (first | assumption | (with_reducible refine tr _ ?_) | wp_step))
theorem dec_tup_ne {a : Addr} (X : K.In s.heap) (I : InstAt s.heap x ox C od) (hm : mroIn K C (.type "tuple") = some false) : Dec prog w Builtin.«tuple.__ne__» (.ref a) x s := fun A E Q h => by
  have tr : ∀ (Q : Bool → Shared → Prop), Q false s → wpAny (model prog w) A (isInstance (.ref x) (.type "tuple")) Q E s := fun Q hQ => no_inst X I hm hQ
  obtain ⟨hp, g, d, tk, os⟩ := s
  repeat (any_goals (first | assumption | (with_reducible refine tr _ ?_) | wp_step))
theorem dec_dict_eq {a : Addr} (hT : s.TypeIs (.ref a) "dict") (X : K.In s.heap) (I : InstAt s.heap x ox C od) (hm : mroIn K C (.type "dict") = some false) : Dec prog w Builtin.«dict.__eq__» (.ref a) x s := fun A E Q h => by
  have tr : ∀ (Q : Bool → Shared → Prop), Q false s → wpAny (model prog w) A (isInstance (.ref x) (.type "dict")) Q E s := fun Q hQ => no_inst X I hm hQ
  obtain ⟨hp, g, d, tk, os⟩ := s
  repeat (any_goals (first | assumption | (with_reducible refine tr _ ?_) | (with_reducible refine wpAny_notOrdered_dict hT ?_) | wp_step))
theorem dec_dict_ne {a : Addr} (hT : s.TypeIs (.ref a) "dict") (X : K.In s.heap) (I : InstAt s.heap x ox C od) (hm : mroIn K C (.type "dict") = some false) : Dec prog w Builtin.«dict.__ne__» (.ref a) x s := fun A E Q h => by
  have tr : ∀ (Q : Bool → Shared → Prop), Q false s → wpAny (model prog w) A (isInstance (.ref x) (.type "dict")) Q E s := fun Q hQ => no_inst X I hm hQ
  obtain ⟨hp, g, d, tk, os⟩ := s
  repeat (any_goals (first | assumption | (with_reducible refine tr _ ?_) | (with_reducible refine wpAny_notOrdered_dict hT ?_) | wp_step))
/-- what is asked of a built-in type for its two comparisons to decline -/
structure Sl (prog : Program) (w : World) (u : Value) (x : Addr) (T : String) (s : Shared) : Prop where
  ty : s.TypeIs u T
  eq : ∃ id B, Slot T (cmpInfo .Eq).2.1 id ∧ entryFor table id = some B ∧ argsOk id ⟨[u, .ref x], []⟩ ∧ Dec prog w B u x s
  ne : ∃ id B, Slot T (cmpInfo .NotEq).2.1 id ∧ entryFor table id = some B ∧ argsOk id ⟨[u, .ref x], []⟩ ∧ Dec prog w B u x s
theorem richEqR {T : String} {Q : Value → Shared → Prop} (hu : A.units < cLine) (X : K.In s.heap) (I : InstAt s.heap x ox C od) (O : EqC K C f) (S : Sl prog w u x T s) (hm : mroIn K C (.type T) = some false)
    (h : wpAny (model prog w) A (call (.ref f) [.ref x, u]) (fun v s' => ∃ c, v = .bool c ∧ Q (.bool c) s') E s) : wpAny (model prog w) A (richCompare .Eq u (.ref x)) Q E s := by
  obtain ⟨id, B, sl, en, ar, D⟩ := S.eq
  have two : wpAny (model prog w) A (tryCompare (.ref x) (cmpInfo .Eq).2.2 u) (fun r s' => ∃ v, r = some v ∧ Q v s') E s := by
    unfold tryCompare
    refine wpAny_bind (PySem.W.ifBound_K X I O.eq O.fn (wpAny_mono h (fun v s' hv => ?_) fun _ _ e => e))
    obtain ⟨c, rfl, hq⟩ := hv
    exact wpAny_pure ⟨_, rfl, hq⟩
  have one := tryDec (A := A) (E := E) (Q := fun r s' => r = none ∧ s' = s) S.ty sl en ar D ⟨rfl, rfl⟩
  unfold richCompare
  simp only [S.ty.oneThing_none]
  refine wpAny_holding (wpAny_bind (wpAny_cRoomFor hu ?_))
  refine wpAny_bind (wpAny_typeOf S.ty (wpAny_bind (I.type.here ?_)))
  rw [if_pos (show (Value.type T != Value.ref C) = true by first | rfl | simp)]
  refine wpAny_bind ((PySem.W.looks_mroIn X hm).here ?_)
  simp only [Bool.false_eq_true, if_false]
  refine wpAny_bind (wpAny_mono one (fun r s' z => ?_) fun _ _ e => e)
  obtain ⟨rfl, rfl⟩ := z
  simp only [Bool.not_false, if_true]
  refine wpAny_bind (wpAny_mono two (fun r s' z => ?_) fun _ _ e => e)
  obtain ⟨v, rfl, hq⟩ := z
  exact wpAny_pure hq
theorem richNeR {T : String} {Q : Value → Shared → Prop} (hu : A.units + 1 < cLine) (X : K.In s.heap) (I : InstAt s.heap x ox C od) (O : EqC K C f) (S : Sl prog w u x T s) (hm : mroIn K C (.type T) = some false)
    (h : wpAny (model prog w) A.in1 (call (.ref f) [.ref x, u]) (fun v s' => ∃ c, v = .bool c ∧ Q (.bool (!c)) s') E s) : wpAny (model prog w) A (richCompare .NotEq u (.ref x)) Q E s := by
  obtain ⟨id, B, sl, en, ar, D⟩ := S.ne
  have two : wpAny (model prog w) A (tryCompare (.ref x) (cmpInfo .NotEq).2.2 u) (fun r s' => ∃ v, r = some v ∧ Q v s') E s := tryNe_K hu X I O (wpAny_mono h (fun v s' hv => by
    obtain ⟨c, rfl, hq⟩ := hv
    exact ⟨c, rfl, _, rfl, hq⟩) fun _ _ e => e)
  have one := tryDec (A := A) (E := E) (Q := fun r s' => r = none ∧ s' = s) S.ty sl en ar D ⟨rfl, rfl⟩
  unfold richCompare
  simp only [S.ty.oneThing_none]
  refine wpAny_holding (wpAny_bind (wpAny_cRoomFor (Nat.lt_of_succ_lt hu) ?_))
  refine wpAny_bind (wpAny_typeOf S.ty (wpAny_bind (I.type.here ?_)))
  rw [if_pos (show (Value.type T != Value.ref C) = true by first | rfl | simp)]
  refine wpAny_bind ((PySem.W.looks_mroIn X hm).here ?_)
  simp only [Bool.false_eq_true, if_false]
  refine wpAny_bind (wpAny_mono one (fun r s' z => ?_) fun _ _ e => e)
  obtain ⟨rfl, rfl⟩ := z
  simp only [Bool.not_false, if_true]
  refine wpAny_bind (wpAny_mono two (fun r s' z => ?_) fun _ _ e => e)
  obtain ⟨v, rfl, hq⟩ := z
  exact wpAny_pure hq
end
/-- a value of a built-in type whose == declines for an instance -/
inductive BiX (H : Hp) : V → String → Prop
  | non : BiX H .non "NoneType"
  | str (z : Str) : BiX H (.str z) "str"
  | int (i : Int) : BiX H (.int i) "int"
  | tup {a : Addr} {xs : List V} : H a = some (.tup xs) → BiX H (.ref a) "tuple"
  | dict {a : Addr} {kvs : List (Key × V)} : H a = some (.dK kvs) → BiX H (.ref a) "dict"
theorem BiX.sl {X : Cx} {pins : List (Addr × Obj)} {σ : L2.St} {H : Hp} {s : Shared} {y : V} {u : Value} {T : String} {x C dx : Addr} {ox : Obj} {od : Option Obj} (I : Inv X pins σ H s) (r : RelV y u) (b : BiX H y T)
    (kin : X.K.In s.heap) (J : InstAt s.heap x ox C od) (hx : s.heap.get? x = some (PySem.W.instObj C dx)) (hm : mroIn X.K C (.type T) = some false) : Sl X.prog X.w u x T s := by
  cases b with
  | non =>
    cases (show u = Value.none from r)
    exact ⟨rfl, ⟨_, _, PySem.F.slot_NoneType_eq, PySem.F.entry_NoneType_eq, PySem.F.args_NoneType_eq_2 _ _, dec_none_eq⟩, ⟨_, _, PySem.F.slot_NoneType_ne, PySem.F.entry_NoneType_ne, PySem.F.args_NoneType_ne_2 _ _, dec_none_ne⟩⟩
  | str z =>
    obtain ⟨t, rfl⟩ := (show ∃ t, u = Value.str z t from r)
    exact ⟨rfl, ⟨_, _, PySem.F.slot_str_eq, PySem.F.entry_str_eq, PySem.F.args_str_eq_2 _ _, dec_str hx⟩, ⟨_, _, PySem.F.slot_str_ne, PySem.F.entry_str_ne, PySem.F.args_str_ne_2 _ _, dec_str hx⟩⟩
  | int i =>
    obtain ⟨t, rfl⟩ := (show ∃ t, u = Value.int i t from r)
    exact ⟨rfl, ⟨_, _, PySem.F.slot_int_eq, PySem.F.entry_int_eq, PySem.F.args_int_eq_2 _ _, dec_int_eq hx⟩, ⟨_, _, PySem.F.slot_int_ne, PySem.F.entry_int_ne, PySem.F.args_int_ne_2 _ _, dec_int_ne hx⟩⟩
  | tup h =>
    rename_i a xs
    cases (show u = Value.ref a from r)
    obtain ⟨_, its, _, o, e1, e2, _⟩ := (show ObjOk X.prog X.w H s.heap a (.tup xs) from I.hok a _ h)
    exact ⟨⟨o, e1, e2⟩, ⟨_, _, PySem.F.slot_tuple_eq, PySem.F.entry_tuple_eq, PySem.F.args_tuple_eq_2 _ _, dec_tup_eq kin J hm⟩, ⟨_, _, PySem.F.slot_tuple_ne, PySem.F.entry_tuple_ne, PySem.F.args_tuple_ne_2 _ _, dec_tup_ne kin J hm⟩⟩
  | dict h =>
    rename_i a kvs
    cases (show u = Value.ref a from r)
    obtain ⟨_, _, _, _, o, _, _, e1, e2, _⟩ := (show ObjOk X.prog X.w H s.heap a (.dK kvs) from I.hok a _ h)
    have hT : s.TypeIs (.ref a) "dict" := ⟨o, e1, e2.1⟩
    exact ⟨hT, ⟨_, _, PySem.F.slot_dict_eq, PySem.F.entry_dict_eq, PySem.F.args_dict_eq_2 _ _, dec_dict_eq hT kin J hm⟩, ⟨_, _, PySem.F.slot_dict_ne, PySem.F.entry_dict_ne, PySem.F.args_dict_ne_2 _ _, dec_dict_ne hT kin J hm⟩⟩
def biNames : List String := ["NoneType", "str", "int", "tuple", "dict"]
theorem BiX.mem {H : Hp} {y : V} {T : String} (b : BiX H y T) : T ∈ biNames := by
  cases b <;> simp [biNames]
section
variable {X : Cx} {k : Nat} {C f : Addr} {fd : FuncData} {sp : Sp} {ot : Str}
/-- x == y, x != y, y an instance of the class at C with an own ==, x of a built-in type -/
def rEqR (C : Addr) (sp : Sp) (neg : Bool) : R2 := fun x y H Q => ∃ b dx fs T, y = .ref b ∧ H b = some (.ins C dx fs) ∧ BiX H x T ∧ sp [.ref b, x] H (fun v H' => ∃ c : Bool, v = .bl c ∧ Q (.bl (if neg then !c else c)) H') E0
theorem op_eqR (O : EqC X.K C f) (hm : ∀ T ∈ biNames, mroIn X.K C (.type T) = some false) (F : FnOk X.prog X.w X.K X.mg X.base CX0 k f fd ["self", ot] sp) (hr : Room k X.A) (hb : Binds X.K fd ["self", ot] []) : OpR X (compareOp .Eq) (rEqR C sp false) := by
  intro pins s σ H x y v u Q I rx ry h
  obtain ⟨b, dx, fs, T, rfl, eb, bi, q⟩ := h
  obtain rfl : u = Value.ref b := ry
  obtain ⟨mA, J, _⟩ := ins_get I.hok eb
  have hx := J.obj
  obtain ⟨od, J, _⟩ := J.look
  show wpAny (model X.prog X.w) X.A (richCompare .Eq v (.ref b)) (EP X pins σ Q) X.xe s
  refine richEqR hr.units0 I.kIn J O (bi.sl I rx I.kIn J hx (hm T bi.mem)) (hm T bi.mem) ?_
  exact run_eq (neg := false) F hr hb I I.env0 rx q fun c s' hq => ⟨c, rfl, hq⟩
theorem op_neR (O : EqC X.K C f) (hm : ∀ T ∈ biNames, mroIn X.K C (.type T) = some false) (F : FnOk X.prog X.w X.K X.mg X.base CX0 k f fd ["self", ot] sp) (hr : Room (k + 1) X.A) (hb : Binds X.K fd ["self", ot] []) : OpR X (compareOp .NotEq) (rEqR C sp true) := by
  intro pins s σ H x y v u Q I rx ry h
  obtain ⟨b, dx, fs, T, rfl, eb, bi, q⟩ := h
  obtain rfl : u = Value.ref b := ry
  obtain ⟨mA, J, _⟩ := ins_get I.hok eb
  have hx := J.obj
  obtain ⟨od, J, _⟩ := J.look
  have hu : X.A.units + 1 < cLine := hu_of (hr.mono (Nat.succ_le_succ (Nat.zero_le k)))
  show wpAny (model X.prog X.w) X.A (richCompare .NotEq v (.ref b)) (EP X pins σ Q) X.xe s
  refine richNeR hu I.kIn J O (bi.sl I rx I.kIn J hx (hm T bi.mem)) (hm T bi.mem) ?_
  exact run_eq (neg := true) F hr.in1 hb I I.env0.in1 rx q fun c s' hq => ⟨c, rfl, hq⟩
end
end My
end
section
set_option Elab.async false
set_option linter.all false
set_option maxRecDepth 100000
set_option maxHeartbeats 4000000
/-! Peq3: fonts, cases, wants compared with anything. -/
namespace My
open PySem PySem.Spec PyProof.Rows L2
/-- a value that is no instance of the class -/
def Oth (K : PySem.W.Frag) (H : Hp) (C : Addr) (y : V) : Prop := ∃ (c : V) (t : Value), TyX K H y t ∧ PySem.W.kitOne K t (.ref C) = some false ∧ PySem.W.notFirst K C t = true
/-- two dicts of the same keys, the values whole numbers -/
def rEqDI : R2 := fun x y H Q => ∃ (a b : Addr) (l : List Nat) (f g : Nat → Int), x = .ref a ∧ y = .ref b ∧ H a = some (.dK (toC (cts l f))) ∧ H b = some (.dK (toC (cts l g))) ∧ Q (.bl (l.all fun c => decide (f c = g c))) H
theorem hits_ints {A : Around} {s : Shared} {l : List Nat} {g : Nat → Int} {vb : List (Key × Value)} (rb : KV (toC (cts l g)) vb) {f : Nat → Int} : ∀ {m : List Nat} {va : List (Key × Value)}, (∀ c ∈ m, c ∈ l) → KV (toC (cts m f)) va → PySem.W.KeqHits A s vb va (m.all fun c => decide (f c = g c))
  | [], va, _, ra => by
    unfold KV at ra
    cases ra
    exact .nil
  | c :: m, va, hm, ra => by
    unfold KV at ra
    have ra' : Paired _ ((Sum.inr ⟨#[c]⟩, V.int (f c)) :: toC (cts m f)) va := ra
    cases ra' with
    | cons h t =>
      rename_i q qs
      obtain ⟨h1, h2⟩ := h
      have e : valV (toC (cts l g)) (Sum.inr ⟨#[c]⟩ : Key) = some (V.int (g c)) := by
        rw [valV_toC, cts_at (hm c List.mem_cons_self)]
        rfl
      have rr : RelO (some (V.int (g c))) (valueAt vb (Sum.inr ⟨#[c]⟩ : Key)) := by rw [← e]; exact rb.val _
      obtain ⟨y, hy, ry⟩ := rr.some_of
      obtain ⟨k, v⟩ := q
      have h1' : (Sum.inr ⟨#[c]⟩ : Key) = k := h1
      rw [h1'] at hy
      have rec_ := hits_ints (A := A) (s := s) rb (f := f) (m := m) (va := qs) (fun x hx => hm x (List.mem_cons_of_mem _ hx)) t
      have ee : eqV (.int (f c)) (.int (g c)) = decide (f c = g c) := by
        show (f c == g c) = _
        by_cases q : f c = g c
        · rw [decide_eq_true q, q]; simp
        · rw [decide_eq_false q]; simpa using q
      have hit := PySem.W.KeqHits.hit hy (eqAt_V (A := A) (s := s) h2 ry rfl rfl) rec_
      rw [ee] at hit
      exact hit
section
variable {X : Cx}
theorem op_eq_DI (hu : X.A.units < cLine) : OpR X (compareOp .Eq) rEqDI := by
  intro pins s σ H x y v u Q I rx ry h
  obtain ⟨a, b, l, f, g, rfl, rfl, ea, eb, q⟩ := h
  obtain rfl : v = Value.ref a := rx
  obtain rfl : u = Value.ref b := ry
  obtain ⟨_, ya, va, ra, da⟩ := (show ObjOk X.prog X.w H s.heap a (.dK (toC (cts l f))) from I.hok a _ ea)
  obtain ⟨_, yb, vb, rb, db⟩ := (show ObjOk X.prog X.w H s.heap b (.dK (toC (cts l g))) from I.hok b _ eb)
  have hl : va.length = vb.length := by rw [← ra.length, ← rb.length]; simp [toC, cts]
  exact PySem.W.keq_eq (knd := mixKind X.prog X.w) (r := l.all fun c => decide (f c = g c)) ya yb da db hu (fun _ => hits_ints rb (fun c h => h) ra) (fin_bl I q (by simp [hl]))
end
theorem ents_eqvD : ∀ cs ds : List (Str × Int), PyData.eqvAll (cs.map enD) (ds.map enD) = decide (cs = ds)
  | [], [] => rfl
  | [], _ :: _ => rfl
  | _ :: _, [] => rfl
  | (a, i) :: cs, (b, j) :: ds => by
    show (((a == b) && ((i == j) && true)) && PyData.eqvAll (cs.map enD) (ds.map enD)) = _
    rw [ents_eqvD cs ds, Bool.and_true]
    by_cases h1 : a = b
    · by_cases h2 : i = j
      · by_cases h3 : cs = ds
        · simp [h1, h2, h3]
        · simp [h1, h2, h3]
      · simp [h1, h2]
    · simp [h1]
/-- f == y -/
def sp_feqA (K : PySem.W.Frag) (C : Addr) : Sp := fun vs H Q _ => ∃ (a : Addr) (y : V) (S : Str) (ps : List (Nat × Nat)), vs = [.ref a, y] ∧ FontAt H C a S ps ∧ LowP ps ∧
  ((∃ b T qs, y = .ref b ∧ FontAt H C b T qs ∧ LowP qs ∧ Q (.bl (decide (S = T ∧ ps = qs))) H) ∨ (Oth K H C y ∧ Q (.bl false) H))
abbrev TxC (cs : List (Str × Int)) : Prop := ∀ e ∈ cs, e.1.length ≤ 2 ∧ ∀ c ∈ e.1.cps.toList, c < 128
def sp_ceqA (K : PySem.W.Frag) (CC C : Addr) : Sp := fun vs H Q _ => ∃ (a : Addr) (y : V) (S : Str) (ps : List (Nat × Nat)) (cs : List (Str × Int)), vs = [.ref a, y] ∧ CaseAt H CC C a S ps cs ∧ LowP ps ∧ TxC cs ∧
  ((∃ b T qs ds, y = .ref b ∧ CaseAt H CC C b T qs ds ∧ LowP qs ∧ TxC ds ∧ Q (.bl (decide ((S = T ∧ ps = qs) ∧ cs = ds))) H) ∨ (Oth K H CC y ∧ Q (.bl false) H))
def sp_weqA (K : PySem.W.Frag) (W C : Addr) : Sp := fun vs H Q _ => ∃ (a : Addr) (y : V) (S : Str) (ps : List (Nat × Nat)) (f : Nat → Int), vs = [.ref a, y] ∧ WantsAt H W C a S ps f ∧ LowP ps ∧
  ((∃ b T qs g, y = .ref b ∧ WantsAt H W C b T qs g ∧ LowP qs ∧ Q (.bl (decide (S = T ∧ ps = qs) && S.cps.toList.all fun c => decide (f c = g c))) H) ∨ (Oth K H W y ∧ Q (.bl false) H))
section
variable {P : Program} {w : World} {K : PySem.W.Frag} {mg : Str → Option Value} {base : Heap}
theorem ok_feqA {f C : Addr} {fd : FuncData} (F : Fun K "__eq__" "Font.__eq__" s_feq f fd) (T : TB mg) (I : InsT K C) (gF : mg "Font" = some (.ref C)) (n1 : NoAttr K C "_signs") (n2 : NoAttr K C "_turns") : FnOk P w K mg base CX0 1 f fd ["self", "other"] (sp_feqA K C) := by
  refine F.ok sc_feq (fun vs H Q E h => ?_) (fun cdv A outer s H vs Q E hr h => ?_)
  · obtain ⟨a, y, S, ps, rfl, _⟩ := h
    rfl
  · obtain ⟨a, y, S, ps, rfl, ha, l1, h⟩ := h
    obtain ⟨dx, r, ys, h1, h2, h3⟩ := ha.at_
    refine ⟨_, pss_one (ps_ret (pe_and (pe_callB call_isi (by rfl) T.isi (by decide +kernel) (pa_cons (pv 1) (pa_cons (pe_glob (v := .ref C) rfl gF rfl) pa_nil)))
      (pe_and (pe_cmpR op_eq (pe_fld (pv 0) rfl) (pe_fld (pv 1) rfl) (nomark _)) (pe_one (pe_cmpR (op_eqD hr.units) (pe_fld (pv 0) rfl) (pe_fld (pv 1) rfl) (nomark _)))))), ?_⟩
    rcases h with ⟨b, T', qs, rfl, hb, l2, k⟩ | ⟨⟨_, t, ty, kt, _⟩, k⟩
    · obtain ⟨dy, q, zs, g1, g2, g3⟩ := hb.at_
      refine ⟨_, rfl, _, _, _, _, _, rfl, .own C, I.ty g1, kit_self C, _, rfl, iteT ?_⟩
      refine ⟨_, rfl, a, C, dx, _, _, rfl, h1, I.cl, n1, fs_signs S r, _, rfl, b, C, dy, _, _, rfl, g1, I.cl, n1, fs_signs T' q, rfl, _, rfl, ?_⟩
      refine ite2 (fun t => ?_) (fun t => ?_)
      · have t : S = T' := by
          have := of_decide_eq_true t
          injection this
        subst t
        refine ⟨_, rfl, a, C, dx, _, _, rfl, h1, I.cl, n2, fs_turns S r, _, rfl, b, C, dy, _, _, rfl, g1, I.cl, n2, fs_turns S q, .tuple (ps.map pairD), .tuple (qs.map pairD), .tup (SqT.of h2) (pairs_dp h3), .tup (SqT.of g2) (pairs_dp g3), ?_, ?_, ?_⟩
        · exact pairs_shape l1
        · exact pairs_shape l2
        · have e : PyData.eqv (.tuple (ps.map pairD)) (.tuple (qs.map pairD)) = decide (S = S ∧ ps = qs) := by
            show PyData.eqvAll _ _ = _
            rw [pairs_eqv]
            simp
          rw [e]
          exact k
      · have t : S ≠ T' := fun z => t (decide_eq_true (by rw [z]))
        have e : decide (S = T' ∧ ps = qs) = false := decide_eq_false fun z => t z.1
        rw [e] at k
        exact k
    · exact ⟨_, rfl, _, _, _, _, _, rfl, .own C, ty, kt, _, rfl, iteF k⟩
theorem ok_ceqA {f CC C fe : Addr} {fd fde : FuncData} (F : Fun K "__eq__" "Case.__eq__" c_eq f fd) (T : TB mg) (cc : CCls K CC) (IW : InsT K CC) (gW : mg "Case" = some (.ref CC)) (O : EqC K C fe) (G : FnOk P w K mg base CX0 1 fe fde ["self", "other"] (sp_feq C)) (hb : Binds K fde ["self", "other"] []) :
    FnOk P w K mg base CX0 2 f fd ["self", "other"] (sp_ceqA K CC C) := by
  refine F.ok sc_ceq (fun vs H Q E h => ?_) (fun cdv A outer s H vs Q E hr h => ?_)
  · obtain ⟨a, y, S, ps, cs, rfl, _⟩ := h
    rfl
  · obtain ⟨a, y, S, ps, cs, rfl, ha, lo, tx, h⟩ := h
    obtain ⟨dx, fa, d, t, ys, h1, h2, h3, h4, h5⟩ := ha.at_
    obtain ⟨_, _, _, i1, _, _⟩ := id h2.at_
    refine ⟨_, pss_one (ps_ret (pe_and (pe_callB call_isi (by rfl) T.isi (by decide +kernel) (pa_cons (pv 1) (pa_cons (pe_glob (v := .ref CC) rfl gW rfl) pa_nil)))
      (pe_and (pe_cmpR (op_eqO O G hr hb) (pe_fld (pv 0) rfl) (pe_fld (pv 1) rfl) (nomark _)) (pe_one (pe_cmpR (op_eqD hr.units) (pe_fld (pv 0) rfl) (pe_fld (pv 1) rfl) (nomark _)))))), ?_⟩
    rcases h with ⟨b, T', qs, ds, rfl, hb', lo2, tx2, k⟩ | ⟨⟨_, t, ty, kt, _⟩, k⟩
    · obtain ⟨dy, ga, e, t', ys', g1, g2, g3, g4, g5⟩ := hb'.at_
      obtain ⟨_, _, _, j1, _, _⟩ := id g2.at_
      refine ⟨_, rfl, _, _, _, _, _, rfl, .own CC, IW.ty g1, kit_self CC, _, rfl, iteT ?_⟩
      refine ⟨_, rfl, a, CC, dx, _, _, rfl, h1, cc.cls, cc.nF, cfs_font fa d t, _, rfl, b, CC, dy, _, _, rfl, g1, cc.cls, cc.nF, cfs_font ga e t', fa, _, _, .ref C, rfl, i1, .inr ⟨ga, C, _, _, rfl, j1, rfl⟩, notFirst_self K C, fa, ga, S, T', ps, qs, rfl, h2, g2, lo, lo2, _, rfl, _, rfl, ?_⟩
      refine ite2 (fun z => ?_) (fun z => ?_)
      · have z : S = T' ∧ ps = qs := of_decide_eq_true z
        refine ⟨_, rfl, a, CC, dx, _, _, rfl, h1, cc.cls, cc.nP, cfs_plates fa d t, _, rfl, b, CC, dy, _, _, rfl, g1, cc.cls, cc.nP, cfs_plates ga e t', .tuple (cs.map enD), .tuple (ds.map enD), .tup (SqT.of h4) (entsE_dp h5), .tup (SqT.of g4) (entsE_dp g5), entsE_shape tx, entsE_shape tx2, ?_⟩
        have ev : PyData.eqv (.tuple (cs.map enD)) (.tuple (ds.map enD)) = decide ((S = T' ∧ ps = qs) ∧ cs = ds) := by
          show PyData.eqvAll _ _ = _
          rw [ents_eqvD]
          simp [z]
        rw [ev]
        exact k
      · have e : decide ((S = T' ∧ ps = qs) ∧ cs = ds) = false := decide_eq_false fun q => z (decide_eq_true q.1)
        rw [e] at k
        exact k
    · exact ⟨_, rfl, _, _, _, _, _, rfl, .own CC, ty, kt, _, rfl, iteF k⟩
theorem ok_weqA {f W C fe : Addr} {fd fde : FuncData} (F : Fun K "__eq__" "Wants.__eq__" w_eq f fd) (T : TB mg) (wc : WCls K W) (IW : InsT K W) (gW : mg "Wants" = some (.ref W)) (O : EqC K C fe) (G : FnOk P w K mg base CX0 1 fe fde ["self", "other"] (sp_feq C)) (hb : Binds K fde ["self", "other"] []) :
    FnOk P w K mg base CX0 2 f fd ["self", "other"] (sp_weqA K W C) := by
  refine F.ok sc_weq (fun vs H Q E h => ?_) (fun cdv A outer s H vs Q E hr h => ?_)
  · obtain ⟨a, y, S, ps, f, rfl, _⟩ := h
    rfl
  · obtain ⟨a, y, S, ps, f, rfl, ha, lo, h⟩ := h
    obtain ⟨dx, fa, d, h1, h2, h3⟩ := ha.at_
    obtain ⟨_, _, _, i1, _, _⟩ := id h2.at_
    refine ⟨_, pss_one (ps_ret (pe_and (pe_callB call_isi (by rfl) T.isi (by decide +kernel) (pa_cons (pv 1) (pa_cons (pe_glob (v := .ref W) rfl gW rfl) pa_nil)))
      (pe_and (pe_cmpR (op_eqO O G hr hb) (pe_fld (pv 0) rfl) (pe_fld (pv 1) rfl) (nomark _)) (pe_one (pe_cmpR (op_eq_DI hr.units0) (pe_fld (pv 0) rfl) (pe_fld (pv 1) rfl) (nomark _)))))), ?_⟩
    rcases h with ⟨b, T', qs, g, rfl, hb', lo2, k⟩ | ⟨⟨_, t, ty, kt, _⟩, k⟩
    · obtain ⟨dy, ga, e, g1, g2, g3⟩ := hb'.at_
      obtain ⟨_, _, _, j1, _, _⟩ := id g2.at_
      refine ⟨_, rfl, _, _, _, _, _, rfl, .own W, IW.ty g1, kit_self W, _, rfl, iteT ?_⟩
      refine ⟨_, rfl, a, W, dx, _, _, rfl, h1, wc.cls, wc.nF, wfs_font fa d, _, rfl, b, W, dy, _, _, rfl, g1, wc.cls, wc.nF, wfs_font ga e, fa, _, _, .ref C, rfl, i1, .inr ⟨ga, C, _, _, rfl, j1, rfl⟩, notFirst_self K C, fa, ga, S, T', ps, qs, rfl, h2, g2, lo, lo2, _, rfl, _, rfl, ?_⟩
      refine ite2 (fun z => ?_) (fun z => ?_)
      · have z' : S = T' ∧ ps = qs := of_decide_eq_true z
        rw [decide_eq_true z', Bool.true_and] at k
        obtain ⟨rfl, rfl⟩ := z'
        exact ⟨_, rfl, a, W, dx, _, _, rfl, h1, wc.cls, wc.nC, wfs_counts fa d, _, rfl, b, W, dy, _, _, rfl, g1, wc.cls, wc.nC, wfs_counts ga e, d, e, S.cps.toList, f, g, rfl, rfl, h3, g3, k⟩
      · have z : decide (S = T' ∧ ps = qs) = false := decide_eq_false fun q => z (decide_eq_true q)
        rw [z, Bool.false_and] at k
        exact k
    · exact ⟨_, rfl, _, _, _, _, _, rfl, .own W, ty, kt, _, rfl, iteF k⟩
end
end My
end
section
set_option Elab.async false
set_option linter.all false
set_option maxRecDepth 100000
set_option maxHeartbeats 4000000
/-! B19: x[y] by an own __getitem__; an own error without fields, made without a word. -/
namespace My
open PySem PySem.Spec PyProof.Rows L2
/-- x[y] by an own __getitem__ -/
def rSubO (C : Addr) (sp : Sp) (E : XK) : R2 := fun x y H Q => ∃ a dx fs, x = .ref a ∧ H a = some (.ins C dx fs) ∧ sp [.ref a, y] H Q E
theorem pe_subO {X : Cx} {CX : CXT} {k : Nat} {C f : Addr} {fd : FuncData} {sp : Sp} {E : XK} {ix : Str} {a b : Expr} {ta tb : TE} {pos : Pos} (O : Own X.K C "__getitem__" f) (hn : PySem.W.fnIn X.K f = true) (F : FnOk X.prog X.w X.K X.mg X.base CX k f fd ["self", ix] sp) (hr : Room (k + 1) X.A) (hb : Binds X.K fd ["self", ix] []) (hx : Passes CX X E) (ha : PE X a ta) (hb' : PE X b tb)
    (hsl : ∀ (x : Addr) (i : Value), subscripted b true (.ref x) i = runValue (.builtin "lifetime.subscript" ⟨[.ref x, i], []⟩)) : PE X (.Subscript a b pos) (tOp (rSubO C sp E) ta tb) := by
  refine ⟨fun pins s σ H Q I h => ?_⟩
  refine Subscript_ (binT ha hb' I h fun v u s2 x y H2 I2 rx ry q => ?_)
  obtain ⟨p, dx, fs, rfl, ea, q⟩ := q
  obtain rfl : v = Value.ref p := rx
  obtain ⟨mA, od0, _, _, _, _⟩ := ins_get I2.hok ea
  obtain ⟨od, J, _⟩ := od0.look
  obtain ⟨m, fr⟩ := I2.fr
  refine PySem.W.sub_K fr I2.ok.mod.kin J O.at_ hn O.fn (wpAny_call ?_) (hsl _ _)
  refine codeAny_mono (F.run X.A.in1 X.stack s2 H2 ⟨[.ref p, u], []⟩ [.ref p, u] [.ref p, y] _ _ hr.in1 I2.env0.in1 (hb _ [.ref p, u] I2.kIn rfl) (.cons rfl (.cons ry .nil)) q) fun r s' hq => ?_
  cases r with
  | error er => exact hx pins σ H2 s2 er s' I2 hq
  | ok fl =>
    cases fl with
    | ret u => exact I2.after hq
    | next => exact False.elim hq
    | brk => exact False.elim hq
    | cont => exact False.elim hq
/-- X() -/
theorem pmk_own0 {X : Cx} {C : Addr} {bmB : List Value} {B newId initId : String} {x : Str} {p pos : Pos} (F : ExcBaseFacts B newId initId bmB) (q : PySem.W.excIn X.K C bmB newId = true) (gC : X.mg x = some (.ref C)) (kC : PySem.W.keepIn X.K (.ref C) = true) (r : Raises X (.ref C)) (hg : Gl X x)
    (hdb : (x == ("__debug__" : Str)) = false := by decide) : PMk X (.Call (.Name x p) [] [] pos) (fun _ H Q => Q (.ref C) none H) := by
  intro pins s σ H Q I h
  refine wpAny_Call_Name_kw (ld_glob I hg gC ?_ hdb)
  refine PySem.W.callWith_K0 I.kIn kC ?_
  show wpAny _ _ (call (.ref C) []) _ _ _
  obtain ⟨bm, N, nm, qn, bs, hdct, sn, sub, ab, col, dd, k0, k1, k2, k3, k5, mN, hC, hN, hni, T⟩ := exc_obj I.kIn q
  refine wpAny_call_exc_subT F T hC hN hni (fun h' e hm => ?_) (by show 0 ≤ sizeLine; exact Nat.zero_le _)
  exact mk_of I hm r h (I.hok.gone hm.new)
/-- xs * n -/
def qRep : R2 := fun x y H Q => ∃ l k xs, x = .ref l ∧ y = .int k ∧ H l = some (.lst xs) ∧ -(2 ^ 63) ≤ k ∧ k < 2 ^ 63 ∧ xs.length * k.toNat ≤ sizeLine ∧ ∀ p H', New H p (.lst ((List.replicate k.toNat xs).flatten)) H' → Q (.ref p) H'
theorem op_rep' {X : Cx} : OpR X (binaryOp .Mult) qRep := OpR.weak op_rep fun x y H Q q => by
  obtain ⟨l, k, xs, e1, e2, h, h1, h2, h3, z⟩ := q
  exact ⟨l, k, xs, e1, e2, h, h1, h2, h3, fun p hp => z p _ (.mk' hp)⟩
end My
end
section
set_option Elab.async false
set_option linter.all false
set_option maxRecDepth 100000
set_option maxHeartbeats 4000000
/-! Qpairs: pairs compared. -/
namespace My
open PySem PySem.Spec PyProof.Rows L2
abbrev s_pairs : Stmt := topS 60
theorem OpR.or {X : Cx} {f : Value → Value → Sem Value} {r r' : R2} (a : OpR X f r) (b : OpR X f r') : OpR X f (fun x y H Q => r x y H Q ∨ r' x y H Q) := fun pins s σ H x y v u Q I rx ry h => h.elim (a pins s σ H x y v u Q I rx ry) (b pins s σ H x y v u Q I rx ry)
/-- what is known of a class with an own == -/
structure CmpK (P : Program) (w : World) (K : PySem.W.Frag) (mg : Str → Option Value) (base : Heap) (C f : Addr) (fd : FuncData) (sp : Sp) : Prop where
  eq : EqC K C f
  ok : FnOk P w K mg base CX0 2 f fd ["self", "other"] sp
  bd : Binds K fd ["self", "other"] []
  far : ∀ T ∈ biNames, PySem.W.mroIn K C (.type T) = some false
/-- x == y with an instance of the class on either side -/
def rC (K : PySem.W.Frag) (C : Addr) (sp : Sp) (neg : Bool) : R2 := fun x y H Q => rEqO K C sp neg x y H Q ∨ rEqR C sp neg x y H Q
def rAny (K : PySem.W.Frag) (C CC W : Addr) (neg : Bool) : R2 := fun x y H Q => rC K C (sp_feqA K C) neg x y H Q ∨ rC K CC (sp_ceqA K CC C) neg x y H Q ∨ rC K W (sp_weqA K W C) neg x y H Q
/-- two values compared: c -/
structure Cmp4 (K : PySem.W.Frag) (C CC W : Addr) (H : Hp) (x y : V) (c : Bool) : Prop where
  l : ∀ (neg : Bool) (Q : VK), Q (.bl (if neg then !c else c)) H → rAny K C CC W neg x y H Q
  r : ∀ (neg : Bool) (Q : VK), Q (.bl (if neg then !c else c)) H → rAny K C CC W neg y x H Q
abbrev fourD (c : Bool) : PyData := .list [.bool c, .bool c, .bool !c, .bool !c]
theorem four_len (c : Bool) : (fourD c).showable = true ∧ (fourD c).shown.length ≤ sizeLine ∧ (fourD c).depth ≤ 60 := by
  cases c
  · exact ⟨by decide +kernel, Nat.le_trans (show _ ≤ 200 by decide +kernel) (by decide), by decide +kernel⟩
  · exact ⟨by decide +kernel, Nat.le_trans (show _ ≤ 200 by decide +kernel) (by decide), by decide +kernel⟩
theorem four_rp {K : PySem.W.Frag} {H : Hp} {p r : Addr} {c : Bool} (h : H r = some (.lst [.bl c, .bl c, .bl !c, .bl !c])) (ne : r ≠ p) : Rp K p H false (.ref r) (fourD c) :=
  .lst h ne (fun z => by cases z) (.cons (.bl _ _) (.cons (.bl _ _) (.cons (.bl _ _) (.cons (.bl _ _) (.nil _)))))
def sp_pairs (K : PySem.W.Frag) (C CC W : Addr) : Sp := fun vs H Q _ => ∃ (x : V) (l : Addr) (ys : List V), vs = [x, .ref l] ∧ H l = some (.lst ys) ∧ (∀ y ∈ ys, ∃ q v c, y = V.ref q ∧ H q = some (.tup [v, .bl c]) ∧ ∀ H', Same H H' → Cmp4 K C CC W H' x v c) ∧ ∀ H', Same H H' → Q (.bl true) H'
section
variable {P : Program} {w : World} {K : PySem.W.Frag} {mg : Str → Option Value} {base : Heap}
abbrev NPa : List Str := ["_law_one", "_law_others", "_law_other", "_law_is_same"]
theorem sc_pairs : FnScope NPa ["_law_one", "_law_others"] (defScope s_pairs) := ⟨rfl, rfl, rfl, by decide +kernel, rfl, by decide +kernel, by decide +kernel⟩
theorem ok_pairs {f C CC W fF fC fW : Addr} {fd fdF fdC fdW : FuncData} (F : Fun K "_law_pairs_right" "_law_pairs_right" s_pairs f fd) (T : TB mg)
    (EF : CmpK P w K mg base C fF fdF (sp_feqA K C)) (EC : CmpK P w K mg base CC fC fdC (sp_ceqA K CC C)) (EW : CmpK P w K mg base W fW fdW (sp_weqA K W C)) : FnG P w K mg base 4 f fd ["_law_one", "_law_others"] (sp_pairs K C CC W) := by
  refine okG F sc_pairs (fun vs H Q E h => ?_) (fun cdv A outer s H vs Q E g hr h => ?_)
  · obtain ⟨x, l, ys, rfl, _⟩ := h
    rfl
  · obtain ⟨x, l, ys, rfl, hl, hys, k⟩ := h
    have hu64 : (A.deeper (envOfC "_law_pairs_right" (defScope s_pairs) s.heap.objs.size f cdv)).units + 64 < cLine := by have := hr.un; omega
    have r2 : Room 2 _ := hr.mono (by decide)
    have r3 : Room 3 _ := hr.mono (by decide)
    have oe : OpR (cxOf CX0 P w K mg base NPa "_law_pairs_right" (defScope s_pairs) f cdv A outer s H E).nox (compareOp .Eq) (rAny K C CC W false) :=
      OpR.or (OpR.or (op_eqO EF.eq EF.ok r2 EF.bd) (op_eqR EF.eq EF.far EF.ok r2 EF.bd)) (OpR.or (OpR.or (op_eqO EC.eq EC.ok r2 EC.bd) (op_eqR EC.eq EC.far EC.ok r2 EC.bd)) (OpR.or (op_eqO EW.eq EW.ok r2 EW.bd) (op_eqR EW.eq EW.far EW.ok r2 EW.bd)))
    have on : OpR (cxOf CX0 P w K mg base NPa "_law_pairs_right" (defScope s_pairs) f cdv A outer s H E).nox (compareOp .NotEq) (rAny K C CC W true) :=
      OpR.or (OpR.or (op_neO EF.eq EF.ok r3 EF.bd) (op_neR EF.eq EF.far EF.ok r3 EF.bd)) (OpR.or (OpR.or (op_neO EC.eq EC.ok r3 EC.bd) (op_neR EC.eq EC.far EC.ok r3 EC.bd)) (OpR.or (op_neO EW.eq EW.ok r3 EW.bd) (op_neR EW.eq EW.far EW.ok r3 EW.bd)))
    refine ⟨_, pss_cons (ps_for PassesOwn.never rfl (pi_list (pv 1)) (pg_tup rfl (pgs_cons (pg_name (i := 2) sc_pairs.nd rfl (Or.inl rfl)) (pgs_cons (pg_name (i := 3) sc_pairs.nd rfl (Or.inl rfl)) pgs_nil)))
        (pss_one (ps_if (pt_cmpR op_ne (pe_callB (id := "repr") (call_reprD g hu64) (by rfl) T.repr (by decide +kernel) (pa_cons (pe_lst' (pa_cons (pe_cmpR oe (pv 0) (pv 2) (nomark _)) (pa_cons (pe_cmpR oe (pv 2) (pv 0) (nomark _)) (pa_cons (pe_cmpR on (pv 0) (pv 2) (nomark _)) (pa_cons (pe_cmpR on (pv 2) (pv 0) (nomark _)) pa_nil))))) pa_nil))
          (pe_callB (id := "repr") (call_reprD g hu64) (by rfl) T.repr (by decide +kernel) (pa_cons (pe_op op_cat' (pe_op op_rep' (pe_lst' (pa_cons (pv 3) pa_nil)) pe_int) (pe_op op_rep' (pe_lst' (pa_cons (pe_not (pv 3)) pa_nil)) pe_int)) pa_nil)) (nomark _)) (pss_one (ps_ret pe_bl)) pss_nil)))
      (pss_one (ps_ret pe_bl)), ?_⟩
    refine ⟨_, rfl, l, rfl, ⟨ys, SqL.of hl⟩, ?_⟩
    refine for_it (walk_list (xs := ys)) (fun i σ' H' => ∃ o2 o3 : Option V, σ' = [some x, some (.ref l), o2, o3] ∧ Same H H') ⟨none, none, rfl, Same.refl _⟩ (fun i σ' H' _ q => ?_) ?_ ?_
    · obtain ⟨_, _, _, sm⟩ := q
      exact SqL.of (sm _ _ hl)
    · rintro i y σ' Ha Hb hi ⟨o2, o3, rfl, sA⟩ ⟨rfl, hx⟩
      obtain ⟨q, v, c, rfl, hq, hc⟩ := hys y (List.mem_of_getElem? hx)
      refine ⟨q, _, rfl, SqT.of (sA _ _ hq), rfl, _, _, rfl, _, _, rfl, rfl, ?_⟩
      have C4 := hc _ sA
      refine ⟨_, rfl, _, rfl, C4.l false _ ⟨_, rfl, _, rfl, C4.r false _ ⟨_, rfl, _, rfl, C4.l true _ ⟨_, rfl, _, rfl, C4.r true _ ⟨by show 4 ≤ sizeLine; decide, fun r1 H1 n1 => ?_⟩⟩⟩⟩⟩
      obtain ⟨f1, f2, f3⟩ := four_len c
      have lA := sA _ _ hl
      have ne1 : r1 ≠ l := fun z => by have := n1.free; rw [z, lA] at this; cases this
      refine ⟨_, fourD c, l, rfl, four_rp n1.here ne1, f1, f2, f3, ?_⟩
      refine ⟨_, rfl, by show 1 ≤ sizeLine; decide, fun r2 H2 n2 => ⟨r2, 2, _, rfl, rfl, n2.here, by decide, by decide, by show 1 * 2 ≤ sizeLine; decide, fun r3 H3 n3 => ⟨_, rfl, _, rfl, by show 1 ≤ sizeLine; decide, fun r4 H4 n4 => ⟨r4, 2, _, rfl, rfl, n4.here, by decide, by decide, by show 1 * 2 ≤ sizeLine; decide, fun r5 H5 n5 => ?_⟩⟩⟩⟩
      have s35 := n4.same.trans n5.same
      refine ⟨r3, r5, _, _, rfl, rfl, s35 _ _ n3.here, n5.here, by show 4 ≤ sizeLine; decide, fun r6 H6 n6 => ?_⟩
      have sF := (((sA.trans n1.same).trans n2.same).trans n3.same).trans (s35.trans n6.same)
      have s05 := (((sA.trans n1.same).trans n2.same).trans n3.same).trans s35
      have ne6 : r6 ≠ l := fun z => by have := n6.free; rw [z, s05 _ _ hl] at this; cases this
      refine ⟨_, fourD c, l, rfl, four_rp n6.here ne6, f1, f2, f3, rfl, _, rfl, ?_⟩
      rw [decide_eq_true rfl]
      exact iteF ⟨_, _, rfl, sF⟩
    · rintro σ' H' ⟨o2, o3, _, sm⟩
      exact k H' sm
end
end My
end
section
set_option Elab.async false
set_option linter.all false
set_option maxRecDepth 100000
set_option maxHeartbeats 4000000
/-! Qcmp4: what two values tell when compared. -/
namespace My
open PySem PySem.Spec PyProof.Rows L2
/-- a value of a built-in type is no instance of the class -/
def FarB (K : PySem.W.Frag) (C : Addr) : Prop := ∀ T ∈ biNames, PySem.W.kitOne K (.type T) (.ref C) = some false ∧ PySem.W.notFirst K C (.type T) = true
/-- nor is an instance of another class -/
def FarC (K : PySem.W.Frag) (D C : Addr) : Prop := PySem.W.kitOne K (.ref D) (.ref C) = some false ∧ PySem.W.notFirst K C (.ref D) = true
theorem BiX.ty {K : PySem.W.Frag} {H : Hp} {v : V} {T : String} (b : BiX H v T) : TyX K H v (.type T) := by
  cases b with
  | non => exact .base .non
  | str z => exact .base (.str z)
  | int i => exact .base (.int i)
  | tup h => exact .base (.tup h)
  | dict h => exact .base (.dK h)
theorem BiX.oth {K : PySem.W.Frag} {H : Hp} {C : Addr} {v : V} {T : String} (b : BiX H v T) (h : FarB K C) : Oth K H C v := ⟨v, _, b.ty, h T b.mem⟩
theorem ins_oth {K : PySem.W.Frag} {H : Hp} {C D b dx : Addr} {fs : List (Str × V)} (I : InsT K D) (e : H b = some (.ins D dx fs)) (h : FarC K D C) : Oth K H C (.ref b) := ⟨.ref b, _, I.ty e, h⟩
theorem own_l {K : PySem.W.Frag} {H : Hp} {C a dx : Addr} {fs : List (Str × V)} {y : V} {t : Value} {sp : Sp} {c : Bool} (e : H a = some (.ins C dx fs)) (ty : TyI K H y t) (nf : PySem.W.notFirst K C t = true) (h : ∀ Q : VK, Q (.bl c) H → sp [.ref a, y] H Q E0) :
    ∀ (neg : Bool) (Q : VK), Q (.bl (if neg then !c else c)) H → rC K C sp neg (.ref a) y H Q := fun neg Q q => .inl ⟨a, dx, fs, t, rfl, e, ty, nf, h _ ⟨c, rfl, q⟩⟩
theorem own_r {K : PySem.W.Frag} {H : Hp} {C a dx : Addr} {fs : List (Str × V)} {y : V} {T : String} {sp : Sp} {c : Bool} (e : H a = some (.ins C dx fs)) (b : BiX H y T) (h : ∀ Q : VK, Q (.bl c) H → sp [.ref a, y] H Q E0) :
    ∀ (neg : Bool) (Q : VK), Q (.bl (if neg then !c else c)) H → rC K C sp neg y (.ref a) H Q := fun neg Q q => .inr ⟨a, dx, fs, T, rfl, e, b, h _ ⟨c, rfl, q⟩⟩
theorem FontAt.ins {H : Hp} {C a : Addr} {S : Str} {ps : List (Nat × Nat)} (h : FontAt H C a S ps) : ∃ dx fs, H a = some (.ins C dx fs) := by
  obtain ⟨dx, r, ys, h1, _⟩ := h.at_
  exact ⟨dx, _, h1⟩
theorem CaseAt.ins' {H : Hp} {CC C a : Addr} {S : Str} {ps : List (Nat × Nat)} {cs : List (Str × Int)} (h : CaseAt H CC C a S ps cs) : ∃ dx fs, H a = some (.ins CC dx fs) := by
  obtain ⟨dx, fa, dd, tp, es, i1, _⟩ := h.at_
  exact ⟨dx, _, i1⟩
theorem WantsAt.ins' {H : Hp} {W C a : Addr} {S : Str} {ps : List (Nat × Nat)} {f : Nat → Int} (h : WantsAt H W C a S ps f) : ∃ dx fs, H a = some (.ins W dx fs) := by
  obtain ⟨dx, fa, d, h1, _⟩ := h.at_
  exact ⟨dx, _, h1⟩
section
variable {K : PySem.W.Frag} {H : Hp} {C CC W a b : Addr} {S T : Str} {ps qs : List (Nat × Nat)} {cs ds : List (Str × Int)} {f g : Nat → Int} {v : V} {nm : String}
theorem cmp_ff (ha : FontAt H C a S ps) (hb : FontAt H C b T qs) (l1 : LowP ps) (l2 : LowP qs) : Cmp4 K C CC W H (.ref a) (.ref b) (decide (S = T ∧ ps = qs)) := by
  obtain ⟨dx, fs, e1⟩ := ha.ins
  obtain ⟨dy, gs, e2⟩ := hb.ins
  have sw : decide (T = S ∧ qs = ps) = decide (S = T ∧ ps = qs) := by
    by_cases h : S = T ∧ ps = qs
    · rw [decide_eq_true h, decide_eq_true ⟨h.1.symm, h.2.symm⟩]
    · rw [decide_eq_false h, decide_eq_false fun z => h ⟨z.1.symm, z.2.symm⟩]
  refine ⟨fun neg Q q => .inl (own_l e1 (.inr ⟨b, C, dy, gs, rfl, e2, rfl⟩) (notFirst_self K C) (fun Q q => ⟨a, _, S, ps, rfl, ha, l1, .inl ⟨b, T, qs, rfl, hb, l2, q⟩⟩) neg Q q),
    fun neg Q q => .inl (own_l e2 (.inr ⟨a, C, dx, fs, rfl, e1, rfl⟩) (notFirst_self K C) (fun Q q => ⟨b, _, T, qs, rfl, hb, l2, .inl ⟨a, S, ps, rfl, ha, l1, by rw [sw]; exact q⟩⟩) neg Q q)⟩
theorem cmp_fb (ha : FontAt H C a S ps) (l1 : LowP ps) (hv : BiX H v nm) (far : FarB K C) : Cmp4 K C CC W H (.ref a) v false := by
  obtain ⟨dx, fs, e1⟩ := ha.ins
  have key : ∀ Q : VK, Q (.bl false) H → sp_feqA K C [.ref a, v] H Q E0 := fun Q q => ⟨a, _, S, ps, rfl, ha, l1, .inr ⟨hv.oth far, q⟩⟩
  exact ⟨fun neg Q q => .inl (own_l e1 (.inl hv.ty) (far nm hv.mem).2 key neg Q q), fun neg Q q => .inl (own_r e1 hv key neg Q q)⟩
theorem cmp_cc (ha : CaseAt H CC C a S ps cs) (hb : CaseAt H CC C b T qs ds) (l1 : LowP ps) (l2 : LowP qs) (t1 : TxC cs) (t2 : TxC ds) : Cmp4 K C CC W H (.ref a) (.ref b) (decide ((S = T ∧ ps = qs) ∧ cs = ds)) := by
  obtain ⟨dx, fs, e1⟩ := ha.ins'
  obtain ⟨dy, gs, e2⟩ := hb.ins'
  have sw : decide ((T = S ∧ qs = ps) ∧ ds = cs) = decide ((S = T ∧ ps = qs) ∧ cs = ds) := by
    by_cases h : (S = T ∧ ps = qs) ∧ cs = ds
    · rw [decide_eq_true h, decide_eq_true ⟨⟨h.1.1.symm, h.1.2.symm⟩, h.2.symm⟩]
    · rw [decide_eq_false h, decide_eq_false fun z => h ⟨⟨z.1.1.symm, z.1.2.symm⟩, z.2.symm⟩]
  refine ⟨fun neg Q q => .inr (.inl (own_l e1 (.inr ⟨b, CC, dy, gs, rfl, e2, rfl⟩) (notFirst_self K CC) (fun Q q => ⟨a, _, S, ps, cs, rfl, ha, l1, t1, .inl ⟨b, T, qs, ds, rfl, hb, l2, t2, q⟩⟩) neg Q q)),
    fun neg Q q => .inr (.inl (own_l e2 (.inr ⟨a, CC, dx, fs, rfl, e1, rfl⟩) (notFirst_self K CC) (fun Q q => ⟨b, _, T, qs, ds, rfl, hb, l2, t2, .inl ⟨a, S, ps, cs, rfl, ha, l1, t1, by rw [sw]; exact q⟩⟩) neg Q q))⟩
theorem cmp_cb (ha : CaseAt H CC C a S ps cs) (l1 : LowP ps) (t1 : TxC cs) (hv : BiX H v nm) (far : FarB K CC) : Cmp4 K C CC W H (.ref a) v false := by
  obtain ⟨dx, fs, e1⟩ := ha.ins'
  have key : ∀ Q : VK, Q (.bl false) H → sp_ceqA K CC C [.ref a, v] H Q E0 := fun Q q => ⟨a, _, S, ps, cs, rfl, ha, l1, t1, .inr ⟨hv.oth far, q⟩⟩
  exact ⟨fun neg Q q => .inr (.inl (own_l e1 (.inl hv.ty) (far nm hv.mem).2 key neg Q q)), fun neg Q q => .inr (.inl (own_r e1 hv key neg Q q))⟩
theorem cmp_ww (ha : WantsAt H W C a S ps f) (hb : WantsAt H W C b T qs g) (l1 : LowP ps) (l2 : LowP qs) : Cmp4 K C CC W H (.ref a) (.ref b) (decide (S = T ∧ ps = qs) && S.cps.toList.all fun c => decide (f c = g c)) := by
  obtain ⟨dx, fs, e1⟩ := ha.ins'
  obtain ⟨dy, gs, e2⟩ := hb.ins'
  have sw : (decide (T = S ∧ qs = ps) && T.cps.toList.all fun c => decide (g c = f c)) = (decide (S = T ∧ ps = qs) && S.cps.toList.all fun c => decide (f c = g c)) := by
    by_cases h : S = T ∧ ps = qs
    · obtain ⟨rfl, rfl⟩ := h
      congr 1
      exact List.all_congr rfl fun c => by
        by_cases z : f c = g c
        · rw [decide_eq_true z, decide_eq_true z.symm]
        · rw [decide_eq_false z, decide_eq_false fun q => z q.symm]
    · rw [decide_eq_false h, decide_eq_false fun z => h ⟨z.1.symm, z.2.symm⟩]
      rfl
  refine ⟨fun neg Q q => .inr (.inr (own_l e1 (.inr ⟨b, W, dy, gs, rfl, e2, rfl⟩) (notFirst_self K W) (fun Q q => ⟨a, _, S, ps, f, rfl, ha, l1, .inl ⟨b, T, qs, g, rfl, hb, l2, q⟩⟩) neg Q q)),
    fun neg Q q => .inr (.inr (own_l e2 (.inr ⟨a, W, dx, fs, rfl, e1, rfl⟩) (notFirst_self K W) (fun Q q => ⟨b, _, T, qs, g, rfl, hb, l2, .inl ⟨a, S, ps, f, rfl, ha, l1, by rw [sw]; exact q⟩⟩) neg Q q))⟩
theorem cmp_wb (ha : WantsAt H W C a S ps f) (l1 : LowP ps) (hv : BiX H v nm) (far : FarB K W) : Cmp4 K C CC W H (.ref a) v false := by
  obtain ⟨dx, fs, e1⟩ := ha.ins'
  have key : ∀ Q : VK, Q (.bl false) H → sp_weqA K W C [.ref a, v] H Q E0 := fun Q q => ⟨a, _, S, ps, f, rfl, ha, l1, .inr ⟨hv.oth far, q⟩⟩
  exact ⟨fun neg Q q => .inr (.inr (own_l e1 (.inl hv.ty) (far nm hv.mem).2 key neg Q q)), fun neg Q q => .inr (.inr (own_r e1 hv key neg Q q))⟩
theorem cmp_fc (ha : FontAt H C a S ps) (hb : CaseAt H CC C b T qs ds) (l1 : LowP ps) (l2 : LowP qs) (t2 : TxC ds) (IC : InsT K C) (ICC : InsT K CC) (f1 : FarC K CC C) (f2 : FarC K C CC) : Cmp4 K C CC W H (.ref a) (.ref b) false := by
  obtain ⟨dx, fs, e1⟩ := ha.ins
  obtain ⟨dy, gs, e2⟩ := hb.ins'
  exact ⟨fun neg Q q => .inl (own_l e1 (.inr ⟨b, CC, dy, gs, rfl, e2, rfl⟩) f1.2 (fun Q q => ⟨a, _, S, ps, rfl, ha, l1, .inr ⟨ins_oth ICC e2 f1, q⟩⟩) neg Q q),
    fun neg Q q => .inr (.inl (own_l e2 (.inr ⟨a, C, dx, fs, rfl, e1, rfl⟩) f2.2 (fun Q q => ⟨b, _, T, qs, ds, rfl, hb, l2, t2, .inr ⟨ins_oth IC e1 f2, q⟩⟩) neg Q q))⟩
theorem cmp_wf (ha : WantsAt H W C a S ps f) (hb : FontAt H C b T qs) (l1 : LowP ps) (l2 : LowP qs) (IC : InsT K C) (IW : InsT K W) (f1 : FarC K C W) (f2 : FarC K W C) : Cmp4 K C CC W H (.ref a) (.ref b) false := by
  obtain ⟨dx, fs, e1⟩ := ha.ins'
  obtain ⟨dy, gs, e2⟩ := hb.ins
  exact ⟨fun neg Q q => .inr (.inr (own_l e1 (.inr ⟨b, C, dy, gs, rfl, e2, rfl⟩) f1.2 (fun Q q => ⟨a, _, S, ps, f, rfl, ha, l1, .inr ⟨ins_oth IC e2 f1, q⟩⟩) neg Q q)),
    fun neg Q q => .inl (own_l e2 (.inr ⟨a, W, dx, fs, rfl, e1, rfl⟩) f2.2 (fun Q q => ⟨b, _, T, qs, rfl, hb, l2, .inr ⟨ins_oth IW e1 f2, q⟩⟩) neg Q q)⟩
theorem Cmp4.swap {x y : V} {c : Bool} (h : Cmp4 K C CC W H x y c) : Cmp4 K C CC W H y x c := ⟨h.r, h.l⟩
end
end My
end
section
set_option Elab.async false
set_option linter.all false
set_option maxRecDepth 100000
set_option maxHeartbeats 4000000
namespace My
open PySem PySem.Spec PyProof.Rows L2
def sp_heads (K : PySem.W.Frag) : Sp := fun vs H Q _ => ∃ (a : Addr) (ys : List V) (ps : List (Nat × Nat)), vs = [.ref a] ∧ SqL K H a ys ∧ PairsAt H ps ys ∧ ps.length ≤ 4000 ∧ ∀ H' r, Same H H' → H r = none → H' r = some (.dK (toK (headsAll ps))) → Q (.ref r) H'
abbrev s_heads : Stmt := topS 51
section
variable {P : Program} {w : World} {K : PySem.W.Frag} {mg : Str → Option Value} {base : Heap}
theorem sc_heads : FnScope ["_law_turns", "_law_found", "_law_one", "_law_other"] ["_law_turns"] (defScope s_heads) := ⟨rfl, rfl, rfl, by decide +kernel, rfl, by decide +kernel, by decide +kernel⟩
theorem ok_heads {f : Addr} {fd : FuncData} (F : Fun K "_law_heads" "_law_heads" s_heads f fd) : FnOk P w K mg base CX0 1 f fd ["_law_turns"] (sp_heads K) := by
  refine F.ok sc_heads (fun vs H Q E h => ?_) (fun cdv A outer s H vs Q E hr h => ?_)
  · obtain ⟨a, ys, ps, rfl, _⟩ := h
    rfl
  · obtain ⟨a, ys, ps, rfl, hS, hP, hl, k⟩ := h
    have hu := hu_of hr
    refine ⟨_, pss_cons (ps_set (i := 1) sc_heads.nd rfl (Or.inl rfl) pe_dnew')
      (pss_cons (ps_for PassesOwn.never rfl (pi_list (pv 0)) (pg_tup rfl (pgs_cons (pg_name (i := 2) sc_heads.nd rfl (Or.inl rfl)) (pgs_cons (pg_name (i := 3) sc_heads.nd rfl (Or.inl rfl)) pgs_nil)))
        (pss_cons (ps_dput hu (pv 1) (pv 2) (pv 3) rfl)
        (pss_one (ps_dput hu (pv 1) (pv 3) (pv 2) rfl))))
      (pss_one (ps_ret (pv 1)))), ?_⟩
    intro p H1 n1
    have hpl := hP.length
    refine ⟨_, rfl, a, rfl, ⟨ys, n1.same.seq hS⟩, ?_⟩
    have sm : ∀ i σ H', (∃ o1 o2 : Option V, σ = [some (.ref a), some (.ref p), o1, o2] ∧ Same H H' ∧ H' p = some (.dK (toK (headsAll (ps.take i))))) → SqL K H' a ys := fun i σ H' q => by
      obtain ⟨_, _, _, s, _⟩ := q
      exact s.seq hS
    refine for_list (K := K) (a := a) (xs := ys) (fun i σ H' => ∃ o1 o2 : Option V, σ = [some (.ref a), some (.ref p), o1, o2] ∧ Same H H' ∧ H' p = some (.dK (toK (headsAll (ps.take i)))))
      ⟨none, none, rfl, n1.same, n1.here⟩ (fun i σ H' _ q => sm i σ H' q) ?_ ?_
    · rintro i x σ H2 hx ⟨o1, o2, rfl, s2, h2⟩
      obtain ⟨⟨x1, x2⟩, he, q, rfl, hq⟩ := Paired.at hP hx
      have hil : i < ps.length := (List.getElem?_eq_some_iff.mp he).1
      have nx : headsAll (ps.take (i + 1)) = putN (putN (headsAll (ps.take i)) x1 x2) x2 x1 := by
        rw [List.take_add_one, he]
        exact headsAll_snoc _ _
      have ll := headsAll_le (ps.take i)
      rw [List.length_take] at ll
      have l1 := putN_length (headsAll (ps.take i)) x1 x2
      have hq2 := s2 _ _ hq
      refine ⟨q, _, rfl, SqT.of hq2, rfl, _, _, rfl, _, _, rfl, rfl, ?_⟩
      refine ⟨_, rfl, _, rfl, _, rfl, p, _, rfl, dput_toK x1 x2 h2 (Nat.lt_of_le_of_lt (show (headsAll (ps.take i)).length ≤ 9000 by omega) (by decide)), ?_⟩
      have w3 : Wr H2 p (.dK (toK (putN (headsAll (ps.take i)) x1 x2))) (upd H2 p (.dK (toK (putN (headsAll (ps.take i)) x1 x2)))) := .mk'
      generalize upd H2 p (HO.dK (toK (putN (headsAll (ps.take i)) x1 x2))) = H3 at w3 ⊢
      refine ⟨_, rfl, _, rfl, _, rfl, p, _, rfl, dput_toK x2 x1 w3.here (Nat.lt_of_le_of_lt (show (putN (headsAll (ps.take i)) x1 x2).length ≤ 9000 by omega) (by decide)), ?_⟩
      refine ⟨_, _, rfl, Same.wr (Same.wr s2 n1.free w3) n1.free .mk', ?_⟩
      rw [upd_same, nx]
    · rintro σ H2 ⟨o1, o2, rfl, s2, h2⟩
      rw [← hpl, List.take_length] at h2
      exact ⟨_, rfl, k _ _ s2 n1.free h2⟩
end
end My
end
section
set_option Elab.async false
set_option linter.all false
set_option maxRecDepth 100000
set_option maxHeartbeats 4000000
/-! Qofm: fonts that differ. -/
namespace My
open PySem PySem.Spec PyProof.Rows L2
/-! ### the mathematics -/
theorem due_mem {S : Str} {h : List (Nat × Nat)} {e : Nat × Nat} : e ∈ dueOf S h ↔ e.1 ∈ S.cps.toList ∧ headOf h e.1 = some e.2 ∧ S.cps.toList.idxOf e.1 ≤ S.cps.toList.idxOf e.2 := by
  unfold dueOf
  rw [List.mem_filter, List.mem_map]
  constructor
  · rintro ⟨⟨c, hc, rfl⟩, hle⟩
    obtain ⟨h1, h2⟩ := List.mem_filter.mp hc
    obtain ⟨b, hb⟩ := Option.isSome_iff_exists.mp h2
    rw [hb] at hle
    exact ⟨h1, by show headOf h c = some ((headOf h c).getD 0); rw [hb]; rfl, by show _ ≤ S.cps.toList.idxOf ((headOf h c).getD 0); rw [hb]; exact of_decide_eq_true hle⟩
  · rintro ⟨h1, h2, h3⟩
    refine ⟨⟨e.1, List.mem_filter.mpr ⟨h1, by rw [h2]; rfl⟩, ?_⟩, decide_eq_true h3⟩
    rw [h2]
    rfl
theorem due_ne {S : Str} {h1 h2 : List (Nat × Nat)} {x y : Nat} (hx : x ∈ S.cps.toList) (hy : y ∈ S.cps.toList) (a : headOf h1 x = some y) (b : headOf h1 y = some x) (c : headOf h2 x = none) (d : headOf h2 y = none) : dueOf S h1 ≠ dueOf S h2 := fun e => by
  rcases Nat.le_total (S.cps.toList.idxOf x) (S.cps.toList.idxOf y) with q | q
  · have m : (x, y) ∈ dueOf S h1 := due_mem.mpr ⟨hx, a, q⟩
    rw [e] at m
    have := (due_mem.mp m).2.1
    rw [c] at this
    cases this
  · have m : (y, x) ∈ dueOf S h1 := due_mem.mpr ⟨hy, b, q⟩
    rw [e] at m
    have := (due_mem.mp m).2.1
    rw [d] at this
    cases this
theorem head_none {ps : List (Nat × Nat)} {c : Nat} (h : c ∉ ps.flatMap spread) : headOf (headsAll ps) c = none := by
  cases e : headOf (headsAll ps) c with
  | none => rfl
  | some b => exact absurd (heads_dom ps c b e).1 h
theorem head_not {ps : List (Nat × Nat)} {c : Nat} (nd : (ps.flatMap spread).Nodup) (h : headOf (headsAll ps) c = none) : c ∉ ps.flatMap spread := fun m => by
  obtain ⟨e, he, hc⟩ := List.mem_flatMap.mp m
  rcases mem_spread.mp hc with q | q
  · have := (heads_iff ps nd c e.2).mpr (.inl (q ▸ he))
    rw [h] at this
    cases this
  · have := (heads_iff ps nd c e.1).mpr (.inr (q ▸ he))
    rw [h] at this
    cases this
theorem cps_eq {S T : Str} (h : S.cps.toList = T.cps.toList) : S = T := by
  rw [← mkS_self S, ← mkS_self T, h]
/-- turned round by one -/
theorem rot_good {S T : Str} {ps : List (Nat × Nat)} (g : Good 10 S ps) (h : T.cps.toList = S.cps.toList.drop 1 ++ S.cps.toList.take 1) : Good 10 T ps ∧ S ≠ T := by
  have zl : S.cps.toList.length = S.length := Array.length_toList
  have zt : T.cps.toList.length = T.length := Array.length_toList
  have lo := g.lo
  have hi := g.hi
  have perm : T.cps.toList.Perm S.cps.toList := by
    rw [h]
    have := List.perm_append_comm (l₁ := S.cps.toList.drop 1) (l₂ := S.cps.toList.take 1)
    rw [List.take_append_drop] at this
    exact this
  have pl := perm.length_eq
  refine ⟨⟨by omega, by omega, perm.nodup_iff.mpr g.nd, fun c hc => g.ab c (perm.mem_iff.mp hc), g.tnd, fun c hc => perm.mem_iff.mpr (g.tin c hc)⟩, fun e => ?_⟩
  rw [← e] at h
  have nd := g.nd
  match hS : S.cps.toList, h, nd with
  | [], _, _ => rw [hS, List.length_nil] at zl; omega
  | [x], _, _ => rw [hS] at zl; simp at zl; omega
  | x :: y :: r, h, nd =>
    have h : x :: y :: r = (y :: r) ++ [x] := h
    have q : x = y := by
      have := congrArg List.head? h
      simpa using this
    rw [q] at nd
    exact (List.nodup_cons.mp nd).1 List.mem_cons_self
/-- the last sign is another one -/
theorem last_good {S T : Str} {ps : List (Nat × Nat)} {x : Nat} (g : Good 10 S ps) (hx : x ∉ S.cps.toList) (ha : x ∈ alphabet.cps.toList) (h : T.cps.toList = S.cps.toList.take (S.length - 1) ++ [x]) : Good 10 T [] ∧ S ≠ T := by
  have zl : S.cps.toList.length = S.length := Array.length_toList
  have zt : T.cps.toList.length = T.length := Array.length_toList
  have lo := g.lo
  have hi := g.hi
  have tl : T.cps.toList.length = S.length := by
    rw [h, List.length_append, List.length_take, List.length_cons, List.length_nil]
    omega
  refine ⟨⟨by omega, by omega, ?_, fun c hc => ?_, List.nodup_nil, fun c hc => by cases hc⟩, fun e => ?_⟩
  · rw [h, List.nodup_append]
    exact ⟨g.nd.sublist (List.take_sublist _ _), by simp, fun a ha b hb e => hx (by
      have : b = x := by simpa using hb
      rw [← this, ← e]
      exact List.mem_of_mem_take ha)⟩
  · rw [h] at hc
    rcases List.mem_append.mp hc with hc | hc
    · exact g.ab c (List.mem_of_mem_take hc)
    · have : c = x := by simpa using hc
      exact this ▸ ha
  · refine hx ?_
    rw [e, h]
    exact List.mem_append_right _ List.mem_cons_self
/-- one more turn, of a sign with itself -/
theorem more_good {S : Str} {ps : List (Nat × Nat)} {b : Nat} (g : Good 10 S ps) (hb : b ∈ S.cps.toList) (hn : headOf (headsAll ps) b = none) : Good 10 S (ps ++ [(b, b)]) ∧ dueOf S (headsAll ps) ≠ dueOf S (headsAll (ps ++ [(b, b)])) := by
  have nb := head_not g.tnd hn
  have fl : (ps ++ [(b, b)]).flatMap spread = ps.flatMap spread ++ [b] := by
    rw [List.flatMap_append]
    congr 1
    show spread (b, b) ++ [] = [b]
    unfold spread
    rw [if_pos rfl]
    rfl
  have nd : ((ps ++ [(b, b)]).flatMap spread).Nodup := by
    rw [fl, List.nodup_append]
    exact ⟨g.tnd, by simp, fun a ha c hc e => nb (by
      have : c = b := by simpa using hc
      rw [← this, ← e]
      exact ha)⟩
  have hh : headOf (headsAll (ps ++ [(b, b)])) b = some b := (heads_iff _ nd b b).mpr (.inl (List.mem_append_right _ List.mem_cons_self))
  refine ⟨⟨g.lo, g.hi, g.nd, g.ab, nd, fun c hc => ?_⟩, (due_ne hb hb hh hh hn hn).symm⟩
  rw [fl] at hc
  rcases List.mem_append.mp hc with hc | hc
  · exact g.tin c hc
  · have : c = b := by simpa using hc
    exact this ▸ hb
/-- without the first turn -/
theorem less_good {S : Str} {e : Nat × Nat} {ps : List (Nat × Nat)} (g : Good 10 S (e :: ps)) : Good 10 S ps ∧ dueOf S (headsAll (e :: ps)) ≠ dueOf S (headsAll ps) := by
  have fl : (e :: ps).flatMap spread = spread e ++ ps.flatMap spread := List.flatMap_cons
  have nd := g.tnd
  rw [fl, List.nodup_append] at nd
  obtain ⟨n1, n2, n3⟩ := nd
  have i1 : e.1 ∈ spread e := mem_spread.mpr (.inl rfl)
  have i2 : e.2 ∈ spread e := mem_spread.mpr (.inr rfl)
  have a := (heads_iff _ g.tnd e.1 e.2).mpr (.inl List.mem_cons_self)
  have b := (heads_iff _ g.tnd e.2 e.1).mpr (.inr List.mem_cons_self)
  have c1 := head_none (ps := ps) (c := e.1) fun m => n3 _ i1 _ m rfl
  have c2 := head_none (ps := ps) (c := e.2) fun m => n3 _ i2 _ m rfl
  refine ⟨⟨g.lo, g.hi, g.nd, g.ab, n2, fun c hc => g.tin c ?_⟩, due_ne (g.tin _ ?_) (g.tin _ ?_) a b c1 c2⟩
  · rw [fl]; exact List.mem_append_right _ hc
  · rw [fl]; exact List.mem_append_left _ i1
  · rw [fl]; exact List.mem_append_left _ i2
def pool21 : Str := "0123456789abcdefghijk"
theorem pool_ab : ∀ c ∈ pool21.cps.toList, c ∈ alphabet.cps.toList := by decide +kernel
theorem pool_nd : pool21.cps.toList.Nodup := by decide +kernel
theorem pool_free {S : Str} (h : S.length ≤ 10) : (pool21.cps.toList.filter fun c => !decide (c ∈ S.cps.toList)) ≠ [] := fun e => by
  have zl : S.cps.toList.length = S.length := Array.length_toList
  have : pool21.cps.toList.length ≤ S.cps.toList.length := nodup_len pool_nd fun x hx => by
    have := List.filter_eq_nil_iff.mp e x hx
    simpa using this
  have pl : pool21.cps.toList.length = 21 := by decide +kernel
  omega
theorem cut_one (S : Str) : (cutS S none (some (1 : Int))).cps.toList = S.cps.toList.take 1 := by
  have zl : S.cps.toList.length = S.length := Array.length_toList
  show (((S.cps.toList.drop (HT.sIx S.length 0 none)).take (HT.sIx S.length S.length (some ((1 : Nat) : Int)) - HT.sIx S.length 0 none)).toArray).toList = _
  rw [HT.sIx_none, HT.sIx_nat, List.drop_zero, Nat.sub_zero]
  show S.cps.toList.take (min 1 S.length) = _
  rw [← zl, ← List.take_eq_take_min]
theorem cut_last (S : Str) (h : 1 ≤ S.length) : (cutS S none (some (-1 : Int))).cps.toList = S.cps.toList.take (S.length - 1) := by
  have e : HT.sIx S.length S.length (some (-1 : Int)) = S.length - 1 := by
    unfold HT.sIx
    simp
    omega
  show (((S.cps.toList.drop (HT.sIx S.length 0 none)).take (HT.sIx S.length S.length (some (-1 : Int)) - HT.sIx S.length 0 none)).toArray).toList = _
  rw [e, HT.sIx_none, List.drop_zero, Nat.sub_zero]
end My
end
section
set_option Elab.async false
set_option linter.all false
set_option maxRecDepth 100000
set_option maxHeartbeats 4000000
/-! Qofm2: more fonts that differ. -/
namespace My
open PySem PySem.Spec PyProof.Rows L2
/-- the same turns -/
theorem same_good {S : Str} {ps qs : List (Nat × Nat)} (g : Good 10 S ps) (s : SameTurns ps qs) : Good 10 S qs ∧ dueOf S (headsAll ps) = dueOf S (headsAll qs) :=
  ⟨⟨g.lo, g.hi, g.nd, g.ab, s.perm.nodup_iff.mpr g.tnd, fun c hc => g.tin c (s.perm.mem_iff.mp hc)⟩, (due_congr (same_heads s g.tnd)).symm⟩
theorem swap_paired : ∀ ps : List (Nat × Nat), Paired (fun e e' => e' = e ∨ e' = (e.2, e.1)) ps (ps.map fun e => (e.2, e.1))
  | [] => .nil
  | _ :: ps => .cons (.inr rfl) (swap_paired ps)
theorem rev_good {S : Str} {ps : List (Nat × Nat)} (g : Good 10 S ps) : Good 10 S (ps.reverse.map fun e => (e.2, e.1)) ∧ dueOf S (headsAll ps) = dueOf S (headsAll (ps.reverse.map fun e => (e.2, e.1))) :=
  same_good g (same_trans (same_perm (List.reverse_perm ps)) (same_flip (swap_paired ps.reverse)))
/-- the signs the other way round -/
theorem back_good {S T : Str} {ps : List (Nat × Nat)} (g : Good 10 S ps) (h : T.cps.toList = S.cps.toList.reverse) : Good 10 T ps ∧ S ≠ T := by
  have zl : S.cps.toList.length = S.length := Array.length_toList
  have zt : T.cps.toList.length = T.length := Array.length_toList
  have lo := g.lo
  have hi := g.hi
  have perm : T.cps.toList.Perm S.cps.toList := by rw [h]; exact List.reverse_perm _
  have pl := perm.length_eq
  refine ⟨⟨by omega, by omega, perm.nodup_iff.mpr g.nd, fun c hc => g.ab c (perm.mem_iff.mp hc), g.tnd, fun c hc => perm.mem_iff.mpr (g.tin c hc)⟩, fun e => ?_⟩
  rw [← e] at h
  have nd := g.nd
  have h0 : S.cps.toList[0]? = S.cps.toList.reverse[0]? := by rw [← h]
  rw [List.getElem?_reverse (by omega)] at h0
  have h1 : 0 < S.cps.toList.length := by omega
  have h2 : S.cps.toList.length - 1 - 0 < S.cps.toList.length := by omega
  have := (List.getElem?_inj h1 nd).mp h0
  omega
/-- one turn of two signs is taken apart -/
theorem apart_good {S : Str} {x y : Nat} {ps : List (Nat × Nat)} (g : Good 10 S ps) (hm : (x, y) ∈ ps) (hne : x ≠ y) :
    Good 10 S (ps.filter (fun e => !decide (e = (x, y))) ++ [(x, x), (y, y)]) ∧ dueOf S (headsAll ps) ≠ dueOf S (headsAll (ps.filter (fun e => !decide (e = (x, y))) ++ [(x, x), (y, y)])) := by
  obtain ⟨l1, l2, rfl⟩ := List.append_of_mem hm
  have nd := g.tnd
  have fl : (l1 ++ (x, y) :: l2).flatMap spread = l1.flatMap spread ++ (spread (x, y) ++ l2.flatMap spread) := by rw [List.flatMap_append, List.flatMap_cons]
  rw [fl] at nd
  have ix : x ∈ spread (x, y) := mem_spread.mpr (.inl rfl)
  rw [List.nodup_append] at nd
  obtain ⟨n1, n2, n3⟩ := nd
  rw [List.nodup_append] at n2
  obtain ⟨n4, n5, n6⟩ := n2
  have no : ∀ l : List (Nat × Nat), x ∉ l.flatMap spread → l.filter (fun e => !decide (e = (x, y))) = l := fun l hl => List.filter_eq_self.mpr fun e he => by
    have : e ≠ (x, y) := fun z => hl (List.mem_flatMap.mpr ⟨e, he, by rw [z]; exact ix⟩)
    simp [this]
  have x1 : x ∉ l1.flatMap spread := fun m => n3 x m x (List.mem_append_left _ ix) rfl
  have x2 : x ∉ l2.flatMap spread := fun m => n6 x ix x m rfl
  have ef : (l1 ++ (x, y) :: l2).filter (fun e => !decide (e = (x, y))) = l1 ++ l2 := by
    rw [List.filter_append, List.filter_cons_of_neg (by simp), no l1 x1, no l2 x2]
  rw [ef]
  have sp : spread (x, y) = [x, y] := by
    unfold spread
    simp [hne]
  have sx : ∀ a, spread (a, a) = [a] := fun a => by
    unfold spread
    simp
  have fq : ((l1 ++ l2) ++ [(x, x), (y, y)]).flatMap spread = (l1.flatMap spread ++ l2.flatMap spread) ++ [x, y] := by
    rw [List.flatMap_append, List.flatMap_append, List.flatMap_cons, List.flatMap_cons, List.flatMap_nil, sx, sx]
    rfl
  have perm : (((l1 ++ l2) ++ [(x, x), (y, y)]).flatMap spread).Perm ((l1 ++ (x, y) :: l2).flatMap spread) := by
    rw [fq, fl, sp, List.append_assoc]
    exact (List.perm_append_comm (l₁ := l2.flatMap spread) (l₂ := [x, y])).append_left _
  have ndq := perm.nodup_iff.mpr g.tnd
  refine ⟨⟨g.lo, g.hi, g.nd, g.ab, ndq, fun c hc => g.tin c (perm.mem_iff.mp hc)⟩, fun e => ?_⟩
  have hx : x ∈ S.cps.toList := g.tin x (List.mem_flatMap.mpr ⟨_, hm, ix⟩)
  have hy : y ∈ S.cps.toList := g.tin y (List.mem_flatMap.mpr ⟨_, hm, mem_spread.mpr (.inr rfl)⟩)
  have a := (heads_iff _ g.tnd x y).mpr (.inl hm)
  have b := (heads_iff _ g.tnd y x).mpr (.inr hm)
  have c := (heads_iff _ ndq x x).mpr (.inl (List.mem_append_right _ List.mem_cons_self))
  have d := (heads_iff _ ndq y y).mpr (.inl (List.mem_append_right _ (List.mem_cons_of_mem _ List.mem_cons_self)))
  rcases Nat.le_total (S.cps.toList.idxOf x) (S.cps.toList.idxOf y) with q | q
  · have m : (x, y) ∈ dueOf S (headsAll (l1 ++ (x, y) :: l2)) := due_mem.mpr ⟨hx, a, q⟩
    rw [e] at m
    have := (due_mem.mp m).2.1
    rw [c] at this
    exact hne (Option.some.inj this)
  · have m : (y, x) ∈ dueOf S (headsAll (l1 ++ (x, y) :: l2)) := due_mem.mpr ⟨hy, b, q⟩
    rw [e] at m
    have := (due_mem.mp m).2.1
    rw [d] at this
    exact hne (Option.some.inj this).symm
end My
end
section
set_option Elab.async false
set_option linter.all false
set_option maxRecDepth 100000
set_option maxHeartbeats 4000000
/-! B26: a text turned round. -/
namespace My
open PySem PySem.Spec PyProof.Rows L2
def backS (z : Str) : Str := ⟨z.cps.toList.reverse.toArray⟩
def tRevX (te : TE) : TE := fun σ H Q => te σ H fun v H1 => ∃ z : Str, v = .str z ∧ z.length ≤ 1000 ∧ Q (.str (backS z)) H1
theorem pick_all : ∀ (l : List Nat), (List.range l.length).filterMap (l[·]?) = l
  | [] => rfl
  | a :: l => by
    rw [List.length_cons, List.range_succ_eq_map, List.filterMap_cons]
    show a :: _ = _
    rw [List.filterMap_map]
    have : (List.range l.length).filterMap ((fun x => (a :: l)[x]?) ∘ Nat.succ) = (List.range l.length).filterMap (l[·]?) := rfl
    rw [this, pick_all l]
section
variable {X : Cx} {e : Expr} {te : TE} {k : Nat} {p1 p2 p3 pos : Pos}
theorem pe_revX (he : PE X e te) : PE X (.Subscript e (.Slice none none (some (.UnaryOp .USub (.Constant (.int 1) k p1) p2)) p3) pos) (tRevX te) := by
  constructor
  intro pins s σ H Q I want
  apply Subscript_
  apply thn (he.run pins s σ H _ I want)
  rintro v s1 ⟨v', H1, I1, r1, z, rfl, hz, q⟩
  obtain ⟨t, rfl⟩ := r1
  refine back_open I1 fun s4 vs I4 ps => ?_
  have I5 : Inv X pins σ H1 { s4 with heap := s4.heap.push { cls := .type "slice", data := .fields #[.none, .none, vs] } } := I4.kept (t' := s4.toks) fun b ob z => Heap.get?_push_of_some _ z
  obtain ⟨st, rfl, es⟩ := IsPart.raw ps
  refine tail_any (ops := [.str z t, .ref s4.heap.objs.size]) (typeIs_str _ _ _) slot_str_getitem.lookup ?_ (by with_unfolding_all rfl)
  refine wpAny_getItem_str_slice (l := none) (u := none) (st := st) (Heap.IsSliceOf.new _ _ _ _) (by rw [es]; decide) ?_
  cases st with
  | none => cases es
  | some q1 =>
  obtain ⟨i, tk⟩ := q1
  obtain rfl : i = -1 := Option.some.inj es
  have hp : slicePicked z none none (some (-1, tk)) = (List.range z.length).reverse := by
    show PySem.sliceRange ((z.length : Int) - 1) (-1) (-1) = _
    rw [PySem.W.krv_sliceRange, PySem.W.krv_range]
  unfold sliceMade
  rw [hp, if_neg (by simp)]
  have ez : (⟨(((List.range z.length).reverse).filterMap (z.cps[·]?)).toArray⟩ : Str) = backS z := by
    have zl : z.cps.toList.length = z.length := Array.length_toList
    have e1 : ((List.range z.length).reverse).filterMap (z.cps[·]?) = z.cps.toList.reverse := by
      rw [List.filterMap_reverse]
      have : (List.range z.length).filterMap (z.cps[·]?) = z.cps.toList := by
        rw [← zl]
        have := pick_all z.cps.toList
        simpa using this
      rw [this]
    rw [e1]
    rfl
  have le : (⟨(((List.range z.length).reverse).filterMap (z.cps[·]?)).toArray⟩ : Str).length ≤ z.length := by
    show (((List.range z.length).reverse).filterMap (z.cps[·]?)).toArray.size ≤ _
    rw [List.size_toArray]
    refine Nat.le_trans (List.length_filterMap_le _ _) ?_
    rw [List.length_reverse, List.length_range]
    exact Nat.le_refl _
  refine ⟨Nat.le_trans le (Nat.le_trans hz (by decide)), .str _, _, I5.tok _, ⟨_, rfl⟩, ?_⟩
  rw [ez]
  exact q
end
end My
end
section
set_option Elab.async false
set_option linter.all false
set_option maxRecDepth 100000
set_option maxHeartbeats 4000000
namespace My
open PySem PySem.Spec PyProof.Rows L2
/-- xs == [], xs a list of anything -/
def qEqNil (K : PySem.W.Frag) : R2 := fun x y H Q => ∃ a b xs, x = .ref a ∧ y = .ref b ∧ SqL K H a xs ∧ H b = some (.lst []) ∧ Q (.bl xs.isEmpty) H
theorem op_eqNil {X : Cx} (hu : X.A.units < cLine) : OpR X (compareOp .Eq) (qEqNil X.K) := by
  intro pins s σ H x y v u Q I rx ry h
  obtain ⟨a, b, xs, rfl, rfl, ha, hb, q⟩ := h
  cases rx
  cases ry
  obtain ⟨its, r1, p1, _⟩ := I.list ha
  obtain ⟨its2, r2, p2, _⟩ := I.list (SqL.of hb : SqL X.K H b [])
  cases r2
  cases r1 with
  | nil => exact SeqAt.RcAt.lists (e := fun _ => true) p1.isList p2.isList rfl hu (fun j h1 _ => absurd h1 (by simp)) X.prog X.w X.xe _ ⟨.bl _, H, I, rfl, q⟩
  | cons _ _ => exact SeqAt.RcAt.lists_lengths p1.isList p2.isList (by simp) hu X.prog X.w X.xe _ ⟨.bl _, H, I, rfl, q⟩
end My
end
section
set_option Elab.async false
set_option linter.all false
set_option maxRecDepth 100000
set_option maxHeartbeats 4000000
/-! Qofonts: other fonts, and whether they are the same. -/
namespace My
open PySem PySem.Spec PyProof.Rows L2
abbrev s_ofonts : Stmt := topS 61
abbrev sameB (S T : Str) (ps qs : List (Nat × Nat)) : Bool := decide (S = T ∧ dueOf S (headsAll ps) = dueOf T (headsAll qs))
/-- another font at v, and whether it is the same -/
structure OFs (H : Hp) (l : Addr) (S : Str) (ps : List (Nat × Nat)) (v : V) : Prop where
  ex : ∃ q t' b' T ys' qs, v = .ref q ∧ H q = some (.tup [.ref t', .bl (sameB S T ps qs)]) ∧ H t' = some (.tup [.str T, .ref b']) ∧ H b' = some (.lst ys') ∧ b' ≠ l ∧ PairsAt H qs ys' ∧ Good 10 T qs
section
variable {H H1 : Hp} {l : Addr} {S : Str} {ps : List (Nat × Nat)} {v : V}
theorem OFs.same (s : Same H H1) (h : OFs H l S ps v) : OFs H1 l S ps v := by
  obtain ⟨q, t', b', T, ys', qs, e, h0, h1, h2, h3, h4, h5⟩ := h.ex
  exact ⟨q, t', b', T, ys', qs, e, s _ _ h0, s _ _ h1, s _ _ h2, h3, h4.same s, h5⟩
theorem OFs.wr {xs : List V} {o : HO} (hl : H l = some (.lst xs)) (w : Wr H l o H1) (h : OFs H l S ps v) : OFs H1 l S ps v := by
  obtain ⟨q, t', b', T, ys', qs, e, h0, h1, h2, h3, h4, h5⟩ := h.ex
  exact ⟨q, t', b', T, ys', qs, e, (w.els _ (ne_of h0 hl (by intro z; cases z))).trans h0, (w.els _ (ne_of h1 hl (by intro z; cases z))).trans h1, (w.els _ h3).trans h2, h3, Paired.map (fun e y hy => by
    obtain ⟨q, e1, e2⟩ := hy
    exact ⟨q, e1, (w.els q (ne_of e2 hl (by intro z; cases z))).trans e2⟩) h4, h5⟩
end
theorem sg_dec (a b : Nat) : decide (sg a = sg b) = decide (a = b) := by
  have h : sg a = sg b ↔ a = b := ⟨fun h => by injection h with h; injection h with h; injection h with h; injection h, fun h => by rw [h]⟩
  by_cases q : a = b
  · rw [decide_eq_true q, decide_eq_true (h.mpr q)]
  · rw [decide_eq_false q, decide_eq_false fun z => q (h.mp z)]
theorem pair_shape {e : Nat × Nat} (h1 : e.1 < 128) (h2 : e.2 < 128) : SeqAt.shaped (pairD e) = true := by
  have a : (pairD e).canLay0 = true := by
    show (PyData.strOk ⟨#[e.1]⟩ && (PyData.strOk ⟨#[e.2]⟩ && true)) = true
    rw [ok_one h1, ok_one h2]
    rfl
  unfold SeqAt.shaped
  rw [a, Bool.true_and]
  exact decide_eq_true (by show 1 ≤ _; decide)
theorem pair_eqv (e d : Nat × Nat) : PyData.eqv (pairD e) (pairD d) = decide (e = d) := by
  have := pairs_eqv [e] [d]
  have h : PyData.eqvAll [pairD e] [pairD d] = (PyData.eqv (pairD e) (pairD d) && true) := rfl
  rw [List.map_cons, List.map_cons, List.map_nil, h, Bool.and_true] at this
  rw [this]
  by_cases q : e = d
  · rw [decide_eq_true q, decide_eq_true (by rw [q])]
  · rw [decide_eq_false q, decide_eq_false fun z => q (by injection z)]
theorem pair_dp {K : PySem.W.Frag} {H : Hp} {q : Addr} {e : Nat × Nat} (h : H q = some (.tup [sg e.1, sg e.2])) : Dp K H (.ref q) (pairD e) := .tup (SqT.of h) (.cons (.str _) (.cons (.str _) .nil))
def sp_ofonts : Sp := fun vs H Q _ => ∃ (x : V) (t1 b : Addr) (S : Str) (ys : List V) (ps : List (Nat × Nat)), vs = [x, .ref t1] ∧ H t1 = some (.tup [.str S, .ref b]) ∧ H b = some (.lst ys) ∧ PairsAt H ps ys ∧ Good 10 S ps ∧
  ∀ H' l us, Same H H' → H l = none → H' l = some (.lst us) → us.length ≤ 10 → (∀ v ∈ us, OFs H' l S ps v) → Q (.ref l) H'
section
variable {P : Program} {w : World} {K : PySem.W.Frag} {mg : Str → Option Value} {base : Heap}
abbrev NOs : List Str := ["_law_pen_here", "_law_font_here", "_law_signs", "_law_turns", "_law_free", "_law_found", "_law_bare", "_law_one", "_law_other", "_law_rest", "_law_sign", "_law_pair"]
theorem sc_ofonts : FnScope NOs ["_law_pen_here", "_law_font_here"] (defScope s_ofonts) := ⟨rfl, rfl, rfl, by decide +kernel, rfl, by decide +kernel, by decide +kernel⟩
abbrev OsX (P : Program) (w : World) (K : PySem.W.Frag) (mg : Str → Option Value) (base : Heap) (f : Addr) (cdv : Value) (A : Around) (outer : List Env) (s : Shared) (H : Hp) (E : XK) : Cx :=
  (cxOf CX0 P w K mg base NOs "_law_other_fonts" (defScope s_ofonts) f cdv A outer s H E).nox
abbrev osSt (i : Nat) : Stmt := nth (defBody s_ofonts) i
abbrev OsR (k : Nat) (f : Addr) (cdv : Value) (A : Around) (s : Shared) : Prop := Room k (A.deeper (envOfC "_law_other_fonts" (defScope s_ofonts) s.heap.objs.size f cdv))
abbrev ss (x : V) (t1 : Addr) (S : Str) (b : Addr) (o4 : Option V) (l : Addr) (o6 o7 o8 o9 o10 o11 : Option V) : L2.St := [some x, some (.ref t1), some (.str S), some (.ref b), o4, some (.ref l), o6, o7, o8, o9, o10, o11]
variable {f : Addr} {cdv : Value} {A : Around} {outer : List Env} {s : Shared} {H0 : Hp} {E : XK}
/-- if bare != []: .. -/
def qOs4 : TS := fun D σ H => ∃ (x : V) (t1 b d6 l : Addr) (S : Str) (ys bs xs : List V) (ps : List (Nat × Nat)) (o4 o7 o8 o9 o10 o11 : Option V), σ = ss x t1 S b o4 l (some (.ref d6)) o7 o8 o9 o10 o11 ∧ H b = some (.lst ys) ∧ b ≠ l ∧ PairsAt H ps ys ∧ Good 10 S ps ∧ H d6 = some (.lst bs) ∧ (∀ v ∈ bs, ∃ c, v = sg c ∧ c ∈ S.cps.toList ∧ headOf (headsAll ps) c = none) ∧ H l = some (.lst xs) ∧ xs.length ≤ 5 ∧ (∀ v ∈ xs, OFs H l S ps v) ∧
  ∀ H' xs', But l H H' → H' l = some (.lst xs') → xs'.length ≤ xs.length + 1 → (∀ v ∈ xs', OFs H' l S ps v) → D.nx σ H'
theorem os4 (hr : OsR 2 f cdv A s) : PS (OsX P w K mg base f cdv A outer s H0 E) (osSt 4) qOs4 := by
  refine PS.weak (ps_if (pt_cmpR (op_neNil hr.units0) (pv 6) (pe_lst' pa_nil) (nomark _))
    (pss_one (ps_expr (pe_bm PySem.F.plainAttrs_list PySem.F.slot_list_append PySem.F.type_list_append mt_append' (pv 5) (pa_cons (pe_tup' (pa_cons (pe_tup' (pa_cons (pv 2) (pa_cons (pe_op op_cat' (pv 3) (pe_lst' (pa_cons (pe_tup' (pa_cons (pe_ix ix_list (pv 6) (pe_un un_neg pe_int) (fun _ _ => rfl)) (pa_cons (pe_ix ix_list (pv 6) (pe_un un_neg pe_int) (fun _ _ => rfl)) pa_nil))) pa_nil))) pa_nil))) (pa_cons pe_bl pa_nil))) pa_nil)))) pss_nil) ?_
  rintro D σ H ⟨x, t1, b, d6, l, S, ys, bs, xs, ps, o4, o7, o8, o9, o10, o11, rfl, hb, bl, hps, hG, h6, hbs, hl, xl, hxs, k⟩
  refine ⟨_, rfl, by show 0 ≤ sizeLine; decide, fun q0 H1 n1 => ⟨d6, q0, bs, rfl, rfl, SqL.of (n1.same _ _ h6), n1.here, _, rfl, ?_⟩⟩
  have s1 := n1.same
  have hl1 := s1 _ _ hl
  cases bs with
  | nil => exact iteF (k H1 xs (.of s1) hl1 (by omega) fun v hv => (hxs v hv).same s1)
  | cons v0 r0 =>
    obtain ⟨bi, vz, hz⟩ : ∃ bi vz, v0 :: r0 = bi ++ [vz] := ⟨(v0 :: r0).dropLast, (v0 :: r0).getLast (by simp), (List.dropLast_concat_getLast _).symm⟩
    have hvz : vz ∈ v0 :: r0 := by rw [hz]; exact List.mem_append_right _ List.mem_cons_self
    obtain ⟨c, rfl, hc, hn⟩ := hbs _ hvz
    have lastv : atI (v0 :: r0) (-1) = some (sg c) := by rw [hz]; exact atI_last _ _
    have h61 := s1 _ _ h6
    have yl : ys.length ≤ 10 := by rw [← hps.length]; exact pairs_len hG
    refine iteT ⟨_, rfl, .inl ⟨rfl, _, SqL.of hl1⟩, _, rfl, _, rfl, _, rfl, 1, rfl, d6, _, _, _, rfl, rfl, SqL.of h61, lastv, _, rfl, 1, rfl, d6, _, _, _, rfl, rfl, SqL.of h61, lastv, by show 2 ≤ sizeLine; decide, fun q2 H2 n2 => ⟨by show 1 ≤ sizeLine; decide, fun q3 H3 n3 => ?_⟩⟩
    have s3 := s1.trans (n2.same.trans n3.same)
    refine ⟨b, q3, ys, _, rfl, rfl, s3 _ _ hb, n3.here, Nat.le_trans (show ys.length + 1 ≤ 20 by omega) (by decide), fun q4 H4 n4 => ⟨by show 2 ≤ sizeLine; decide, fun q5 H5 n5 => ⟨by show 2 ≤ sizeLine; decide, fun q6 H6 n6 => ?_⟩⟩⟩
    have s16 := (n2.same.trans (n3.same.trans (n4.same.trans n5.same))).trans n6.same
    have hl6 := s16 _ _ hl1
    refine ⟨l, xs, _, rfl, rfl, hl6, Nat.lt_of_le_of_lt (show xs.length ≤ 5 by omega) (by decide), fun H7 w7 => ?_⟩
    have q4l : q4 ≠ l := fun z => by
      have := n4.free
      rw [z, (n2.same.trans n3.same) _ _ hl1] at this
      cases this
    have q5l : q5 ≠ l := fun z => by
      have := n5.free
      rw [z, (n2.same.trans (n3.same.trans n4.same)) _ _ hl1] at this
      cases this
    have q6l : q6 ≠ l := ne_of n6.here hl6 (by intro z; cases z)
    refine k H7 _ (((But.of s1).trans (.of s16)).trans w7.but) w7.here (by rw [List.length_append, List.length_cons, List.length_nil]; omega) fun v hv => ?_
    rcases List.mem_append.mp hv with hv | hv
    · exact (((hxs v hv).same s1).same s16).wr hl6 w7
    · rw [List.mem_singleton.mp hv]
      obtain ⟨g1, g2⟩ := more_good hG hc hn
      have hp6 : PairsAt H6 (ps ++ [(c, c)]) (ys ++ [.ref q2]) := Paired.snoc ((hps.same s1).same s16) ⟨q2, rfl, ((n3.same.trans (n4.same.trans n5.same)).trans n6.same) _ _ n2.here⟩
      have eb : sameB S S ps (ps ++ [(c, c)]) = false := decide_eq_false fun z => g2 z.2
      exact ⟨q6, q5, q4, S, _, ps ++ [(c, c)], rfl, by rw [eb]; exact (w7.els _ q6l).trans n6.here, (w7.els _ q5l).trans (n6.same _ _ n5.here), (w7.els _ q4l).trans ((n5.same.trans n6.same) _ _ n4.here), q4l, Paired.map (fun e y hy => by
        obtain ⟨q, e1, e2⟩ := hy
        exact ⟨q, e1, (w7.els q (ne_of e2 hl6 (by intro z; cases z))).trans e2⟩) hp6, g1⟩
/-- for one, other in [..][:1]: .. -/
def qOs5 : TS := fun D σ H => ∃ (x : V) (t1 b l : Addr) (S : Str) (ys xs : List V) (ps : List (Nat × Nat)) (o4 o6 o7 o8 o9 o10 o11 : Option V), σ = ss x t1 S b o4 l o6 o7 o8 o9 o10 o11 ∧ H b = some (.lst ys) ∧ b ≠ l ∧ PairsAt H ps ys ∧ Good 10 S ps ∧ H l = some (.lst xs) ∧ xs.length ≤ 6 ∧ (∀ v ∈ xs, OFs H l S ps v) ∧
  ∀ H' xs' o7 o8 o9 o11, But l H H' → H' l = some (.lst xs') → xs'.length ≤ xs.length + 1 → (∀ v ∈ xs', OFs H' l S ps v) → D.nx (ss x t1 S b o4 l o6 o7 o8 o9 o10 o11) H'
theorem os5 (hr : OsR 2 f cdv A s) : PS (OsX P w K mg base f cdv A outer s H0 E) (osSt 5) qOs5 := by
  have hu64 : (A.deeper (envOfC "_law_other_fonts" (defScope s_ofonts) s.heap.objs.size f cdv)).units + 64 < cLine := by have := hr.un; omega
  refine PS.weak (ps_for PassesOwn.never rfl (pi_list (pe_slice sl_list' (by exact (pe_lc (own := [("_law_pair", 11)]) (g := gName 11) rfl sc_ofonts.nd (pi_list (pv 3)) (blkOk_by (own := [("_law_pair", 11)]) (N := NOs) (sc := defScope s_ofonts) (by decide +kernel))
        (fun _ _ _ _ _ => pg_name (i := 11) sc_ofonts.nd rfl (Or.inl rfl)) (fun _ _ _ _ _ => pts_one (pt_cmpR op_ne (pe_ix (show IxR _ (rIxT K) from ix_tup) (pv 11) pe_int (fun _ _ => rfl)) (pe_ix (show IxR _ (rIxT K) from ix_tup) (pv 11) pe_int (fun _ _ => rfl)) (nomark _))) (fun _ _ _ _ _ => pv 11))) po_none (po_some pe_int)))
      (pg_tup rfl (pgs_cons (pg_name (i := 7) sc_ofonts.nd rfl (Or.inr rfl)) (pgs_cons (pg_name (i := 8) sc_ofonts.nd rfl (Or.inr rfl)) pgs_nil)))
    (pss_cons (ps_setLc (i := 9) (own := [("_law_pair", 11)]) (g := gName 11) rfl sc_ofonts.nd rfl rfl (sw_true rfl rfl rfl (by decide +kernel)) (pi_list (pv 3)) (blkOk_by (own := [("_law_pair", 11)]) (N := NOs) (sc := defScope s_ofonts) (by decide +kernel))
        (fun _ _ _ _ _ => pg_name (i := 11) sc_ofonts.nd rfl (Or.inl rfl)) (fun _ _ _ _ _ => pts_one (pt_cmpR (show OpR _ _ (rNeD K) from op_neD hu64) (pv 11) (pe_tup' (pa_cons (pv 7) (pa_cons (pv 8) pa_nil))) (nomark _))) (fun _ _ _ _ _ => pv 11))
      (pss_one (ps_expr (pe_bm PySem.F.plainAttrs_list PySem.F.slot_list_append PySem.F.type_list_append mt_append' (pv 5) (pa_cons (pe_tup' (pa_cons (pe_tup' (pa_cons (pv 2) (pa_cons (pe_op op_cat' (pv 9) (pe_lst' (pa_cons (pe_tup' (pa_cons (pv 7) (pa_cons (pv 7) pa_nil))) (pa_cons (pe_tup' (pa_cons (pv 8) (pa_cons (pv 8) pa_nil))) pa_nil)))) pa_nil))) (pa_cons pe_bl pa_nil))) pa_nil)))))) ?_
  rintro D σ H ⟨x, t1, b, l, S, ys, xs, ps, o4, o6, o7, o8, o9, o10, o11, rfl, hb, bl, hps, hG, hl, xl, hxs, k⟩
  have yl : ys.length ≤ 10 := by rw [← hps.length]; exact pairs_len hG
  have stab : ∀ (D1 : Addr), H D1 = none → ∀ (e : Nat × Nat) (y : V) (H H' : Hp), (∃ zs, H D1 = some (.lst zs)) → But D1 H H' → (∃ q, y = V.ref q ∧ H q = some (.tup [sg e.1, sg e.2])) → (∃ q, y = V.ref q ∧ H' q = some (.tup [sg e.1, sg e.2])) := by
    rintro D1 _ e y H H' ⟨zs, hz⟩ bt ⟨q, e1, e2⟩
    exact ⟨q, e1, bt _ _ (ne_of e2 hz (by intro z; cases z)) e2⟩
  refine ⟨_, rfl, b, rfl, ⟨_, SqL.of hb⟩, fun D1 hD1 => lc_pair (walk_list (xs := ys)) ps hps.length (fun e => !decide (e.1 = e.2)) (fun e y H' => ∃ q, y = V.ref q ∧ H' q = some (.tup [sg e.1, sg e.2])) (stab D1 hD1) hD1 (fun H' s => SqL.of (s _ _ hb)) (Nat.lt_of_le_of_lt yl (by decide)) (fun x => rfl) ?_ ?_ ?_⟩
  · intro j y e H' C hy he s5 hC
    obtain ⟨e', he', q, rfl, hq⟩ := Paired.at hps hy
    have ee : e' = e := by rw [he] at he'; exact (Option.some.inj he').symm
    subst ee
    have hq5 := s5 _ _ hq
    refine ⟨_, rfl, q, _, _, _, rfl, rfl, SqT.of hq5, at0 _ _, _, rfl, q, _, _, _, rfl, rfl, SqT.of hq5, at1 _ _, rfl, _, rfl, ?_⟩
    rw [sg_dec]
    exact hC H' (Same.refl _)
  · intro j y e H' C hy he _ s5 hC
    obtain ⟨e', he', q, rfl, hq⟩ := Paired.at hps hy
    have ee : e' = e := by rw [he] at he'; exact (Option.some.inj he').symm
    subst ee
    exact ⟨_, rfl, hC H' _ (Same.refl _) ⟨q, rfl, s5 _ _ hq⟩⟩
  intro H1 fs s1 hD1' hP1
  refine ⟨1, rfl, D1, _, rfl, SqL.of hD1', fun r4 H4 n4 => ⟨r4, rfl, ⟨_, SqL.of n4.here⟩, ?_⟩⟩
  have ec : cutV fs none (some (1 : Int)) = fs.take 1 := by
    rw [show (1 : Int) = ((1 : Nat) : Int) from rfl, cutV_to]
  rw [ec] at n4
  have s04 := s1.trans n4.same
  have r4l : r4 ≠ l := fun z => by
    have := n4.free
    rw [z, s1 _ _ hl] at this
    cases this
  refine for_it (walk_list (xs := fs.take 1)) (fun i σ' H' => ∃ (u7 u8 u9 u11 : Option V) (xs' : List V), σ' = ss x t1 S b o4 l o6 u7 u8 u9 o10 u11 ∧ But l H4 H' ∧ H' l = some (.lst xs') ∧ xs'.length ≤ xs.length + i ∧ ∀ v ∈ xs', OFs H' l S ps v)
    ⟨_, _, _, _, xs, rfl, But.refl _, s04 _ _ hl, Nat.le_refl _, fun v hv => (hxs v hv).same s04⟩ (fun i σ' H' _ q => ?_) ?_ ?_
  · obtain ⟨_, _, _, _, _, _, bt, _⟩ := q
    exact SqL.of (bt _ _ r4l n4.here)
  · rintro i y σ' Ha Hb hi ⟨u7, u8, u9, u11, xs', rfl, bt, hl', xl', hxs'⟩ ⟨rfl, hy⟩
    have hi1 : i < 1 := Nat.lt_of_lt_of_le hi (by rw [List.length_take]; exact Nat.min_le_left _ _)
    have hy' : fs[i]? = some y := by
      rw [List.getElem?_take] at hy
      rw [if_pos hi1] at hy
      exact hy
    obtain ⟨e0, he0, q0, rfl, hq0⟩ := Paired.at hP1 hy'
    obtain ⟨em, en⟩ := List.mem_filter.mp (List.mem_of_getElem? he0)
    have en : e0.1 ≠ e0.2 := by simpa using en
    obtain ⟨x0, y0⟩ := e0
    have fl : ∀ {q : Addr} {o : HO}, H4 q = some o → (∀ xs, o ≠ .lst xs) → Hb q = some o := fun {q o} e no => bt _ _ (ne_of e (s04 _ _ hl) (fun z => no _ z)) e
    have hqa : Hb q0 = some (.tup [sg x0, sg y0]) := fl (n4.same _ _ hq0) (fun _ z => by cases z)
    have hba : Hb b = some (.lst ys) := bt _ _ bl (s04 _ _ hb)
    have hpa : PairsAt Hb ps ys := Paired.map (fun e y hy => by
      obtain ⟨q, e1, e2⟩ := hy
      exact ⟨q, e1, fl e2 (fun _ z => by cases z)⟩) (hps.same s04)
    have low : ∀ e ∈ ps, e.1 < 128 ∧ e.2 < 128 := fun e he => ⟨alpha_low' _ (hG.ab _ (hG.tin _ (List.mem_flatMap.mpr ⟨e, he, mem_spread.mpr (.inl rfl)⟩))), alpha_low' _ (hG.ab _ (hG.tin _ (List.mem_flatMap.mpr ⟨e, he, mem_spread.mpr (.inr rfl)⟩)))⟩
    refine ⟨q0, _, rfl, SqT.of hqa, rfl, _, _, rfl, _, _, rfl, rfl, ?_⟩
    have stab2 : ∀ (D1 : Addr), Hb D1 = none → ∀ (e : Nat × Nat) (y : V) (H H' : Hp), (∃ zs, H D1 = some (.lst zs)) → But D1 H H' → (∃ q, y = V.ref q ∧ H q = some (.tup [sg e.1, sg e.2])) → (∃ q, y = V.ref q ∧ H' q = some (.tup [sg e.1, sg e.2])) := by
      rintro D1 _ e y H H' ⟨zs, hz⟩ bt ⟨q, e1, e2⟩
      exact ⟨q, e1, bt _ _ (ne_of e2 hz (by intro z; cases z)) e2⟩
    refine ⟨_, rfl, b, rfl, ⟨_, SqL.of hba⟩, fun D2 hD2 => lc_pair (walk_list (xs := ys)) ps hps.length (fun e => !decide (e = (x0, y0))) (fun e y H' => ∃ q, y = V.ref q ∧ H' q = some (.tup [sg e.1, sg e.2])) (stab2 D2 hD2) hD2 (fun H' s => SqL.of (s _ _ hba)) (Nat.lt_of_le_of_lt yl (by decide)) (fun x => rfl) ?_ ?_ ?_⟩
    · intro j y e H' C hy he s5 hC
      obtain ⟨e', he', q, rfl, hq⟩ := Paired.at hpa hy
      have ee : e' = e := by rw [he] at he'; exact (Option.some.inj he').symm
      subst ee
      have hq5 := s5 _ _ hq
      have le := low _ (List.mem_of_getElem? he)
      have l0 := low _ em
      refine ⟨_, rfl, _, rfl, _, rfl, by show 2 ≤ sizeLine; decide, fun r6 H6 n6 => ⟨pairD e', pairD (x0, y0), pair_dp (n6.same _ _ hq5), pair_dp n6.here, pair_shape le.1 le.2, pair_shape l0.1 l0.2, _, rfl, ?_⟩⟩
      rw [pair_eqv]
      exact hC H6 n6.same
    · intro j y e H' C hy he _ s5 hC
      obtain ⟨e', he', q, rfl, hq⟩ := Paired.at hpa hy
      have ee : e' = e := by rw [he] at he'; exact (Option.some.inj he').symm
      subst ee
      exact ⟨_, rfl, hC H' _ (Same.refl _) ⟨q, rfl, s5 _ _ hq⟩⟩
    intro H5 zs s5 hD2' hP5
    have zl : zs.length ≤ 10 := by
      rw [← Paired.length hP5]
      exact Nat.le_trans (List.length_filter_le _ _) (pairs_len hG)
    have hl5 := s5 _ _ hl'
    refine ⟨_, rfl, .inl ⟨rfl, _, SqL.of hl5⟩, _, rfl, _, rfl, _, rfl, _, rfl, by show 2 ≤ sizeLine; decide, fun qa Ha' na => ⟨_, rfl, _, rfl, by show 2 ≤ sizeLine; decide, fun qb Hb' nb => ⟨by show 2 ≤ sizeLine; decide, fun qc Hc nc => ?_⟩⟩⟩
    have sc := na.same.trans (nb.same.trans nc.same)
    refine ⟨D2, qc, zs, _, rfl, rfl, sc _ _ hD2', nc.here, Nat.le_trans (show zs.length + 2 ≤ 20 by omega) (by decide), fun qd Hd nd => ⟨by show 2 ≤ sizeLine; decide, fun qe He ne => ⟨by show 2 ≤ sizeLine; decide, fun qf Hf nf => ?_⟩⟩⟩
    have s5f := (sc.trans nd.same).trans (ne.same.trans nf.same)
    have hlf := s5f _ _ hl5
    refine ⟨l, xs', _, rfl, rfl, hlf, Nat.lt_of_le_of_lt (show xs'.length ≤ 7 by omega) (by decide), fun H7 w7 => ?_⟩
    have qdl : qd ≠ l := fun z => by
      have := nd.free
      rw [z, sc _ _ hl5] at this
      cases this
    have qel : qe ≠ l := fun z => by
      have := ne.free
      rw [z, (sc.trans nd.same) _ _ hl5] at this
      cases this
    have qfl : qf ≠ l := ne_of nf.here hlf (by intro z; cases z)
    refine ⟨_, _, _, _, _, rfl, ((bt.trans (.of s5)).trans (.of s5f)).trans w7.but, w7.here, by rw [List.length_append, List.length_cons, List.length_nil]; omega, fun v hv => ?_⟩
    rcases List.mem_append.mp hv with hv | hv
    · exact (((hxs' v hv).same s5).same s5f).wr hlf w7
    · rw [List.mem_singleton.mp hv]
      obtain ⟨g1, g2⟩ := apart_good hG em en
      have hpf : PairsAt Hf (ps.filter (fun e => !decide (e = (x0, y0))) ++ [(x0, x0), (y0, y0)]) (zs ++ [.ref qa, .ref qb]) := by
        have h1 : PairsAt Hf (ps.filter (fun e => !decide (e = (x0, y0)))) zs := PairsAt.same s5f hP5
        have h2 := Paired.snoc h1 (a := (x0, x0)) (b := V.ref qa) ⟨qa, rfl, ((nb.same.trans nc.same).trans (nd.same.trans (ne.same.trans nf.same))) _ _ na.here⟩
        have h3 := Paired.snoc h2 (a := (y0, y0)) (b := V.ref qb) ⟨qb, rfl, (nc.same.trans (nd.same.trans (ne.same.trans nf.same))) _ _ nb.here⟩
        rw [List.append_assoc, List.append_assoc] at h3
        exact h3
      have eb : sameB S S ps (ps.filter (fun e => !decide (e = (x0, y0))) ++ [(x0, x0), (y0, y0)]) = false := decide_eq_false fun z => g2 z.2
      exact ⟨qf, qe, qd, S, _, _, rfl, by rw [eb]; exact (w7.els _ qfl).trans nf.here, (w7.els _ qel).trans (nf.same _ _ ne.here), (w7.els _ qdl).trans ((ne.same.trans nf.same) _ _ nd.here), qdl, Paired.map (fun e y hy => by
        obtain ⟨q, e1, e2⟩ := hy
        exact ⟨q, e1, (w7.els q (ne_of e2 hlf (by intro z; cases z))).trans e2⟩) hpf, g1⟩
  · rintro σ' H' ⟨u7, u8, u9, u11, xs', rfl, bt, hl', xl', hxs'⟩
    exact k H' xs' _ _ _ _ ((But.of s04).trans bt) hl' (Nat.le_trans xl' (by rw [List.length_take]; omega)) hxs'
theorem paired_rev {α β : Type} {R : α → β → Prop} : ∀ {l : List α} {r : List β}, Paired R l r → Paired R l.reverse r.reverse
  | _, _, .nil => .nil
  | _, _, .cons h t => by
    rw [List.reverse_cons, List.reverse_cons]
    exact Paired.snoc (paired_rev t) h
theorem paired_swap {H : Hp} : ∀ {l : List (Nat × Nat)} {zs : List V}, Paired (fun (e : Nat × Nat) y => ∃ q, y = V.ref q ∧ H q = some (.tup [sg e.2, sg e.1])) l zs → PairsAt H (l.map fun e => (e.2, e.1)) zs
  | _, _, .nil => .nil
  | _, _, .cons h t => .cons h (paired_swap t)
theorem ok_ofonts {f fH : Addr} {fd fdH : FuncData} (F : Fun K "_law_other_fonts" "_law_other_fonts" s_ofonts f fd) (DH : Def K mg "_law_heads" fH fdH ["_law_turns"]) (GH : FnOk P w K mg base CX0 1 fH fdH ["_law_turns"] (sp_heads K)) :
    FnOk P w K mg base CX0 3 f fd ["_law_pen_here", "_law_font_here"] sp_ofonts := by
  refine F.ok sc_ofonts (fun vs H Q E h => ?_) (fun cdv A outer s H vs Q E hr h => ?_)
  · obtain ⟨x, t1, b, S, ys, ps, rfl, _⟩ := h
    rfl
  · obtain ⟨x, t1, b, S, ys, ps, rfl, ht, hb, hps, hG, k⟩ := h
    have hu := hu_of hr
    have r1 : Room 1 _ := hr.mono (by decide)
    refine ⟨_, pss_cons (ps_asg (pv 1) (pg_tup rfl (pgs_cons (pg_name (i := 2) sc_ofonts.nd rfl (Or.inr rfl)) (pgs_cons (pg_name (i := 3) sc_ofonts.nd rfl (Or.inr rfl)) pgs_nil))))
      (pss_cons (ps_set (i := 4) sc_ofonts.nd rfl (Or.inl rfl) (pe_ix ix_list (by exact (pe_lc (own := [("_law_sign", 10)]) (g := gName 10) rfl sc_ofonts.nd (pi_str pe_str) (blkOk_by (own := [("_law_sign", 10)]) (N := NOs) (sc := defScope s_ofonts) (by decide +kernel))
        (fun _ _ _ _ _ => pg_name (i := 10) sc_ofonts.nd rfl (Or.inl rfl)) (fun _ _ _ _ _ => pts_one (pt_cmpR op_notIn_sign (pv 10) (pv 2) (by rfl))) (fun _ _ _ _ _ => pv 10))) pe_int (fun _ _ => rfl)))
      (pss_cons (ps_set (i := 5) sc_ofonts.nd rfl (Or.inl rfl) (pe_lst' (pa_cons (pe_tup' (pa_cons (pe_tup' (pa_cons (pv 2) (pa_cons (by exact (pe_lc (own := [("_law_pair", 11)]) (g := gName 11) (tt := tYes) rfl sc_ofonts.nd (pi_list (pe_revL (pv 3))) (blkOk_by (own := [("_law_pair", 11)]) (N := NOs) (sc := defScope s_ofonts) (by decide +kernel))
            (fun _ _ _ _ _ => pg_name (i := 11) sc_ofonts.nd rfl (Or.inl rfl)) (fun _ _ _ _ _ => pts_nil) (fun _ _ _ _ _ => show PE _ _ (tTurn K (tVar 11)) from pe_turn (pv 11)))) pa_nil))) (pa_cons pe_bl pa_nil)))
          (pa_cons (pe_tup' (pa_cons (pe_tup' (pa_cons (pe_revX (pv 2)) (pa_cons (pv 3) pa_nil))) (pa_cons pe_bl pa_nil)))
          (pa_cons (pe_tup' (pa_cons (pe_tup' (pa_cons (pe_op op_add_str (pe_slice sl_str (pv 2) po_none (po_some (pe_un un_neg pe_int))) (pv 4)) (pa_cons (pe_lst' pa_nil) pa_nil))) (pa_cons pe_bl pa_nil))) pa_nil)))))
      (pss_cons (ps_setLc (i := 6) (own := [("_law_sign", 10)]) (g := gName 10) rfl sc_ofonts.nd rfl rfl (sw_true rfl rfl rfl (by decide +kernel)) (pi_str (pv 2)) (blkOk_by (own := [("_law_sign", 10)]) (N := NOs) (sc := defScope s_ofonts) (by decide +kernel))
        (fun _ _ _ _ _ => pg_name (i := 10) sc_ofonts.nd rfl (Or.inl rfl)) (fun _ _ _ _ _ => pts_one (pt_cmp (pc_dnotin hu (pv 10) (pe_call (E := E0) GH r1 rfl DH.mgf DH.kp DH.bd .nil pass0 (pa_cons (pv 3) pa_nil))))) (fun _ _ _ _ _ => pv 10))
      (pss_cons (os4 hr) (pss_cons (os5 hr)
      (pss_one (ps_ret (pe_op op_cat' (pv 5) (pe_lst' (pa_cons (pe_tup' (pa_cons (pe_tup' (pa_cons (pv 2) (pa_cons (pe_slice sl_list' (pv 3) (po_some pe_int) po_none) pa_nil))) (pa_cons (pe_cmpR (op_eqNil hr.units0) (pv 3) (pe_lst' pa_nil) (nomark _)) pa_nil))) pa_nil)))))))))), ?_⟩
    have zl : S.cps.toList.length = S.length := Array.length_toList
    have lo := hG.lo
    have hi := hG.hi
    have hzS : S.length ≤ sizeLine := Nat.le_trans hi (by decide)
    have yl : ys.length ≤ 10 := by rw [← hps.length]; exact pairs_len hG
    refine ⟨_, rfl, t1, _, rfl, SqT.of ht, rfl, _, _, rfl, _, _, rfl, rfl, ?_⟩
    -- the free signs
    have pz : pool21.cps.toList.length = (signs pool21).length := by rw [signs_len]; exact Array.length_toList
    refine ⟨pool21, rfl, fun D1 hD1 => lc_pair walk_signs pool21.cps.toList pz (fun ch => !decide (ch ∈ S.cps.toList)) (fun ch y _ => y = sg ch) (fun _ _ _ _ _ _ h => h) hD1 (fun _ _ => trivial) (by rw [signs_len]; decide) (fun x => rfl) ?_ ?_ ?_⟩
    · intro j x ch H' C hx hc s5 hC
      obtain rfl : x = sg ch := by
        unfold signs at hx
        rw [List.getElem?_map, hc] at hx
        exact (Option.some.inj hx).symm
      exact ⟨_, rfl, _, rfl, ch, S, rfl, rfl, _, rfl, hC H' (Same.refl _)⟩
    · intro j x ch H' C hx hc _ s5 hC
      obtain rfl : x = sg ch := by
        unfold signs at hx
        rw [List.getElem?_map, hc] at hx
        exact (Option.some.inj hx).symm
      exact ⟨_, rfl, hC H' _ (Same.refl _) rfl⟩
    intro H1 fs s1 hD1' hP1
    have fs_is := paired_eq hP1
    obtain ⟨x0, r0, hf⟩ : ∃ x0 r0, (pool21.cps.toList.filter fun ch => !decide (ch ∈ S.cps.toList)) = x0 :: r0 := by
      cases e : pool21.cps.toList.filter fun ch => !decide (ch ∈ S.cps.toList) with
      | nil => exact absurd e (pool_free hi)
      | cons a r => exact ⟨a, r, rfl⟩
    have hx0 : x0 ∈ pool21.cps.toList ∧ x0 ∉ S.cps.toList := by
      have : x0 ∈ pool21.cps.toList.filter fun ch => !decide (ch ∈ S.cps.toList) := by rw [hf]; exact List.mem_cons_self
      obtain ⟨m1, m2⟩ := List.mem_filter.mp this
      exact ⟨m1, by simpa using m2⟩
    rw [hf] at fs_is
    have fs0 : fs[0]? = some (sg x0) := by rw [fs_is]; rfl
    refine ⟨D1, _, _, _, rfl, rfl, SqL.of hD1', atI_nat (j := 0) fs0, ?_⟩
    -- the first three fonts
    refine ⟨_, rfl, _, rfl, b, ys, rfl, SqL.of (s1 _ _ hb), fun r2 H2 n2 => ⟨r2, rfl, ⟨_, SqL.of n2.here⟩, fun D2 hD2 => ?_⟩⟩
    have hrev : Paired (fun (e : Nat × Nat) y => ∃ q, y = V.ref q ∧ H2 q = some (.tup [sg e.1, sg e.2])) ps.reverse ys.reverse := paired_rev ((hps.same s1).same n2.same)
    refine lc_pair (walk_list (xs := ys.reverse)) ps.reverse (by rw [List.length_reverse, List.length_reverse]; exact hps.length) (fun _ => true) (fun e y H' => ∃ q, y = V.ref q ∧ H' q = some (.tup [sg e.2, sg e.1])) ?_ hD2 (fun H' s => SqL.of (s _ _ n2.here)) (by rw [List.length_reverse]; exact Nat.lt_of_le_of_lt yl (by decide)) (fun x => rfl) ?_ ?_ ?_
    · rintro e y H H' ⟨zs, hz⟩ bt ⟨q, e1, e2⟩
      exact ⟨q, e1, bt _ _ (ne_of e2 hz (by intro z; cases z)) e2⟩
    · intro j y e H' C hy he s5 hC
      exact hC H' (Same.refl _)
    · intro j y e H' C hy he _ s5 hC
      obtain ⟨e', he', q, rfl, hq⟩ := Paired.at hrev hy
      have ee : e' = e := by rw [he] at he'; exact (Option.some.inj he').symm
      subst ee
      exact ⟨_, rfl, q, _, _, rfl, SqT.of (s5 _ _ hq), fun p6 H6 n6 => hC H6 _ n6.same ⟨p6, rfl, n6.here⟩⟩
    intro H3 zs s3 hD2' hP3
    rw [pv_filter_true] at hP3
    have hp3 := paired_swap hP3
    have s13 := n2.same.trans s3
    have cut3 := cut_last S (by omega)
    have clen : ∀ {z : Str} {l : List Nat} {m : Nat}, z.cps.toList = l → l.length ≤ m → z.length ≤ m := fun {z l m} e h => by
      have : z.cps.toList.length = z.length := Array.length_toList
      rw [← this, e]
      exact h
    have len3 : (cutS S none (some (-1 : Int))).length ≤ 10 := clen cut3 (by rw [List.length_take]; omega)
    refine ⟨by show 2 ≤ sizeLine; decide, fun q4 H4 n4 => ⟨by show 2 ≤ sizeLine; decide, fun q5 H5 n5 => ?_⟩⟩
    refine ⟨_, rfl, S, rfl, Nat.le_trans hi (by decide), _, rfl, by show 2 ≤ sizeLine; decide, fun q6 H6 n6 => ⟨by show 2 ≤ sizeLine; decide, fun q7 H7 n7 => ?_⟩⟩
    refine ⟨_, rfl, 1, rfl, -1, rfl, S, rfl, hzS, _, rfl, _, _, rfl, rfl, Nat.le_trans (show _ + 1 ≤ 20 by show (cutS S none (some (-1 : Int))).length + 1 ≤ 20; omega) (by decide), by show 0 ≤ sizeLine; decide, fun q8 H8 n8 => ⟨by show 2 ≤ sizeLine; decide, fun q9 H9 n9 => ⟨by show 2 ≤ sizeLine; decide, fun q10 H10 n10 => ⟨by show 3 ≤ sizeLine; decide, fun l H11 n11 => ?_⟩⟩⟩⟩
    have k10 : Same H9 H10 := n10.same
    have k9 : Same H8 H10 := n9.same.trans k10
    have k8 : Same H7 H10 := n8.same.trans k9
    have k7 : Same H6 H10 := n7.same.trans k8
    have k6 : Same H5 H10 := n6.same.trans k7
    have k5 : Same H4 H10 := n5.same.trans k6
    have k4 : Same H3 H10 := n4.same.trans k5
    have k3 : Same H H10 := (s1.trans s13).trans k4
    have s11 := n11.same
    have bl : b ≠ l := ne_of_none (k3 _ _ hb) n11.free
    have D2l : D2 ≠ l := ne_of_none (k4 _ _ hD2') n11.free
    have q8l : q8 ≠ l := ne_of_none (k9 _ _ n8.here) n11.free
    obtain ⟨ga1, ga2⟩ := rev_good hG
    obtain ⟨gb1, gb2⟩ := back_good (T := backS S) hG (by show (S.cps.toList.reverse.toArray).toList = _; simp)
    obtain ⟨gc1, gc2⟩ := last_good (T := cutS S none (some (-1 : Int)) ++ ⟨#[x0]⟩) hG hx0.2 (pool_ab _ hx0.1) (by
      show (_ ++ _ : Array Nat).toList = _
      rw [Array.toList_append, cut3])
    have ea : sameB S S ps (ps.reverse.map fun e => (e.2, e.1)) = true := decide_eq_true ⟨rfl, ga2⟩
    have eb : sameB S (backS S) ps ps = false := decide_eq_false fun z => gb2 z.1
    have ec : sameB S (cutS S none (some (-1 : Int)) ++ ⟨#[x0]⟩) ps [] = false := decide_eq_false fun z => gc2 z.1
    have hxs : ∀ v ∈ [V.ref q5, V.ref q7, V.ref q10], OFs H11 l S ps v := by
      intro v hv
      rcases List.mem_cons.mp hv with rfl | hv
      · exact ⟨q5, q4, D2, S, zs, _, rfl, by rw [ea]; exact (k6.trans s11) _ _ n5.here, (k5.trans s11) _ _ n4.here, (k4.trans s11) _ _ hD2', D2l, PairsAt.same (k4.trans s11) hp3, ga1⟩
      rcases List.mem_cons.mp hv with rfl | hv
      · exact ⟨q7, q6, b, backS S, ys, ps, rfl, by rw [eb]; exact (k8.trans s11) _ _ n7.here, (k7.trans s11) _ _ n6.here, (k3.trans s11) _ _ hb, bl, hps.same (k3.trans s11), gb1⟩
      rw [List.mem_singleton.mp hv]
      exact ⟨q10, q9, q8, _, [], [], rfl, by rw [ec]; exact s11 _ _ n10.here, (k10.trans s11) _ _ n9.here, (k9.trans s11) _ _ n8.here, q8l, .nil, gc1⟩
    have s0b := k3.trans s11
    -- the bare ones
    have sz : S.cps.toList.length = (signs S).length := by rw [signs_len]; exact Array.length_toList
    refine ⟨_, rfl, S, rfl, fun D3 hD3 => lc_pair walk_signs S.cps.toList sz (fun ch => !(headOf (headsAll ps) ch).isSome) (fun ch y _ => y = sg ch) (fun _ _ _ _ _ _ h => h) hD3 (fun _ _ => trivial) (by rw [signs_len]; exact Nat.lt_of_le_of_lt hi (by decide)) (fun x => rfl) ?_ ?_ ?_⟩
    · intro j x ch H' C hx hc s5 hC
      obtain rfl : x = sg ch := by
        unfold signs at hx
        rw [List.getElem?_map, hc] at hx
        exact (Option.some.inj hx).symm
      have s05 := s0b.trans s5
      refine ⟨_, rfl, _, rfl, b, ys, ps, rfl, SqL.of (s05 _ _ hb), hps.same s05, Nat.le_trans (pairs_len hG) (by decide), fun H6 r6 s6 f6 h6 => ?_⟩
      refine ⟨r6, _, rfl, dget_toK ch h6, _, rfl, ?_⟩
      have e : ((headOf (headsAll ps) ch).map sg).isSome = (headOf (headsAll ps) ch).isSome := by cases headOf (headsAll ps) ch <;> rfl
      rw [e]
      exact hC H6 s6
    · intro j x ch H' C hx hc _ s5 hC
      obtain rfl : x = sg ch := by
        unfold signs at hx
        rw [List.getElem?_map, hc] at hx
        exact (Option.some.inj hx).symm
      exact ⟨_, rfl, hC H' _ (Same.refl _) rfl⟩
    intro H12 bs s12 hD3' hP12
    have bs_is := paired_eq hP12
    have s0c := s0b.trans s12
    refine ⟨x, t1, b, D3, l, S, ys, bs, _, ps, _, _, _, _, _, _, rfl, s0c _ _ hb, bl, hps.same s0c, hG, hD3', fun v hv => ?_, s12 _ _ n11.here, by show 3 ≤ 5; decide, fun v hv => (hxs v hv).same s12, fun H13 xs13 b13 hl13 len13 hx13 => ?_⟩
    · rw [bs_is] at hv
      obtain ⟨ch, hch, rfl⟩ := List.mem_map.mp hv
      obtain ⟨m1, m2⟩ := List.mem_filter.mp hch
      refine ⟨ch, rfl, m1, ?_⟩
      cases e : headOf (headsAll ps) ch with
      | none => rfl
      | some _ => rw [e] at m2; cases m2
    have len13 : xs13.length ≤ 4 := len13
    have fl : ∀ {q : Addr} {o : HO}, H q = some o → q ≠ l := fun {q o} e => ne_of_none (k3 _ _ e) n11.free
    have B13 : Same H H13 := fun q o e => b13 _ _ (fl e) (s0c _ _ e)
    refine ⟨x, t1, b, l, S, ys, xs13, ps, _, _, _, _, _, _, _, rfl, B13 _ _ hb, bl, hps.same B13, hG, hl13, by omega, hx13, fun H14 xs14 u7 u8 u9 u11 b14 hl14 len14 hx14 => ?_⟩
    have B14 : Same H H14 := fun q o e => b14 _ _ (fl e) (B13 _ _ e)
    have hb14 := B14 _ _ hb
    -- the last font
    refine ⟨_, rfl, _, rfl, _, rfl, 1, rfl, b, _, rfl, SqL.of hb14, fun q15 H15 n15 => ⟨by show 2 ≤ sizeLine; decide, fun q16 H16 n16 => ⟨_, rfl, by show 0 ≤ sizeLine; decide, fun q17 H17 n17 => ?_⟩⟩⟩
    have s1417 := n15.same.trans (n16.same.trans n17.same)
    refine ⟨b, q17, ys, rfl, rfl, SqL.of (s1417 _ _ hb14), n17.here, by show 2 ≤ sizeLine; decide, fun q18 H18 n18 => ⟨by show 1 ≤ sizeLine; decide, fun q19 H19 n19 => ?_⟩⟩
    have s1419 := s1417.trans (n18.same.trans n19.same)
    refine ⟨l, q19, xs14, _, rfl, rfl, s1419 _ _ hl14, n19.here, Nat.le_trans (show xs14.length + 1 ≤ 20 by omega) (by decide), fun r H20 n20 => ?_⟩
    have s1420 := s1419.trans n20.same
    have S20 : Same H H20 := B14.trans s1420
    have r0 : H r = none := by
      cases e : H r with
      | none => rfl
      | some o => have := n20.free; rw [(B14.trans s1419) _ _ e] at this; cases this
    have ne20 : ∀ {q : Addr} {o : HO}, H19 q = some o → q ≠ r := fun e => ne_of_none e n20.free
    refine k H20 r _ S20 r0 n20.here (by rw [List.length_append, List.length_cons, List.length_nil]; omega) fun v hv => ?_
    rcases List.mem_append.mp hv with hv | hv
    · obtain ⟨q, t', b', T, ys', qs, e, h0, h1, h2, h3, h4, h5⟩ := (hx14 v hv).ex
      exact ⟨q, t', b', T, ys', qs, e, s1420 _ _ h0, s1420 _ _ h1, s1420 _ _ h2, ne20 (s1419 _ _ h2), h4.same s1420, h5⟩
    · rw [List.mem_singleton.mp hv]
      have k18 : Same H18 H20 := n19.same.trans n20.same
      have k17 : Same H17 H20 := n18.same.trans k18
      have k16 : Same H16 H20 := n17.same.trans k17
      have k15 : Same H15 H20 := n16.same.trans k16
      cases hps with
      | nil =>
        have e1 : sameB S S [] [] = true := decide_eq_true ⟨rfl, rfl⟩
        have n15' : H15 q15 = some (.lst []) := n15.here
        exact ⟨q18, q16, q15, S, [], [], rfl, by rw [e1]; exact k18 _ _ n18.here, k16 _ _ n16.here, k15 _ _ n15', ne20 ((n16.same.trans (n17.same.trans (n18.same.trans n19.same))) _ _ n15'), .nil, hG⟩
      | @cons e0 y0 ps ys hy0 hps =>
        obtain ⟨g1, g2⟩ := less_good hG
        have e1 : sameB S S (e0 :: ps) ps = false := decide_eq_false fun z => g2 z.2
        have cz : cutV (y0 :: ys) (some (1 : Int)) none = ys := by
          unfold cutV
          have e1 : HT.sIx (y0 :: ys).length 0 (some (1 : Int)) = 1 := by
            show HT.sIx _ 0 (some ((1 : Nat) : Int)) = 1
            rw [HT.sIx_nat, List.length_cons]
            omega
          rw [e1, HT.sIx_none]
          show (ys.take _) = ys
          rw [List.take_of_length_le]
          rw [List.length_cons]
          omega
        rw [cz] at n15
        exact ⟨q18, q16, q15, S, ys, ps, rfl, by rw [e1]; exact k18 _ _ n18.here, k16 _ _ n16.here, k15 _ _ n15.here, ne20 ((n16.same.trans (n17.same.trans (n18.same.trans n19.same))) _ _ n15.here), PairsAt.same S20 hps, g1⟩
end
end My
end
section
set_option Elab.async false
set_option linter.all false
set_option maxRecDepth 100000
set_option maxHeartbeats 4000000
/-! Qcm: counts that differ. -/
namespace My
open PySem PySem.Spec PyProof.Rows L2
theorem ctK_map {a : Str} {v : Int} : ∀ (cs : List (Str × Int)) (k : Str), ctK (cs.map fun e => if e.1 = a then (e.1, v) else e) k = if k = a then (ctK cs k).map (fun _ => v) else ctK cs k
  | [], k => by
    show none = if k = a then none else none
    split <;> rfl
  | e :: cs, k => by
    rw [List.map_cons]
    by_cases h1 : e.1 = a
    · rw [if_pos h1]
      by_cases h2 : e.1 = k
      · rw [ctK_pos (e := (e.1, v)) h2, ctK_pos h2, if_pos (h2.symm.trans h1)]
        rfl
      · rw [ctK_neg (e := (e.1, v)) h2, ctK_neg h2, ctK_map cs k]
    · rw [if_neg h1]
      by_cases h2 : e.1 = k
      · rw [ctK_pos h2, ctK_pos h2, if_neg (fun z => h1 (h2.trans z))]
      · rw [ctK_neg h2, ctK_neg h2, ctK_map cs k]
theorem ctK_some {cs : List (Str × Int)} {a : Str} (h : a ∈ cs.map (·.1)) : ∃ v, ctK cs a = some v := by
  induction cs with
  | nil => cases h
  | cons e cs ih =>
    by_cases q : e.1 = a
    · exact ⟨_, ctK_pos q⟩
    · rw [ctK_neg q]
      rw [List.map_cons] at h
      rcases List.mem_cons.mp h with h | h
      · exact absurd h.symm q
      · exact ih h
theorem ctK_app {a : Str} {v : Int} : ∀ (cs : List (Str × Int)) (k : Str), a ∉ cs.map (·.1) → ctK (cs ++ [(a, v)]) k = if k = a then some v else ctK cs k
  | [], k, _ => by
    by_cases q : a = k
    · rw [List.nil_append, ctK_pos (e := (a, v)) q, if_pos q.symm]
    · rw [List.nil_append, ctK_neg (e := (a, v)) q, if_neg fun z => q z.symm]
  | e :: cs, k, h => by
    rw [List.map_cons] at h
    have h1 : a ≠ e.1 := fun z => h (z ▸ List.mem_cons_self)
    have h2 : a ∉ cs.map (·.1) := fun z => h (List.mem_cons_of_mem _ z)
    rw [List.cons_append]
    by_cases q : e.1 = k
    · rw [ctK_pos q, ctK_pos q, if_neg fun z => h1 (z.symm.trans q.symm)]
    · rw [ctK_neg q, ctK_neg q, ctK_app cs k h2]
theorem gC_put (cs : List (Str × Int)) (a : Str) (v : Int) (k : Str) : gC (putT cs a v) k = if k = a then v else gC cs k := by
  unfold gC putT
  by_cases h : a ∈ cs.map (·.1)
  · rw [if_pos h, ctK_map]
    by_cases q : k = a
    · rw [if_pos q, if_pos q]
      obtain ⟨w, hw⟩ := ctK_some h
      rw [q, hw]
      rfl
    · rw [if_neg q, if_neg q]
  · rw [if_neg h, ctK_app cs k h]
    by_cases q : k = a
    · rw [if_pos q, if_pos q]
      rfl
    · rw [if_neg q, if_neg q]
theorem ordC_pos' {l : List Str} {f g : Str → Int} (h : ∀ k ∈ l, g k = if 0 < f k then f k else 0) : ordC l g = ordC l f := by
  unfold ordC
  induction l with
  | nil => rfl
  | cons a l ih =>
    have h1 := h a List.mem_cons_self
    have h2 := ih fun k hk => h k (List.mem_cons_of_mem _ hk)
    by_cases q : 0 < f a
    · rw [if_pos q] at h1
      rw [List.filter_cons_of_pos (by rw [h1]; exact decide_eq_true q), List.filter_cons_of_pos (by exact decide_eq_true q), List.map_cons, List.map_cons, h1, h2]
    · rw [if_neg q] at h1
      rw [List.filter_cons_of_neg (by rw [h1]; decide), List.filter_cons_of_neg (by simpa using q), h2]
theorem gC_ord' {l : List Str} {f : Str → Int} (nd : l.Nodup) {k : Str} (h : k ∈ l) : gC (ordC l f) k = if 0 < f k then f k else 0 := by
  unfold gC
  rw [ordC_ct nd h]
  by_cases q : 0 < f k
  · rw [if_pos q, if_pos q]; rfl
  · rw [if_neg q, if_neg q]; rfl
theorem csp_ord' {S : Str} {B : Int} {cs : List (Str × Int)} (nd : (ksS S).Nodup) (h : CsP S B cs) : ordC (ksS S) (gC cs) = cs := by
  obtain ⟨f, rfl, _⟩ := h
  exact ordC_pos' fun k hk => gC_ord' nd hk
theorem csp_bd' {S : Str} {B : Int} {cs : List (Str × Int)} (h : CsP S B cs) : ∀ e ∈ cs, 0 < e.2 ∧ e.2 ≤ B := by
  obtain ⟨f, rfl, hf⟩ := h
  intro e he
  obtain ⟨_, h1, h2⟩ := ordC_mem.mp he
  have := hf e.1
  exact ⟨by omega, by omega⟩
theorem gC_bds' {S : Str} {B : Int} {cs : List (Str × Int)} (hB : 0 ≤ B) (h : CsP S B cs) (k : Str) : 0 ≤ gC cs k ∧ gC cs k ≤ B := by
  unfold gC
  cases e : ctK cs k with
  | none => exact ⟨by decide, hB⟩
  | some v =>
    have := csp_bd' h _ (ctK_mem e)
    exact ⟨Int.le_of_lt this.1, this.2⟩
theorem ordC_csp' {S : Str} {f : Str → Int} {B : Int} (hB : 0 ≤ B) (h : ∀ k, f k ≤ B) : CsP S B (ordC (ksS S) f) := ⟨f, rfl, h⟩
/-- one count set anew, then ordered: other counts -/
theorem ord_ne {S : Str} {B : Int} {cs : List (Str × Int)} {f : Str → Int} {k : Str} (nd : (ksS S).Nodup) (h : CsP S B cs) (hk : k ∈ ksS S) (hp : 0 < f k) (ne : f k ≠ gC cs k) : cs ≠ ordC (ksS S) f := fun e => by
  have this : gC cs k = gC (ordC (ksS S) f) k := congrArg (fun c => gC c k) e
  rw [gC_ord' nd hk, if_pos hp] at this
  exact ne this.symm
theorem ordC_drop {f : Str → Int} {a : Str} : ∀ l : List Str, (ordC l f).filter (fun e => !decide (e.1 = a)) = ordC l (fun k => if k = a then 0 else f k) := fun l => by
  unfold ordC
  induction l with
  | nil => rfl
  | cons b l ih =>
    by_cases q : 0 < f b
    · rw [List.filter_cons_of_pos (by exact decide_eq_true q), List.map_cons]
      by_cases z : b = a
      · rw [List.filter_cons_of_neg (by simp [z]), ih, List.filter_cons_of_neg (by simp [z])]
      · rw [List.filter_cons_of_pos (by simp [z]), ih, List.filter_cons_of_pos (by simp [z, q]), List.map_cons]
        show _ = (b, if b = a then 0 else f b) :: _
        rw [if_neg z]
    · rw [List.filter_cons_of_neg (by simpa using q), ih, List.filter_cons_of_neg (by
        by_cases z : b = a
        · simp [z]
        · simp [z, q])]
theorem drop_csp {S : Str} {B : Int} {cs : List (Str × Int)} (a : Str) (hB : 0 ≤ B) (h : CsP S B cs) : CsP S B (cs.filter fun e => !decide (e.1 = a)) := by
  obtain ⟨f, rfl, hf⟩ := h
  refine ⟨fun k => if k = a then 0 else f k, ordC_drop _, fun k => ?_⟩
  show (if k = a then 0 else f k) ≤ B
  by_cases z : k = a
  · rw [if_pos z]; exact hB
  · rw [if_neg z]; exact hf k
theorem drop_ne {cs : List (Str × Int)} {e : Str × Int} (h : e ∈ cs) : cs ≠ cs.filter fun x => !decide (x.1 = e.1) := fun z => by
  rw [z] at h
  have := (List.mem_filter.mp h).2
  simp at this
theorem fmod_big {a : Int} (h0 : 0 ≤ a) (h1 : a ≤ big30) : 1 ≤ a.fmod big30 + 1 ∧ a.fmod big30 + 1 ≤ big30 ∧ a.fmod big30 + 1 ≠ a := by
  have hb : (0 : Int) < big30 := by decide
  have e : a.fmod big30 = a % big30 := Int.fmod_eq_emod_of_nonneg _ (Int.le_of_lt hb)
  rw [e]
  have lo := Int.emod_nonneg a (Int.ne_of_gt hb)
  have hi := Int.emod_lt_of_pos a hb
  refine ⟨by omega, by omega, fun z => ?_⟩
  by_cases q : a = big30
  · rw [q, Int.emod_self] at z
    revert z
    decide
  · have : a < big30 := by omega
    rw [Int.emod_eq_of_lt h0 this] at z
    omega
end My
end
section
set_option Elab.async false
set_option linter.all false
set_option maxRecDepth 100000
set_option maxHeartbeats 4000000
/-! Qocounts: other counts, and whether they are the same. -/
namespace My
open PySem PySem.Spec PyProof.Rows L2
abbrev s_ocounts : Stmt := topS 62
/-- other counts at v, and whether they are the same -/
structure OCt (H : Hp) (S : Str) (cs : List (Str × Int)) (v : V) : Prop where
  ex : ∃ q d' ds, v = .ref q ∧ H q = some (.tup [.ref d', .bl (decide (cs = ds))]) ∧ H d' = some (.dK (toS ds)) ∧ CsP S big30 ds
section
variable {H H1 : Hp} {S : Str} {cs : List (Str × Int)} {v : V}
theorem OCt.same (s : Same H H1) (h : OCt H S cs v) : OCt H1 S cs v := by
  obtain ⟨q, d', ds, e, h0, h1, h2⟩ := h.ex
  exact ⟨q, d', ds, e, s _ _ h0, s _ _ h1, h2⟩
theorem OCt.extL (s : ExtL H H1) (h : OCt H S cs v) : OCt H1 S cs v := by
  obtain ⟨q, d', ds, e, h0, h1, h2⟩ := h.ex
  exact ⟨q, d', ds, e, s _ _ h0 (fun _ z => by cases z), s _ _ h1 (fun _ z => by cases z), h2⟩
theorem OCt.pen {p c : Addr} {n : Nat} (hP : PenAt H p c n) (s : But p H H1) (h : OCt H S cs v) : OCt H1 S cs v := by
  obtain ⟨q, d', ds, e, h0, h1, h2⟩ := h.ex
  exact ⟨q, d', ds, e, s _ _ (hP.neT h0) h0, s _ _ (hP.neK h1) h1, h2⟩
end
def sp_ocounts : Sp := fun vs H Q _ => ∃ (p c t1 d b : Addr) (n : Nat) (S : Str) (cs : List (Str × Int)), vs = [.ref p, .ref t1, .ref d] ∧ PenAt H p c n ∧ n < 2 ^ 50 ∧ H t1 = some (.tup [.str S, .ref b]) ∧ 2 ≤ S.length ∧ S.length ≤ 10 ∧ S.cps.toList.Nodup ∧ 45 ∉ S.cps.toList ∧ H d = some (.dK (toS cs)) ∧ CsP S big30 cs ∧
  ∀ H' l us, DrewP H p c (n + 1) H' → H' l = some (.lst us) → us.length ≤ 10 → (∀ v ∈ us, OCt H' S cs v) → Q (.ref l) H'
section
variable {P : Program} {w : World} {K : PySem.W.Frag} {mg : Str → Option Value} {base : Heap}
abbrev NOc : List Str := ["_law_pen_here", "_law_font_here", "_law_counts", "_law_kind", "_law_more", "_law_found", "_law_one", "_law_goal", "_law_moved", "_law_name"]
theorem sc_ocounts : FnScope NOc ["_law_pen_here", "_law_font_here", "_law_counts"] (defScope s_ocounts) := ⟨rfl, rfl, rfl, by decide +kernel, rfl, by decide +kernel, by decide +kernel⟩
abbrev OcX (P : Program) (w : World) (K : PySem.W.Frag) (mg : Str → Option Value) (base : Heap) (f : Addr) (cdv : Value) (A : Around) (outer : List Env) (s : Shared) (H : Hp) (E : XK) : Cx :=
  (cxOf CX0 P w K mg base NOc "_law_other_counts" (defScope s_ocounts) f cdv A outer s H E).nox
abbrev ocSt (i : Nat) : Stmt := nth (defBody s_ocounts) i
abbrev ocIn (i : Nat) : Stmt := nth (forBody (ocSt 4)) i
abbrev ocIn2 (i : Nat) : Stmt := nth (forBody (ocIn 1)) i
abbrev OcR (k : Nat) (f : Addr) (cdv : Value) (A : Around) (s : Shared) : Prop := Room k (A.deeper (envOfC "_law_other_counts" (defScope s_ocounts) s.heap.objs.size f cdv))
abbrev sc' (p t1 d : Addr) (o3 o4 : Option V) (l : Addr) (o6 o7 o8 o9 : Option V) : L2.St := [some (.ref p), some (.ref t1), some (.ref d), o3, o4, some (.ref l), o6, o7, o8, o9]
variable {f : Addr} {cdv : Value} {A : Around} {outer : List Env} {s : Shared} {H0 : Hp} {E : XK}
/-- found.append((dict(..), False)) -/
def qOcA : TS := fun D σ H => ∃ (p t1 d l : Addr) (S : Str) (cs : List (Str × Int)) (e : Str × Int) (us : List V) (o3 o4 o7 o8 o9 : Option V), σ = sc' p t1 d o3 o4 l (some (.str e.1)) o7 o8 o9 ∧ H d = some (.dK (toS cs)) ∧ CsP S big30 cs ∧ CsB S cs ∧ e ∈ cs ∧ H l = some (.lst us) ∧ us.length ≤ 5 ∧ (∀ v ∈ us, OCt H S cs v) ∧
  ∀ H' v o9, But l H H' → H' l = some (.lst (us ++ [v])) → (∀ x ∈ us ++ [v], OCt H' S cs x) → D.nx (sc' p t1 d o3 o4 l (some (.str e.1)) o7 o8 o9) H'
theorem ocA (td : mg "dict" = none) (hr : OcR 2 f cdv A s) : PS (OcX P w K mg base f cdv A outer s H0 E) (ocIn 0) qOcA := by
  have hu := hu_of hr
  refine PS.weak (ps_expr (pe_bm PySem.F.plainAttrs_list PySem.F.slot_list_append PySem.F.type_list_append mt_append' (pv 5) (pa_cons (pe_tup' (pa_cons (pe_callTy (call_dictP rfl) (by rfl) td (by decide +kernel) (pa_cons (by exact (pe_lock (pe_lc (own := [("_law_name", 9)]) (g := gName 9) rfl sc_ocounts.nd (pi_keys (pv 2)) (blkOk_by (own := [("_law_name", 9)]) (N := NOc) (sc := defScope s_ocounts) (by decide +kernel))
      (fun _ _ _ _ _ => pg_name (i := 9) sc_ocounts.nd rfl (Or.inl rfl)) (fun _ _ _ _ _ => pts_one (pt_cmpR op_ne (pv 9) (pv 6) (nomark _))) (fun _ _ _ _ _ => pe_tup' (pa_cons (pv 9) (pa_cons (pe_dget hu (pv 2) (pv 9) (fun _ _ => rfl)) pa_nil)))))) pa_nil)) (pa_cons pe_bl pa_nil))) pa_nil))) ?_
  rintro D σ H ⟨p, t1, d, l, S, cs, e0, us, o3, o4, o7, o8, o9, rfl, hd, hcs, hc, he0, hl, ul, hus, k⟩
  refine ⟨_, rfl, .inl ⟨rfl, _, SqL.of hl⟩, d, _, hd, trivial, fun od => ?_⟩
  have lk : (upd H d (.frz od (.dK (toS cs)))) d = some (.frz od (.dK (toS cs))) := locked
  have bk : ∀ H', Same (upd H d (.frz od (.dK (toS cs)))) H' → Same H (upd H' d (.dK (toS cs))) := fun H' s => unlock hd s
  generalize upd H d (HO.frz od (.dK (toS cs))) = H1 at lk bk ⊢
  have hz : cs.length = ((toS cs).map fun e => kV e.1).length := by simp [toS]
  have small : ((toS cs).map fun e => kV e.1).length < sizeLine := by rw [← hz]; exact Nat.lt_of_le_of_lt hc.len (by decide)
  refine ⟨_, rfl, d, od, rfl, .inl ⟨_, lk, fun D1 hD1 => ?_⟩⟩
  have nD : D1 ≠ d := fun z => by rw [z, lk] at hD1; cases hD1
  refine lc_pair walk_ks cs hz (fun e => !decide (e.1 = e0.1)) (fun e y H' => ∃ q, y = V.ref q ∧ H' q = some (.tup [.str e.1, .int e.2])) ?_ hD1 (fun H' s => s _ _ lk) small (fun x => rfl) ?_ ?_ ?_
  · rintro e y H H' ⟨zs, hz⟩ bt ⟨q, e1, e2⟩
    exact ⟨q, e1, bt _ _ (ne_of e2 hz (by intro z; cases z)) e2⟩
  · intro j x e H' C hx he s hC
    have ek : x = .str e.1 := by
      rw [toS_ks, List.map_map, List.getElem?_map, he] at hx
      exact (Option.some.inj hx).symm
    subst ek
    refine ⟨_, rfl, _, rfl, rfl, _, rfl, ?_⟩
    have eq : decide (V.str e.1 = V.str e0.1) = decide (e.1 = e0.1) := by
      by_cases q : e.1 = e0.1
      · rw [decide_eq_true q, decide_eq_true (by rw [q])]
      · rw [decide_eq_false q, decide_eq_false fun z => q (by injection z)]
    rw [eq]
    exact hC H' (Same.refl _)
  · intro j x e H' C hx he _ s hC
    have ek : x = .str e.1 := by
      rw [toS_ks, List.map_map, List.getElem?_map, he] at hx
      exact (Option.some.inj hx).symm
    subst ek
    have dg := dget_frzK e.1 (s _ _ lk)
    rw [ctK_nd hc.nd (List.mem_of_getElem? he)] at dg
    exact ⟨_, rfl, _, rfl, _, rfl, d, _, rfl, dg, by show 2 ≤ sizeLine; decide, fun q H6 n6 => hC H6 _ n6.same ⟨q, rfl, n6.here⟩⟩
  intro H5 zs s5 hD5 hP5
  have s05 := bk H5 s5
  refine ⟨s5 _ _ lk, ?_⟩
  have d5 := s5 _ _ lk
  have w6 : Wr H5 d (.dK (toS cs)) (upd H5 d (.dK (toS cs))) := .mk'
  have hD6 : (upd H5 d (.dK (toS cs))) D1 = some (.lst zs) := (w6.els _ nD).trans hD5
  have hE6 : EntAt (upd H5 d (.dK (toS cs))) (cs.filter fun e => !decide (e.1 = e0.1)) zs := Paired.map (fun a y hy => by
    obtain ⟨q', e1, e2⟩ := hy
    exact ⟨q', e1, (w6.els q' (ne_of e2 d5 (by intro z; cases z))).trans e2⟩) hP5
  generalize upd H5 d (HO.dK (toS cs)) = H6 at s05 hD6 hE6 ⊢
  obtain ⟨qs, rfl, hq⟩ := pairs_refs (K := K) (key := fun e : Str × Int => (Sum.inr e.1 : Key)) (val := fun e => .int e.2) hE6
  refine ⟨D1, qs, _, rfl, SqL.of hD6, hq, fun r hr' => ?_⟩
  have esd : ((cs.filter fun e => !decide (e.1 = e0.1)).map (·.1)).Nodup := hc.nd.sublist (List.Sublist.map _ List.filter_sublist)
  have e3 : mergeK [] ((cs.filter fun e => !decide (e.1 = e0.1)).map fun a => ((Sum.inr a.1 : Key), V.int a.2)) = toS (cs.filter fun e => !decide (e.1 = e0.1)) := by
    rw [mergeK_nodup]
    · rfl
    · exact toS_nodup esd
  rw [e3]
  have n7 : New H6 r (.dK (toS (cs.filter fun e => !decide (e.1 = e0.1)))) (upd H6 r (.dK (toS (cs.filter fun e => !decide (e.1 = e0.1))))) := .mk' hr'
  generalize upd H6 r (HO.dK (toS (cs.filter fun e => !decide (e.1 = e0.1)))) = H7 at n7 ⊢
  refine ⟨by show 2 ≤ sizeLine; decide, fun q H8 n8 => ?_⟩
  have s08 := (s05.trans n7.same).trans n8.same
  have hl8 := s08 _ _ hl
  refine ⟨l, us, _, rfl, rfl, hl8, Nat.lt_of_le_of_lt (show us.length ≤ 5 by omega) (by decide), fun H9 w9 => ?_⟩
  have x9 := ExtL.wr hl8 w9
  refine k H9 _ _ ((But.of s08).trans w9.but) w9.here fun v hv => ?_
  rcases List.mem_append.mp hv with hv | hv
  · exact ((hus v hv).same s08).extL x9
  · rw [List.mem_singleton.mp hv]
    have eb : decide (cs = cs.filter fun e => !decide (e.1 = e0.1)) = false := decide_eq_false (drop_ne he0)
    exact OCt.extL x9 ⟨q, r, _, rfl, by rw [eb]; exact n8.here, n8.same _ _ n7.here, drop_csp _ (by decide) hcs⟩
/-- for goal in [..][:1]: .. -/
def qOcB : TS := fun D σ H => ∃ (p t1 d b l : Addr) (S : Str) (cs : List (Str × Int)) (e : Str × Int) (us : List V) (o3 o4 o7 o8 o9 : Option V), σ = sc' p t1 d o3 o4 l (some (.str e.1)) o7 o8 o9 ∧ H t1 = some (.tup [.str S, .ref b]) ∧ S.length ≤ 10 ∧ S.cps.toList.Nodup ∧ 45 ∉ S.cps.toList ∧ H d = some (.dK (toS cs)) ∧ CsP S big30 cs ∧ CsB S cs ∧ e ∈ cs ∧ H l = some (.lst us) ∧ us.length ≤ 6 ∧ (∀ v ∈ us, OCt H S cs v) ∧
  ∀ H' us' o7 o8 o9, But l H H' → H' l = some (.lst us') → us'.length ≤ us.length + 1 → (∀ x ∈ us', OCt H' S cs x) → D.nx (sc' p t1 d o3 o4 l (some (.str e.1)) o7 o8 o9) H'
theorem ocB {fK fO : Addr} {fdK fdO : FuncData} (td : mg "dict" = none) (DK : Def K mg "_law_kinds" fK fdK ["_law_signs"]) (GK : FnOk P w K mg base CX0 1 fK fdK ["_law_signs"] sp_kinds)
    (DO : Def K mg "_law_ordered" fO fdO ["_law_font_here", "_law_counts"]) (GO : FnOk P w K mg base CX0 2 fO fdO ["_law_font_here", "_law_counts"] (sp_ordered K)) (hr : OcR 2 f cdv A s) : PS (OcX P w K mg base f cdv A outer s H0 E) (ocIn 1) qOcB := by
  have hu := hu_of hr
  have r1 : Room 1 _ := hr.mono (by decide)
  refine PS.weak (ps_for PassesOwn.never rfl (pi_list (pe_slice sl_list' (by exact (pe_lc (own := [("_law_name", 9)]) (g := gName 9) rfl sc_ocounts.nd (pi_list (pe_call GK r1 rfl DK.mgf DK.kp DK.bd .nil pass0 (pa_cons (pe_ix ix_tup (pv 1) pe_int (fun _ _ => rfl)) pa_nil))) (blkOk_by (own := [("_law_name", 9)]) (N := NOc) (sc := defScope s_ocounts) (by decide +kernel))
        (fun _ _ _ _ _ => pg_name (i := 9) sc_ocounts.nd rfl (Or.inl rfl)) (fun _ _ _ _ _ => pts_one (PW.pt (pw_and (pt_cmpR op_ne (pv 9) (pv 6) (nomark _)) (pw_and1 (pt_cmpR op_lt (pe_dget2 hu (pv 2) (pv 9) pe_int (by first | exact ⟨rfl, rfl, rfl, rfl⟩ | exact ⟨rfl, rfl, rfl, rfl, rfl⟩)) (pe_op op_pow pe_int pe_int) (nomark _)))))) (fun _ _ _ _ _ => pv 9))) po_none (po_some pe_int)))
      (pg_name (i := 7) sc_ocounts.nd rfl (Or.inl rfl))
    (pss_cons (ps_set (i := 8) sc_ocounts.nd rfl (Or.inl rfl) (pe_callTy call_dictD (by rfl) td (by decide +kernel) (pa_cons (pv 2) pa_nil)))
      (pss_cons (ps_dput hu (pv 8) (pv 7) (pe_op op_add (pe_dget2 hu (pv 2) (pv 7) pe_int (by first | exact ⟨rfl, rfl, rfl, rfl⟩ | exact ⟨rfl, rfl, rfl, rfl, rfl⟩)) pe_int) rfl)
      (pss_cons (ps_dput hu (pv 8) (pv 6) (pe_op op_sub (pe_dget hu (pv 2) (pv 6) (fun _ _ => rfl)) pe_int) rfl)
      (pss_one (ps_expr (pe_bm PySem.F.plainAttrs_list PySem.F.slot_list_append PySem.F.type_list_append mt_append' (pv 5) (pa_cons (pe_tup' (pa_cons (pe_call GO hr rfl DO.mgf DO.kp DO.bd .nil pass0 (pa_cons (pv 1) (pa_cons (pv 8) pa_nil))) (pa_cons pe_bl pa_nil))) pa_nil)))))))) ?_
  rintro D σ H ⟨p, t1, d, b, l, S, cs, e0, us, o3, o4, o7, o8, o9, rfl, ht, hS, nd, no, hd, hcs, hc, he0, hl, ul, hus, k⟩
  refine ⟨_, rfl, t1, _, _, _, rfl, rfl, SqT.of ht, at0 _ _, S, rfl, hS, fun H1 r1 s1 f1 h1 => ?_⟩
  rw [ksS_V] at h1
  have hd1 := s1 _ _ hd
  refine ⟨r1, rfl, ⟨_, SqL.of h1⟩, fun D1 hD1 => lc_pair (walk_list (xs := (ksS S).map V.str)) (ksS S) (by rw [List.length_map]) (fun kk => !decide (kk = e0.1) && decide (gC cs kk < big30)) (fun kk y _ => y = V.str kk) (fun _ _ _ _ _ _ h => h) hD1 (fun H' s => SqL.of (s _ _ h1)) (by rw [List.length_map]; exact Nat.lt_of_le_of_lt (ksS_len hS) (by decide)) (fun x => rfl) ?_ ?_ ?_⟩
  · intro j x kk H' C hx hk s hC
    rw [List.getElem?_map, hk] at hx
    cases hx
    have eq : decide (V.str kk = V.str e0.1) = decide (kk = e0.1) := by
      by_cases q : kk = e0.1
      · rw [decide_eq_true q, decide_eq_true (by rw [q])]
      · rw [decide_eq_false q, decide_eq_false fun z => q (by injection z)]
    refine ⟨_, rfl, _, rfl, rfl, _, rfl, ?_⟩
    rw [eq]
    have hC' := hC H' (Same.refl _)
    by_cases q : kk = e0.1
    · rw [decide_eq_true q] at hC' ⊢
      exact hC'
    · rw [decide_eq_false q] at hC' ⊢
      have g1 := s _ _ hd1
      have e1 : ((ctK cs kk).map V.int).getD (.int 0) = .int (gC cs kk) := by unfold gC; cases ctK cs kk <;> rfl
      refine ⟨_, rfl, d, rfl, .inl ⟨_, .inl g1⟩, _, rfl, _, dget_toS kk g1, ?_⟩
      rw [e1]
      refine ⟨_, _, rfl, rfl, ⟨by decide, by decide, by decide⟩, _, _, rfl, rfl, _, rfl, ?_⟩
      rw [show (10 : Int) ^ (30 : Int).toNat = big30 by decide +kernel]
      exact hC'
  · intro j x kk H' C hx hk _ s hC
    rw [List.getElem?_map, hk] at hx
    cases hx
    exact ⟨_, rfl, hC H' _ (Same.refl _) rfl⟩
  intro H2 gs s2 hD2 hP2
  have gs_is := paired_eq hP2
  refine ⟨1, rfl, D1, _, rfl, SqL.of hD2, fun r4 H4 n4 => ⟨r4, rfl, ⟨_, SqL.of n4.here⟩, ?_⟩⟩
  have ec : cutV gs none (some (1 : Int)) = gs.take 1 := by
    rw [show (1 : Int) = ((1 : Nat) : Int) from rfl, cutV_to]
  rw [ec] at n4
  have s04 := (s1.trans s2).trans n4.same
  have r4l : r4 ≠ l := fun z => by
    have := n4.free
    rw [z, (s1.trans s2) _ _ hl] at this
    cases this
  refine for_it (walk_list (xs := gs.take 1)) (fun i σ' H' => ∃ (u7 u8 u9 : Option V) (xs' : List V), σ' = sc' p t1 d o3 o4 l (some (.str e0.1)) u7 u8 u9 ∧ But l H4 H' ∧ H' l = some (.lst xs') ∧ xs'.length ≤ us.length + i ∧ ∀ v ∈ xs', OCt H' S cs v)
    ⟨_, _, _, us, rfl, But.refl _, s04 _ _ hl, Nat.le_refl _, fun v hv => (hus v hv).same s04⟩ (fun i σ' H' _ q => ?_) ?_ ?_
  · obtain ⟨_, _, _, _, _, bt, _⟩ := q
    exact SqL.of (bt _ _ r4l n4.here)
  · rintro i y σ' Ha Hb hi ⟨u7, u8, u9, xs', rfl, bt, hl', xl', hxs'⟩ ⟨rfl, hy⟩
    have hi1 : i < 1 := Nat.lt_of_lt_of_le hi (by rw [List.length_take]; exact Nat.min_le_left _ _)
    have hy' : gs[i]? = some y := by
      rw [List.getElem?_take] at hy
      rw [if_pos hi1] at hy
      exact hy
    rw [gs_is] at hy'
    rw [List.getElem?_map] at hy'
    obtain ⟨goal, hg, rfl⟩ := Option.map_eq_some_iff.mp hy'
    obtain ⟨gk, gp⟩ := List.mem_filter.mp (List.mem_of_getElem? hg)
    have gp : goal ≠ e0.1 ∧ gC cs goal < big30 := by simpa using gp
    have hda : Hb d = some (.dK (toS cs)) := bt _ _ (ne_of hd hl (by intro z; cases z)) (s04 _ _ hd)
    have hta : Hb t1 = some (.tup [.str S, .ref b]) := bt _ _ (ne_of ht hl (by intro z; cases z)) (s04 _ _ ht)
    refine ⟨_, rfl, d, toS cs, rfl, .inl hda, fun m hm => ?_⟩
    have n5 : New Hb m (.dK (toS cs)) (upd Hb m (.dK (toS cs))) := .mk' hm
    generalize upd Hb m (HO.dK (toS cs)) = H5 at n5 ⊢
    have hd5 := n5.same _ _ hda
    have e1 : ((ctK cs goal).map V.int).getD (.int 0) = .int (gC cs goal) := by unfold gC; cases ctK cs goal <;> rfl
    refine ⟨_, rfl, d, rfl, .inl ⟨_, .inl hd5⟩, _, rfl, _, dget_toS goal hd5, ?_⟩
    rw [e1]
    refine ⟨_, _, rfl, rfl, _, rfl, _, rfl, m, _, rfl, dput_toS n5.here (Nat.lt_of_le_of_lt hc.len (by decide)), ?_⟩
    have w6 : Wr H5 m (.dK (toS (putT cs goal (gC cs goal + 1)))) (upd H5 m (.dK (toS (putT cs goal (gC cs goal + 1))))) := .mk'
    generalize upd H5 m (HO.dK (toS (putT cs goal (gC cs goal + 1)))) = H6 at w6 ⊢
    have dm : d ≠ m := ne_of_none hda hm
    have hd6 := (w6.els d dm).trans hd5
    have dg := dget_toS e0.1 hd6
    rw [ctK_nd hc.nd (show (e0.1, e0.2) ∈ cs from he0)] at dg
    have pl := putT_len cs goal (gC cs goal + 1)
    have cl := hc.len
    refine ⟨_, rfl, _, rfl, d, _, rfl, dg, _, _, rfl, rfl, _, rfl, _, rfl, m, _, rfl, dput_toS w6.here (Nat.lt_of_le_of_lt (show _ ≤ 111 by omega) (by decide)), ?_⟩
    have w7 : Wr H6 m (.dK (toS (putT (putT cs goal (gC cs goal + 1)) e0.1 (e0.2 - 1)))) (upd H6 m (.dK (toS (putT (putT cs goal (gC cs goal + 1)) e0.1 (e0.2 - 1))))) := .mk'
    generalize upd H6 m (HO.dK (toS (putT (putT cs goal (gC cs goal + 1)) e0.1 (e0.2 - 1)))) = H7 at w7 ⊢
    have s7 : Same Hb H7 := fun x o hx => by
      have xm : x ≠ m := ne_of_none hx hm
      exact (w7.els x xm).trans ((w6.els x xm).trans (n5.same _ _ hx))
    refine ⟨_, rfl, .inl ⟨rfl, _, SqL.of (s7 _ _ hl')⟩, _, rfl, _, rfl, t1, m, b, S, _, rfl, SqT.of (s7 _ _ hta), hS, nd, no, w7.here, fun H8 r8 s8 f8 h8 => ⟨by show 2 ≤ sizeLine; decide, fun q9 H9 n9 => ?_⟩⟩
    have s09 := (s7.trans s8).trans n9.same
    have hl9 := s09 _ _ hl'
    refine ⟨l, xs', _, rfl, rfl, hl9, Nat.lt_of_le_of_lt (show xs'.length ≤ 7 by omega) (by decide), fun H10 w10 => ?_⟩
    have x10 := ExtL.wr hl9 w10
    refine ⟨_, _, _, _, rfl, (bt.trans (.of s09)).trans w10.but, w10.here, by rw [List.length_append, List.length_cons, List.length_nil]; omega, fun v hv => ?_⟩
    rcases List.mem_append.mp hv with hv | hv
    · exact ((hxs' v hv).same s09).extL x10
    · rw [List.mem_singleton.mp hv]
      have nk := ksS_nd nd no
      have gv : ∀ kk, gC (putT (putT cs goal (gC cs goal + 1)) e0.1 (e0.2 - 1)) kk = if kk = e0.1 then e0.2 - 1 else if kk = goal then gC cs goal + 1 else gC cs kk := fun kk => by rw [gC_put, gC_put]
      obtain ⟨g0, g1⟩ := gC_bds' (by decide) hcs goal
      have bd : ∀ kk, gC (putT (putT cs goal (gC cs goal + 1)) e0.1 (e0.2 - 1)) kk ≤ big30 := fun kk => by
        rw [gv]
        have e0b := (csp_bd' hcs _ he0).2
        have kb := (gC_bds' (by decide) hcs kk).2
        by_cases z1 : kk = e0.1
        · rw [if_pos z1]; omega
        · rw [if_neg z1]
          by_cases z2 : kk = goal
          · rw [if_pos z2]; omega
          · rw [if_neg z2]; exact kb
      have gg : gC (putT (putT cs goal (gC cs goal + 1)) e0.1 (e0.2 - 1)) goal = gC cs goal + 1 := by rw [gv, if_neg gp.1, if_pos rfl]
      have eb : decide (cs = ordC (ksS S) (gC (putT (putT cs goal (gC cs goal + 1)) e0.1 (e0.2 - 1)))) = false := decide_eq_false (ord_ne nk hcs gk (by rw [gg]; omega) (by rw [gg]; omega))
      exact OCt.extL x10 ⟨q9, r8, _, rfl, by rw [eb]; exact n9.here, n9.same _ _ h8, ordC_csp' (by decide) bd⟩
  · rintro σ' H' ⟨u7, u8, u9, xs', rfl, bt, hl', xl', hxs'⟩
    exact k H' xs' _ _ _ ((But.of s04).trans bt) hl' (Nat.le_trans xl' (by rw [List.length_take]; omega)) hxs'
theorem kinds_posC {S : Str} (h : 1 ≤ S.length) : 0 < (ksS S).length := by
  have : ∀ n, n ≤ (kindsTo S n).length := by
    intro n
    induction n with
    | zero => exact Nat.zero_le _
    | succ n ih =>
      show n + 1 ≤ (kindsTo S n ++ kindsAt S n).length
      rw [List.length_append]
      have : 1 ≤ (kindsAt S n).length := by
        unfold kindsAt
        rw [List.length_map, List.length_append, List.length_cons]
        omega
      omega
  unfold ksS
  rw [List.length_map]
  exact Nat.lt_of_lt_of_le (by omega) (this S.length)
theorem ok_ocounts {f fK fO fP : Addr} {fd fdK fdO fdP : FuncData} (F : Fun K "_law_other_counts" "_law_other_counts" s_ocounts f fd) (T : TB mg) (td : mg "dict" = none)
    (DP : Def K mg "_law_pick" fP fdP ["_law_pen_here", "_law_options"]) (GP : FnOk P w K mg base CX0 2 fP fdP ["_law_pen_here", "_law_options"] (sp_pick K))
    (DK : Def K mg "_law_kinds" fK fdK ["_law_signs"]) (GK : FnOk P w K mg base CX0 1 fK fdK ["_law_signs"] sp_kinds)
    (DO : Def K mg "_law_ordered" fO fdO ["_law_font_here", "_law_counts"]) (GO : FnOk P w K mg base CX0 2 fO fdO ["_law_font_here", "_law_counts"] (sp_ordered K)) :
    FnOk P w K mg base CX0 3 f fd ["_law_pen_here", "_law_font_here", "_law_counts"] sp_ocounts := by
  refine F.ok sc_ocounts (fun vs H Q E h => ?_) (fun cdv A outer s H vs Q E hr h => ?_)
  · obtain ⟨p, c, t1, d, b, n, S, cs, rfl, _⟩ := h
    rfl
  · obtain ⟨p, c, t1, d, b, n, S, cs, rfl, hP, hn, ht, lo, hS, nd, no, hd, hcs, k⟩ := h
    have hu := hu_of hr
    have r1 : Room 1 _ := hr.mono (by decide)
    have hc : CsB S cs := csp_ok hS nd no (by decide +kernel) hcs
    have nk := ksS_nd nd no
    refine ⟨_, pss_cons (ps_set (i := 3) sc_ocounts.nd rfl (Or.inl rfl) (pe_call GP hr rfl DP.mgf DP.kp DP.bd .nil pass0 (pa_cons (pv 0) (pa_cons (pe_call GK r1 rfl DK.mgf DK.kp DK.bd .nil pass0 (pa_cons (pe_ix ix_tup (pv 1) pe_int (fun _ _ => rfl)) pa_nil)) pa_nil))))
      (pss_cons (ps_set (i := 4) sc_ocounts.nd rfl (Or.inl rfl) (pe_callTy call_dictD (by rfl) td (by decide +kernel) (pa_cons (pv 2) pa_nil)))
      (pss_cons (ps_dput hu (pv 4) (pv 3) (pe_op op_add (pe_op op_modN (pe_callTy call_int1 (by rfl) T.int (by decide +kernel) (pa_cons (pe_dget2 hu (pv 2) (pv 3) pe_int (by first | exact ⟨rfl, rfl, rfl, rfl⟩ | exact ⟨rfl, rfl, rfl, rfl, rfl⟩)) pa_nil)) (pe_op op_pow pe_int pe_int)) pe_int) rfl)
      (pss_cons (ps_set (i := 5) sc_ocounts.nd rfl (Or.inl rfl) (pe_lst' (pa_cons (pe_tup' (pa_cons (pv 2) (pa_cons pe_bl pa_nil))) (pa_cons (pe_tup' (pa_cons (pe_call GO hr rfl DO.mgf DO.kp DO.bd .nil pass0 (pa_cons (pv 1) (pa_cons (pv 4) pa_nil))) (pa_cons pe_bl pa_nil))) pa_nil))))
      (pss_cons (ps_for PassesOwn.never rfl (pi_list (pe_slice sl_list' (pe_callTy (call_listDn rfl) (by rfl) T.list (by decide +kernel) (pa_cons (pv 2) pa_nil)) po_none (po_some pe_int))) (pg_name (i := 6) sc_ocounts.nd rfl (Or.inr rfl))
        (pss_cons (ocA td hr) (pss_one (ocB td DK GK DO GO hr))))
      (pss_one (ps_ret (pv 5))))))), ?_⟩
    refine ⟨_, rfl, _, rfl, t1, _, _, _, rfl, rfl, SqT.of ht, at0 _ _, S, rfl, hS, fun H1 r1' s1 f1 h1 => ?_⟩
    rw [ksS_V] at h1
    have kl := ksS_len hS
    have P1 := hP.same s1
    refine ⟨p, c, r1', _, n, rfl, P1, by omega, SqL.of h1, fun z => hP.ne f1 z.symm, by rw [List.length_map]; exact kinds_posC (by omega), by rw [List.length_map]; omega, fun H2 v2 d2 hv2 => ?_⟩
    obtain ⟨kd, hkd, rfl⟩ := List.mem_map.mp hv2
    have bt2 : But p H H2 := (But.of s1).trans d2.but
    have P2 := d2.pen
    have hd2 := bt2 _ _ (hP.neK hd) hd
    have ht2 := bt2 _ _ (hP.neT ht) ht
    refine ⟨_, rfl, d, toS cs, rfl, .inl hd2, fun m hm => ?_⟩
    have n3 : New H2 m (.dK (toS cs)) (upd H2 m (.dK (toS cs))) := .mk' hm
    generalize upd H2 m (HO.dK (toS cs)) = H3 at n3 ⊢
    have hd3 := n3.same _ _ hd2
    have e1 : ((ctK cs kd).map V.int).getD (.int 0) = .int (gC cs kd) := by unfold gC; cases ctK cs kd <;> rfl
    refine ⟨_, rfl, d, rfl, .inl ⟨_, .inl hd3⟩, _, rfl, _, dget_toS kd hd3, ?_⟩
    rw [e1]
    obtain ⟨g0, g1⟩ := gC_bds' (by decide) hcs kd
    obtain ⟨v0, v1, v2'⟩ := fmod_big g0 g1
    have e30 : (10 : Int) ^ (30 : Int).toNat = big30 := by decide +kernel
    refine .inl ⟨_, rfl, _, _, rfl, rfl, ⟨by decide, by decide, by decide⟩, _, _, rfl, rfl, by show (10 : Int) ^ (30 : Int).toNat ≠ 0; rw [e30]; decide, _, _, rfl, rfl, _, rfl, _, rfl, m, _, rfl, dput_toS n3.here (Nat.lt_of_le_of_lt hc.len (by decide)), ?_⟩
    rw [e30]
    generalize hv : (gC cs kd).fmod big30 + 1 = v at v0 v1 v2'
    have w4 : Wr H3 m (.dK (toS (putT cs kd v))) (upd H3 m (.dK (toS (putT cs kd v)))) := .mk'
    generalize upd H3 m (HO.dK (toS (putT cs kd v))) = H4 at w4 ⊢
    have s24 : Same H2 H4 := fun x o hx => (w4.els x (ne_of_none hx hm)).trans (n3.same _ _ hx)
    have ht4 := s24 _ _ ht2
    have hd4 := s24 _ _ hd2
    refine ⟨_, rfl, by show 2 ≤ sizeLine; decide, fun q5 H5 n5 => ⟨_, rfl, _, rfl, t1, m, b, S, _, rfl, SqT.of (n5.same _ _ ht4), hS, nd, no, n5.same _ _ w4.here, fun H6 r6 s6 f6 h6 => ⟨by show 2 ≤ sizeLine; decide, fun q7 H7 n7 => ⟨by show 2 ≤ sizeLine; decide, fun l H8 n8 => ?_⟩⟩⟩⟩
    have s48 := n5.same.trans (s6.trans (n7.same.trans n8.same))
    have s28 := s24.trans s48
    have P8 := P2.same s28
    have s27 := s24.trans (n5.same.trans (s6.trans n7.same))
    have pl : p ≠ l := (P2.same s27).ne n8.free
    have cl : c ≠ l := (P2.same s27).neC n8.free
    have ne8 : ∀ {q : Addr} {o : HO}, H2 q = some o → q ≠ l := fun e => ne_of_none (s27 _ _ e) n8.free
    have hus : ∀ x ∈ [V.ref q5, V.ref q7], OCt H8 S cs x := by
      intro x hx
      rcases List.mem_cons.mp hx with rfl | hx
      · exact ⟨q5, d, cs, rfl, by rw [decide_eq_true rfl]; exact (s6.trans (n7.same.trans n8.same)) _ _ n5.here, s28 _ _ hd2, hcs⟩
      · rw [List.mem_singleton.mp hx]
        have bd : ∀ kk, gC (putT cs kd v) kk ≤ big30 := fun kk => by
          rw [gC_put]
          have kb := (gC_bds' (by decide) hcs kk).2
          by_cases z : kk = kd
          · rw [if_pos z]; exact v1
          · rw [if_neg z]; exact kb
        have gg : gC (putT cs kd v) kd = v := by rw [gC_put, if_pos rfl]
        have eb : decide (cs = ordC (ksS S) (gC (putT cs kd v))) = false := decide_eq_false (ord_ne nk hcs hkd (by rw [gg]; omega) (by rw [gg]; exact v2'))
        exact ⟨q7, r6, _, rfl, by rw [eb]; exact n8.same _ _ n7.here, (n7.same.trans n8.same) _ _ h6, ordC_csp' (by decide) bd⟩
    -- the first of the counts
    have hd8 := s28 _ _ hd2
    refine ⟨_, rfl, d, toS cs, rfl, hd8, fun a9 H9 n9 => ⟨1, rfl, a9, _, rfl, SqL.of n9.here, fun r10 H10 n10 => ⟨r10, rfl, ⟨_, SqL.of n10.here⟩, ?_⟩⟩⟩
    have ec : cutV ((toS cs).map fun kv => kV kv.1) none (some (1 : Int)) = ((cs.map (·.1)).take 1).map V.str := by
      rw [toS_ks, show (1 : Int) = ((1 : Nat) : Int) from rfl, cutV_to, List.map_take]
    rw [ec] at n10
    have s810 := n9.same.trans n10.same
    have s210 := s28.trans s810
    have hl8 := n8.here
    have r10l : r10 ≠ l := fun z => by
      have := n10.free
      rw [z, n9.same _ _ hl8] at this
      cases this
    refine for_it (walk_list (xs := ((cs.map (·.1)).take 1).map V.str)) (fun i σ' H' => ∃ (o3 o4 u6 u7 u8 u9 : Option V) (xs' : List V), σ' = sc' p t1 d o3 o4 l u6 u7 u8 u9 ∧ But l H10 H' ∧ H' l = some (.lst xs') ∧ xs'.length ≤ 2 + 2 * i ∧ ∀ v ∈ xs', OCt H' S cs v)
      ⟨_, _, _, _, _, _, _, rfl, But.refl _, s810 _ _ hl8, Nat.le_refl _, fun v hv => (hus v hv).same s810⟩ (fun i σ' H' _ q => ?_) ?_ ?_
    · obtain ⟨_, _, _, _, _, _, _, _, bt, _⟩ := q
      exact SqL.of (bt _ _ r10l n10.here)
    · rintro i y σ' Ha Hb hi ⟨o3, o4, u6, u7, u8, u9, xs', rfl, bt, hl', xl', hxs'⟩ ⟨rfl, hy⟩
      have hi1 : i < 1 := Nat.lt_of_lt_of_le hi (by rw [List.length_map, List.length_take]; exact Nat.min_le_left _ _)
      rw [List.getElem?_map] at hy
      obtain ⟨z, hz, rfl⟩ := Option.map_eq_some_iff.mp hy
      have hzm : z ∈ cs.map (·.1) := List.mem_of_mem_take (List.mem_of_getElem? hz)
      obtain ⟨e0, he0, rfl⟩ := List.mem_map.mp hzm
      have hda := bt _ _ (ne8 hd2) (s210 _ _ hd2)
      have hta := bt _ _ (ne8 ht2) (s210 _ _ ht2)
      refine ⟨p, t1, d, l, S, cs, e0, xs', _, _, _, _, _, rfl, hda, hcs, hc, he0, hl', by omega, hxs', fun H11 v u9' b11 hl11 hx11 => ?_⟩
      have hda11 := b11 _ _ (ne8 hd2) hda
      have hta11 := b11 _ _ (ne8 ht2) hta
      refine ⟨p, t1, d, b, l, S, cs, e0, _, _, _, _, _, _, rfl, hta11, hS, nd, no, hda11, hcs, hc, he0, hl11, by rw [List.length_append, List.length_cons, List.length_nil]; omega, hx11, fun H12 us12 w7 w8 w9 b12 hl12 ul12 hx12 => ?_⟩
      rw [List.length_append, List.length_cons, List.length_nil] at ul12
      exact ⟨_, _, _, _, _, _, us12, rfl, (bt.trans b11).trans b12, hl12, by omega, hx12⟩
    · rintro σ' H' ⟨o3, o4, u6, u7, u8, u9, xs', rfl, bt, hl', xl', hxs'⟩
      have len1 : (((cs.map (·.1)).take 1).map V.str).length ≤ 1 := by rw [List.length_map, List.length_take]; omega
      have P' : PenAt H' p c (n + 1) := PenAt.butL bt pl cl (P8.same s810)
      have B : But p H H' := fun x o hx e => by
        have h2 := bt2 x o hx e
        exact bt _ _ (ne8 h2) (s210 _ _ h2)
      exact ⟨_, rfl, k H' l xs' ⟨B, P'⟩ hl' (by omega) hxs'⟩
end
end My
end
section
set_option Elab.async false
set_option linter.all false
set_option maxRecDepth 100000
set_option maxHeartbeats 4000000
namespace My
open PySem PySem.Spec PyProof.Rows L2 LamX
abbrev s_law : Stmt := topS 63
abbrev outLoop : Stmt := nth (defBody s_law) 1
abbrev lawSt (i : Nat) : Stmt := nth (forBody outLoop) i
abbrev lamQ : Str := (envOfC "law" (defScope s_law) 0 0 .none).qual ++ "<lambda>"
def sp_law (K : PySem.W.Frag) (PL : Addr) : Sp := fun vs H Q _ => ∃ (a : Addr) (ns : List Int), vs = [.ref a] ∧ SqL K H a (ns.map V.int) ∧ ns.length ≤ 63 ∧ Tabs [(PL, lamQ)] H ∧ ∀ H', Q (.bl true) H'
end My
end
section
set_option Elab.async false
set_option linter.all false
set_option maxRecDepth 100000
set_option maxHeartbeats 4000000
namespace My
open PySem PySem.Spec PyProof.Rows L2 LamX
abbrev LN : List Str := ["_law_script", "_law_pen_here", "_law_turn", "_law_font_here", "_law_counts", "_law_made_here", "_law_board", "_law_fonts", "_law_some", "_law_numbers", "_law_wanted", "_law_sign", "_law_more", "_law_one", "_law_goal", "_law_moved", "_law_other", "_law_is_same", "_law_name"]
theorem sc_law : FnScope LN ["_law_script"] (defScope s_law) := ⟨rfl, rfl, rfl, by decide +kernel, rfl, by decide +kernel, by decide +kernel⟩
abbrev LX (P : Program) (w : World) (K : PySem.W.Frag) (mg : Str → Option Value) (base : Heap) (f : Addr) (cdv : Value) (A : Around) (outer : List Env) (s : Shared) (H : Hp) (E : XK) : Cx :=
  (cxOf CX0 P w K mg base LN "law" (defScope s_law) f cdv A outer s H E).nox
abbrev LR (k : Nat) (f : Addr) (cdv : Value) (A : Around) (s : Shared) : Prop := Room k (A.deeper (envOfC "law" (defScope s_law) s.heap.objs.size f cdv))
/-- the slots of the law: the pen's, and the others -/
abbrev sl (o0 : Option V) (p : Addr) (o2 o3 o4 o5 o6 o7 o8 o9 o10 o11 o12 o13 o14 o15 o16 o17 o18 : Option V) : L2.St := [o0, some (.ref p), o2, o3, o4, o5, o6, o7, o8, o9, o10, o11, o12, o13, o14, o15, o16, o17, o18]
theorem e30'' : (10 : Int) ^ (30 : Int).toNat = big30 := by decide +kernel
theorem p30'' : CPow 10 30 := ⟨by decide, by decide, by decide⟩
theorem good_lowS {m : Nat} {S : Str} {ps : List (Nat × Nat)} (g : Good m S ps) : ∀ c ∈ S.cps.toList, c < 128 := fun c hc => alpha_low' c (g.ab c hc)
theorem due_low {m : Nat} {S : Str} {ps : List (Nat × Nat)} (g : Good m S ps) : LowP (dueOf S (headsAll ps)) := fun e he => by
  have h := due_in (S := S) (h := headsAll ps) (headsAll_in ps fun e he => ⟨g.tin _ (List.mem_flatMap.mpr ⟨e, he, mem_spread.mpr (.inl rfl)⟩), g.tin _ (List.mem_flatMap.mpr ⟨e, he, mem_spread.mpr (.inr rfl)⟩)⟩) e he
  exact ⟨good_lowS g _ h.1, good_lowS g _ h.2⟩
theorem csp_tx {S : Str} {ps : List (Nat × Nat)} {cs : List (Str × Int)} (g : Good 10 S ps) (h : CsP S big30 cs) : TxC cs := fun e he => (cs_tx g.ab (csp_ok g.hi g.nd (no_dash g) (by decide +kernel) h) e he).1
section
variable {P : Program} {w : World} {K : PySem.W.Frag} {mg : Str → Option Value} {base : Heap} {f : Addr} {cdv : Value} {A : Around} {outer : List Env} {s : Shared} {H0 : Hp} {E : XK}
/-- font_here, counts = .. -/
def q0 : TS := fun D σ H => ∃ (o0 o2 o3 o4 o5 o6 o7 o8 o9 o10 o11 o12 o13 o14 o15 o16 o17 o18 : Option V) (p c : Addr) (n : Nat), σ = sl o0 p o2 o3 o4 o5 o6 o7 o8 o9 o10 o11 o12 o13 o14 o15 o16 o17 o18 ∧ PenAt H p c n ∧ n < 2 ^ 47 ∧
  ∀ H' t t1 b d S ys ps cs, DrewP H p c (n + 1000) H' → Pl H' t t1 b d S ys ps cs → D.nx (sl o0 p o2 (some (.ref t1)) (some (.ref d)) o5 o6 o7 o8 o9 o10 o11 o12 o13 o14 o15 o16 o17 o18) H'
theorem st0 {fB : Addr} {fdB : FuncData} (DB : Def K mg "_law_plain" fB fdB ["_law_pen_here", "_law_signs", "_law_most", "_law_bound"]) (GB : FnOk P w K mg base CX0 5 fB fdB ["_law_pen_here", "_law_signs", "_law_most", "_law_bound"] sp_plain) (hr : LR 12 f cdv A s) : PS (LX P w K mg base f cdv A outer s H0 E) (lawSt 0) q0 := by
  have r5 : Room 5 _ := hr.mono (by decide)
  refine PS.weak (ps_asg (pe_call GB r5 rfl DB.mgf DB.kp DB.bd .nil pass0 (pa_cons (pv 1) (pa_cons pe_int (pa_cons pe_int (pa_cons (pe_op op_pow pe_int pe_int) pa_nil)))))
    (pg_tup rfl (pgs_cons (pg_name (i := 3) sc_law.nd rfl (Or.inr rfl)) (pgs_cons (pg_name (i := 4) sc_law.nd rfl (Or.inr rfl)) pgs_nil)))) ?_
  rintro D σ H ⟨o0, o2, o3, o4, o5, o6, o7, o8, o9, o10, o11, o12, o13, o14, o15, o16, o17, o18, p, c, n, rfl, hP, hn, k⟩
  refine ⟨_, rfl, _, _, rfl, rfl, p30'', p, c, 5, 5, n, _, rfl, hP, by omega, by decide, by decide, by decide, by rw [e30'']; decide, by rw [e30'']; decide, fun H1 t t1 b d S ys ps cs d1 hT hG hC _ _ => ?_⟩
  rw [e30''] at hC
  exact ⟨t, _, rfl, SqT.of hT.h0, rfl, _, _, rfl, _, _, rfl, rfl, k H1 t t1 b d S ys ps cs d1 ⟨hT, good_mono (by decide) hG, hC⟩⟩
/-- made_here, board = .. -/
def q1 (CC C : Addr) : TS := fun D σ H => ∃ (o0 o2 o5 o6 o7 o8 o9 o10 o11 o12 o13 o14 o15 o16 o17 o18 : Option V) (p c t t1 b d : Addr) (n : Nat) (S : Str) (ys : List V) (ps : List (Nat × Nat)) (cs : List (Str × Int)), σ = sl o0 p o2 (some (.ref t1)) (some (.ref d)) o5 o6 o7 o8 o9 o10 o11 o12 o13 o14 o15 o16 o17 o18 ∧ PenAt H p c n ∧ n < 2 ^ 47 ∧ Pl H t t1 b d S ys ps cs ∧
  ∀ H' a1 a2, DrewP H p c (n + 420) H' → FontAt H' C a1 S (dueOf S (headsAll ps)) → CaseAt H' CC C a2 S (dueOf S (headsAll ps)) cs → D.nx (sl o0 p o2 (some (.ref t1)) (some (.ref d)) (some (.ref a1)) (some (.ref a2)) o7 o8 o9 o10 o11 o12 o13 o14 o15 o16 o17 o18) H'
theorem st1 {CC C fM fF : Addr} {fdM fdF : FuncData} (DM : Def K mg "_law_made" fM fdM ["_law_pen_here", "_law_plain_here"]) (GM : FnOk P w K mg base CX0 8 fM fdM ["_law_pen_here", "_law_plain_here"] (sp_cmade CC C))
    (DF : Def K mg "_law_font_made" fF fdF ["_law_pen_here", "_law_font_here"]) (GF : FnOk P w K mg base CX0 6 fF fdF ["_law_pen_here", "_law_font_here"] (sp_fmade K C)) (hr : LR 12 f cdv A s) : PS (LX P w K mg base f cdv A outer s H0 E) (lawSt 1) (q1 CC C) := by
  have r8 : Room 8 _ := hr.mono (by decide)
  have r6 : Room 6 _ := hr.mono (by decide)
  refine PS.weak (ps_par (i := 5) (j := 6) rfl sc_law.nd rfl rfl (by decide) rfl rfl (pa_cons (pe_call GF r6 rfl DF.mgf DF.kp DF.bd .nil pass0 (pa_cons (pv 1) (pa_cons (pv 3) pa_nil)))
      (pa_cons (pe_call GM r8 rfl DM.mgf DM.kp DM.bd .nil pass0 (pa_cons (pv 1) (pa_cons (pe_tup' (pa_cons (pv 3) (pa_cons (pv 4) pa_nil))) pa_nil))) pa_nil)) (by rfl)) ?_
  rintro D σ H ⟨o0, o2, o5, o6, o7, o8, o9, o10, o11, o12, o13, o14, o15, o16, o17, o18, p, c, t, t1, b, d, n, S, ys, ps, cs, rfl, hP, hn, hT, k⟩
  refine ⟨_, rfl, _, rfl, p, c, t1, b, n, S, ys, ps, rfl, hP, by omega, hT.at_.h1, SqL.of hT.at_.h2, hT.at_.h3, hT.good, fun H1 a1 b1 P1 ft => ?_⟩
  have hT1 := hT.pen hP b1
  refine ⟨_, rfl, _, rfl, _, rfl, by show 2 ≤ sizeLine; decide, fun q H2 n2 => ?_⟩
  have hT2 := hT1.same n2.same
  have P2 := P1.same n2.same
  refine ⟨p, c, q, t1, b, d, n + 20, S, ys, ps, cs, rfl, P2, by omega, ⟨⟨n2.here, hT2.at_.h1, hT2.at_.h2, hT2.at_.h3, hT2.at_.h4⟩, hT.good, hT.csp⟩, fun H3 a2 d3 c3 => ?_⟩
  exact ⟨_, _, rfl, k H3 a1 a2 ⟨(b1.trans (.of n2.same)).trans d3.but, d3.pen.mono (by omega)⟩ ((ft.same n2.same).pen P2 d3.but) c3⟩
end
end My
end
section
set_option Elab.async false
set_option linter.all false
set_option maxRecDepth 100000
set_option maxHeartbeats 4000000
namespace My
open PySem PySem.Spec PyProof.Rows L2 LamX
/-- the font, the counts, the font and the case of the package -/
structure Pq (H : Hp) (CC C t1 b d a1 a2 : Addr) (S : Str) (ys : List V) (ps : List (Nat × Nat)) (cs : List (Str × Int)) : Prop where
  h1 : H t1 = some (.tup [.str S, .ref b])
  h2 : H b = some (.lst ys)
  h3 : PairsAt H ps ys
  h4 : H d = some (.dK (toS cs))
  good : Good 10 S ps
  csp : CsP S big30 cs
  ft : FontAt H C a1 S (dueOf S (headsAll ps))
  cb : CaseAt H CC C a2 S (dueOf S (headsAll ps)) cs
section
variable {H H1 : Hp} {CC C t1 b d a1 a2 : Addr} {S : Str} {ys : List V} {ps : List (Nat × Nat)} {cs : List (Str × Int)}
theorem Pq.same (s : Same H H1) (h : Pq H CC C t1 b d a1 a2 S ys ps cs) : Pq H1 CC C t1 b d a1 a2 S ys ps cs := ⟨s _ _ h.h1, s _ _ h.h2, h.h3.same s, s _ _ h.h4, h.good, h.csp, h.ft.same s, h.cb.same s⟩
theorem Pq.pen {p c : Addr} {n : Nat} (hP : PenAt H p c n) (s : But p H H1) (h : Pq H CC C t1 b d a1 a2 S ys ps cs) : Pq H1 CC C t1 b d a1 a2 S ys ps cs :=
  ⟨s _ _ (hP.neT h.h1) h.h1, s _ _ (hP.neL h.h2) h.h2, PairsAt.pen hP s h.h3, s _ _ (hP.neK h.h4) h.h4, h.good, h.csp, h.ft.pen hP s, h.cb.pen hP s⟩
end
/-- a font and whether it is the same -/
def FI (C : Addr) (S : Str) (ps : List (Nat × Nat)) (H : Hp) (v : V) : Prop := ∃ q a T qs, v = .ref q ∧ H q = some (.tup [.ref a, .bl (sameB S T ps qs)]) ∧ FontAt H C a T (dueOf T (headsAll qs)) ∧ Good 10 T qs
/-- a case and whether it is the same -/
def CI (CC C : Addr) (S : Str) (ps : List (Nat × Nat)) (cs : List (Str × Int)) (H : Hp) (v : V) : Prop := ∃ q a T qs ds fl, v = .ref q ∧ H q = some (.tup [.ref a, .bl fl]) ∧ CaseAt H CC C a T (dueOf T (headsAll qs)) ds ∧ Good 10 T qs ∧ CsP T big30 ds ∧ fl = decide ((S = T ∧ dueOf S (headsAll ps) = dueOf T (headsAll qs)) ∧ cs = ds)
section
variable {H H1 : Hp} {CC C p c : Addr} {n : Nat} {S : Str} {ps : List (Nat × Nat)} {cs : List (Str × Int)} {v : V}
theorem FI.same (s : Same H H1) (h : FI C S ps H v) : FI C S ps H1 v := by
  obtain ⟨q, a, T, qs, e, h1, h2, h3⟩ := h
  exact ⟨q, a, T, qs, e, s _ _ h1, h2.same s, h3⟩
theorem FI.pen (hP : PenAt H p c n) (s : But p H H1) (h : FI C S ps H v) : FI C S ps H1 v := by
  obtain ⟨q, a, T, qs, e, h1, h2, h3⟩ := h
  exact ⟨q, a, T, qs, e, s _ _ (hP.neT h1) h1, h2.pen hP s, h3⟩
theorem FI.extL (s : ExtL H H1) (h : FI C S ps H v) : FI C S ps H1 v := by
  obtain ⟨q, a, T, qs, e, h1, h2, h3⟩ := h
  exact ⟨q, a, T, qs, e, s _ _ h1 (fun _ z => by cases z), h2.extL s, h3⟩
theorem CI.same (s : Same H H1) (h : CI CC C S ps cs H v) : CI CC C S ps cs H1 v := by
  obtain ⟨q, a, T, qs, ds, fl, e, h1, h2, h3⟩ := h
  exact ⟨q, a, T, qs, ds, fl, e, s _ _ h1, h2.same s, h3⟩
theorem CI.pen (hP : PenAt H p c n) (s : But p H H1) (h : CI CC C S ps cs H v) : CI CC C S ps cs H1 v := by
  obtain ⟨q, a, T, qs, ds, fl, e, h1, h2, h3⟩ := h
  exact ⟨q, a, T, qs, ds, fl, e, s _ _ (hP.neT h1) h1, h2.pen hP s, h3⟩
theorem CI.extL (s : ExtL H H1) (h : CI CC C S ps cs H v) : CI CC C S ps cs H1 v := by
  obtain ⟨q, a, T, qs, ds, fl, e, h1, h2, h3⟩ := h
  exact ⟨q, a, T, qs, ds, fl, e, s _ _ h1 (fun _ z => by cases z), h2.extL s, h3⟩
end
section
variable {P : Program} {w : World} {K : PySem.W.Frag} {mg : Str → Option Value} {base : Heap} {f : Addr} {cdv : Value} {A : Around} {outer : List Env} {s : Shared} {H0 : Hp} {E : XK}
/-- fonts = [..] -/
def q2 (CC C : Addr) : TS := fun D σ H => ∃ (o0 o2 o5 o6 o7 o8 o9 o10 o11 o12 o13 o14 o15 o16 o17 o18 : Option V) (p c t1 b d a1 a2 : Addr) (n : Nat) (S : Str) (ys : List V) (ps : List (Nat × Nat)) (cs : List (Str × Int)), σ = sl o0 p o2 (some (.ref t1)) (some (.ref d)) o5 o6 o7 o8 o9 o10 o11 o12 o13 o14 o15 o16 o17 o18 ∧ PenAt H p c n ∧ n < 2 ^ 47 ∧ Pq H CC C t1 b d a1 a2 S ys ps cs ∧
  ∀ H' l us u16 u17 u18, DrewP H p c (n + 300) H' → H' l = some (.lst us) → us.length ≤ 10 → (∀ v ∈ us, FI C S ps H' v) → D.nx (sl o0 p o2 (some (.ref t1)) (some (.ref d)) o5 o6 (some (.ref l)) o8 o9 o10 o11 o12 o13 o14 o15 u16 u17 u18) H'
theorem st2 {CC C fO fF : Addr} {fdO fdF : FuncData} (DO : Def K mg "_law_other_fonts" fO fdO ["_law_pen_here", "_law_font_here"]) (GO : FnOk P w K mg base CX0 3 fO fdO ["_law_pen_here", "_law_font_here"] sp_ofonts)
    (DF : Def K mg "_law_font_made" fF fdF ["_law_pen_here", "_law_font_here"]) (GF : FnOk P w K mg base CX0 6 fF fdF ["_law_pen_here", "_law_font_here"] (sp_fmade K C)) (hr : LR 12 f cdv A s) : PS (LX P w K mg base f cdv A outer s H0 E) (lawSt 2) (q2 CC C) := by
  have r3 : Room 3 _ := hr.mono (by decide)
  have r6 : Room 6 _ := hr.mono (by decide)
  refine PS.weak (ps_setLc (i := 7) (own := [("_law_other", 16), ("_law_is_same", 17)]) (g := gTup K 2 (gCons (gName 16) (gCons (gName 17) gNil))) (tt := tYes) rfl sc_law.nd rfl rfl (sw_true rfl rfl rfl (by decide +kernel)) (pi_list (pe_call GO r3 rfl DO.mgf DO.kp DO.bd .nil pass0 (pa_cons (pv 1) (pa_cons (pv 3) pa_nil))))
    (blkOk_by (own := [("_law_other", 16), ("_law_is_same", 17)]) (N := LN) (sc := defScope s_law) (by decide +kernel)) (fun _ _ _ _ _ => pg_tup rfl (pgs_cons (pg_name (i := 16) sc_law.nd rfl (Or.inl rfl)) (pgs_cons (pg_name (i := 17) sc_law.nd rfl (Or.inl rfl)) pgs_nil))) (fun _ _ _ _ _ => pts_nil)
    (fun _ _ _ _ _ => pe_tup' (pa_cons (pe_call (E := E0) GF r6 rfl DF.mgf DF.kp DF.bd .nil pass0 (pa_cons (pv 1) (pa_cons (pv 16) pa_nil))) (pa_cons (pv 17) pa_nil)))) ?_
  rintro D σ H ⟨o0, o2, o5, o6, o7, o8, o9, o10, o11, o12, o13, o14, o15, o16, o17, o18, p, c, t1, b, d, a1, a2, n, S, ys, ps, cs, rfl, hP, hn, hp, k⟩
  refine ⟨_, rfl, _, rfl, .ref p, t1, b, S, ys, ps, rfl, hp.h1, hp.h2, hp.h3, hp.good, fun H1 l0 us s1 f1 hl0 ul hus => ?_⟩
  have P1 := hP.same s1
  have l0p : l0 ≠ p := P1.neL hl0
  refine ⟨l0, rfl, ⟨_, SqL.of hl0⟩, fun D1 hD1 => ?_⟩
  have pD : p ≠ D1 := P1.ne hD1
  have cD : c ≠ D1 := P1.neC hD1
  refine lcw (walk_list (xs := us)) (fun j H' => But p H1 H' ∧ PenAt H' p c (n + 20 * j) ∧ ∃ zs, H' D1 = some (.lst zs) ∧ zs.length ≤ j ∧ ∀ z ∈ zs, FI C S ps H' z)
    ⟨But.wr (But.refl H1) hD1 .mk', (P1.mono (by omega)).els .mk' pD cD, [], upd_same, Nat.le_refl _, fun z hz => by cases hz⟩ (fun j H' _ q => SqL.of (q.1 _ _ l0p hl0)) ?_ ?_
  · rintro j x H2 H3 hj ⟨hB, hPj, zs, hD, hzl, hzs⟩ ⟨rfl, hx⟩
    obtain ⟨q, t', b', T, ys', qs, rfl, h0, h1, h2, h3, h4, h5⟩ := (hus x (List.mem_of_getElem? hx)).ex
    have h0' := hB _ _ (P1.neT h0) h0
    refine ⟨q, _, rfl, SqT.of h0', rfl, _, _, rfl, _, _, rfl, rfl, rfl, ?_⟩
    unfold tYes
    refine iteT ⟨_, rfl, _, rfl, p, c, t', b', n + 20 * j, T, ys', qs, rfl, hPj, by omega, hB _ _ (P1.neT h1) h1, SqL.of (hB _ _ (P1.neL h2) h2), PairsAt.pen P1 hB h4, h5, fun H4 a4 b4 P4 ft4 => ⟨_, rfl, by show 2 ≤ sizeLine; decide, fun q5 H5 n5 => ?_⟩⟩
    have hD4 := b4 _ _ pD.symm hD
    have hD5 := n5.same _ _ hD4
    have w6 : Wr H5 D1 (.lst (zs ++ [.ref q5])) (upd H5 D1 (.lst (zs ++ [.ref q5]))) := .mk'
    have x6 := ExtL.wr hD5 w6
    refine ⟨zs, hD5, Nat.lt_of_le_of_lt (show zs.length ≤ 10 by omega) (by decide), But.wr ((hB.trans b4).trans (.of n5.same)) hD1 w6, ((P4.same n5.same).mono (by omega)).els w6 pD cD, _, upd_same, by rw [List.length_append, List.length_cons, List.length_nil]; omega, fun z hz => ?_⟩
    rcases List.mem_append.mp hz with hz | hz
    · exact (((hzs z hz).pen hPj b4).same n5.same).extL x6
    · rw [List.mem_singleton.mp hz]
      exact FI.extL x6 ⟨q5, a4, T, qs, rfl, n5.here, ft4.same n5.same, h5⟩
  · rintro H2 ⟨hB, hPn, zs, hD, hzl, hzs⟩
    exact k H2 D1 zs _ _ _ ⟨(But.of s1).trans hB, hPn.mono (by omega)⟩ hD (by omega) hzs
/-- some = [..] of cases -/
def q4 (CC C : Addr) : TS := fun D σ H => ∃ (o0 o2 o5 o6 o7 o8 o9 o10 o11 o12 o13 o14 o15 o16 o17 o18 : Option V) (p c t1 b d a1 a2 : Addr) (n : Nat) (S : Str) (ys : List V) (ps : List (Nat × Nat)) (cs : List (Str × Int)), σ = sl o0 p o2 (some (.ref t1)) (some (.ref d)) o5 o6 o7 o8 o9 o10 o11 o12 o13 o14 o15 o16 o17 o18 ∧ PenAt H p c n ∧ n < 2 ^ 47 ∧ Pq H CC C t1 b d a1 a2 S ys ps cs ∧
  ∀ H' l us u16 u17 u18, DrewP H p c (n + 4100) H' → H' l = some (.lst us) → us.length ≤ 10 → (∀ v ∈ us, CI CC C S ps cs H' v) → D.nx (sl o0 p o2 (some (.ref t1)) (some (.ref d)) o5 o6 o7 (some (.ref l)) o9 o10 o11 o12 o13 o14 o15 u16 u17 u18) H'
theorem st4 {CC C fO fM : Addr} {fdO fdM : FuncData} (DO : Def K mg "_law_other_counts" fO fdO ["_law_pen_here", "_law_font_here", "_law_counts"]) (GO : FnOk P w K mg base CX0 3 fO fdO ["_law_pen_here", "_law_font_here", "_law_counts"] sp_ocounts)
    (DM : Def K mg "_law_made" fM fdM ["_law_pen_here", "_law_plain_here"]) (GM : FnOk P w K mg base CX0 8 fM fdM ["_law_pen_here", "_law_plain_here"] (sp_cmade CC C)) (hr : LR 12 f cdv A s) : PS (LX P w K mg base f cdv A outer s H0 E) (lawSt 4) (q4 CC C) := by
  have r3 : Room 3 _ := hr.mono (by decide)
  have r8 : Room 8 _ := hr.mono (by decide)
  refine PS.weak (ps_setLc (i := 8) (own := [("_law_other", 16), ("_law_is_same", 17)]) (g := gTup K 2 (gCons (gName 16) (gCons (gName 17) gNil))) (tt := tYes) rfl sc_law.nd rfl rfl (sw_true rfl rfl rfl (by decide +kernel)) (pi_list (pe_call GO r3 rfl DO.mgf DO.kp DO.bd .nil pass0 (pa_cons (pv 1) (pa_cons (pv 3) (pa_cons (pv 4) pa_nil)))))
    (blkOk_by (own := [("_law_other", 16), ("_law_is_same", 17)]) (N := LN) (sc := defScope s_law) (by decide +kernel)) (fun _ _ _ _ _ => pg_tup rfl (pgs_cons (pg_name (i := 16) sc_law.nd rfl (Or.inl rfl)) (pgs_cons (pg_name (i := 17) sc_law.nd rfl (Or.inl rfl)) pgs_nil))) (fun _ _ _ _ _ => pts_nil)
    (fun _ _ _ _ _ => pe_tup' (pa_cons (pe_call (E := E0) GM r8 rfl DM.mgf DM.kp DM.bd .nil pass0 (pa_cons (pv 1) (pa_cons (pe_tup' (pa_cons (pv 3) (pa_cons (pv 16) pa_nil))) pa_nil))) (pa_cons (pv 17) pa_nil)))) ?_
  rintro D σ H ⟨o0, o2, o5, o6, o7, o8, o9, o10, o11, o12, o13, o14, o15, o16, o17, o18, p, c, t1, b, d, a1, a2, n, S, ys, ps, cs, rfl, hP, hn, hp, k⟩
  refine ⟨_, rfl, _, rfl, _, rfl, p, c, t1, d, b, n, S, cs, rfl, hP, by omega, hp.h1, hp.good.lo, hp.good.hi, hp.good.nd, no_dash hp.good, hp.h4, hp.csp, fun H1 l0 us d1 hl0 ul hus => ?_⟩
  have P1 := d1.pen
  have hp1 := hp.pen hP d1.but
  have l0p : l0 ≠ p := P1.neL hl0
  refine ⟨l0, rfl, ⟨_, SqL.of hl0⟩, fun D1 hD1 => ?_⟩
  have pD : p ≠ D1 := P1.ne hD1
  have cD : c ≠ D1 := P1.neC hD1
  refine lcw (walk_list (xs := us)) (fun j H' => But p H1 H' ∧ PenAt H' p c (n + 1 + 400 * j) ∧ ∃ zs, H' D1 = some (.lst zs) ∧ zs.length ≤ j ∧ ∀ z ∈ zs, CI CC C S ps cs H' z)
    ⟨But.wr (But.refl H1) hD1 .mk', (P1.mono (by omega)).els .mk' pD cD, [], upd_same, Nat.le_refl _, fun z hz => by cases hz⟩ (fun j H' _ q => SqL.of (q.1 _ _ l0p hl0)) ?_ ?_
  · rintro j x H2 H3 hj ⟨hB, hPj, zs, hD, hzl, hzs⟩ ⟨rfl, hx⟩
    obtain ⟨q, d', ds, rfl, h0, h1, h2⟩ := (hus x (List.mem_of_getElem? hx)).ex
    have h0' := hB _ _ (P1.neT h0) h0
    refine ⟨q, _, rfl, SqT.of h0', rfl, _, _, rfl, _, _, rfl, rfl, rfl, ?_⟩
    unfold tYes
    have hp2 := hp1.pen P1 hB
    have h1' := hB _ _ (P1.neK h1) h1
    refine iteT ⟨_, rfl, _, rfl, _, rfl, by show 2 ≤ sizeLine; decide, fun q4 H4 n4 => ?_⟩
    have hp4 := hp2.same n4.same
    refine ⟨p, c, q4, t1, b, d', n + 1 + 400 * j, S, ys, ps, ds, rfl, hPj.same n4.same, by omega, ⟨⟨n4.here, hp4.h1, hp4.h2, hp4.h3, n4.same _ _ h1'⟩, hp.good, h2⟩, fun H5 a5 d5 c5 => ⟨_, rfl, by show 2 ≤ sizeLine; decide, fun q6 H6 n6 => ?_⟩⟩
    have hD5 := d5.but _ _ pD.symm (n4.same _ _ hD)
    have hD6 := n6.same _ _ hD5
    have w7 : Wr H6 D1 (.lst (zs ++ [.ref q6])) (upd H6 D1 (.lst (zs ++ [.ref q6]))) := .mk'
    have x7 := ExtL.wr hD6 w7
    refine ⟨zs, hD6, Nat.lt_of_le_of_lt (show zs.length ≤ 10 by omega) (by decide), But.wr (((hB.trans (.of n4.same)).trans d5.but).trans (.of n6.same)) hD1 w7, ((d5.pen.same n6.same).mono (by omega)).els w7 pD cD, _, upd_same, by rw [List.length_append, List.length_cons, List.length_nil]; omega, fun z hz => ?_⟩
    rcases List.mem_append.mp hz with hz | hz
    · exact ((((hzs z hz).same n4.same).pen (hPj.same n4.same) d5.but).same n6.same).extL x7
    · rw [List.mem_singleton.mp hz]
      refine CI.extL x7 ⟨q6, a5, S, ps, ds, _, rfl, n6.here, c5.same n6.same, hp.good, h2, ?_⟩
      by_cases e : cs = ds
      · rw [decide_eq_true e, decide_eq_true ⟨⟨rfl, rfl⟩, e⟩]
      · rw [decide_eq_false e, decide_eq_false fun z => e z.2]
  · rintro H2 ⟨hB, hPn, zs, hD, hzl, hzs⟩
    exact k H2 D1 zs _ _ _ ⟨d1.but.trans hB, hPn.mono (by omega)⟩ hD (by omega) hzs
end
end My
end
section
set_option Elab.async false
set_option linter.all false
set_option maxRecDepth 100000
set_option maxHeartbeats 4000000
namespace My
open PySem PySem.Spec PyProof.Rows L2 LamX
theorem cntd_nil (S : Str) : cntd S [] = [] := by
  unfold cntd
  have : ∀ l : List Str, (l.filter fun k => (ctK (([] : List (Str × Int)).map fun e => (keptZ S e.1, e.2)) k).isSome) = [] := by
    intro l
    induction l with
    | nil => rfl
    | cons a l ih =>
      rw [List.filter_cons]
      exact ih
  rw [this]
  rfl
theorem entOk_nil (S : Str) : EntOk S [] := ⟨(fun e he => by cases he), (fun e he => by cases he), List.nodup_nil, Nat.zero_le _⟩
/-- what is known of the three classes -/
structure Fk (K : PySem.W.Frag) (C CC W : Addr) : Prop where
  bF : FarB K C
  bC : FarB K CC
  bW : FarB K W
  cf : FarC K CC C
  fc : FarC K C CC
  fw : FarC K C W
  wf : FarC K W C
  iF : InsT K C
  iC : InsT K CC
  iW : InsT K W
def rDE : R2 := fun x y H Q => ∃ (a b : Addr) (kvs : List (Key × V)), x = .ref a ∧ y = .ref b ∧ H a = some (.dK kvs) ∧ H b = some (.dK []) ∧ Q (.bl kvs.isEmpty) H
theorem op_eq_dE {X : Cx} (hu : X.A.units < cLine) : OpR X (compareOp .Eq) rDE := by
  intro pins s σ H x y v u Q I rx ry h
  obtain ⟨a, b, kvs, rfl, rfl, ea, eb, q⟩ := h
  obtain rfl : v = Value.ref a := rx
  obtain rfl : u = Value.ref b := ry
  obtain ⟨_, ya, va, ra, da⟩ := (show ObjOk X.prog X.w H s.heap a (.dK kvs) from I.hok a _ ea)
  obtain ⟨_, yb, vb, rb, db⟩ := (show ObjOk X.prog X.w H s.heap b (.dK []) from I.hok b _ eb)
  have lb : vb = [] := by
    have := rb.length
    cases vb with
    | nil => rfl
    | cons _ _ => simp at this
  subst lb
  have la : kvs.length = va.length := ra.length
  refine PySem.W.keq_eq (knd := mixKind X.prog X.w) (r := true) ya yb da db hu (fun hl => ?_) (fin_bl I q ?_)
  · cases va with
    | nil => exact .nil
    | cons _ _ => simp at hl
  · cases kvs with
    | nil => cases va with
      | nil => rfl
      | cons _ _ => simp at la
    | cons _ _ => cases va with
      | nil => simp at la
      | cons _ _ => rfl
theorem iteT' {c : Bool} {a b : Prop} (h : c = true) (x : a) : if c = true then a else b := by rw [if_pos h]; exact x
theorem iteF' {c : Bool} {a b : Prop} (h : c = false) (x : b) : if c = true then a else b := by rw [if_neg (by rw [h]; decide)]; exact x
section
variable {P : Program} {w : World} {K : PySem.W.Frag} {mg : Str → Option Value} {base : Heap} {f : Addr} {cdv : Value} {A : Around} {outer : List Env} {s : Shared} {H0 : Hp} {E : XK}
/-- the slots behind the two fonts -/
abbrev sb (o0 : Option V) (p : Addr) (o2 : Option V) (t1 d a1 a2 l : Addr) (o8 o9 o10 o11 o12 o13 o14 o15 o16 o17 o18 : Option V) : L2.St := sl o0 p o2 (some (.ref t1)) (some (.ref d)) (some (.ref a1)) (some (.ref a2)) (some (.ref l)) o8 o9 o10 o11 o12 o13 o14 o15 o16 o17 o18
/-- if not pairs_right(made_here, ..): return False -/
def q3 (CC C : Addr) : TS := fun D σ H => ∃ (o0 o2 o8 o9 o10 o11 o12 o13 o14 o15 o16 o17 o18 : Option V) (p t1 b d a1 a2 l : Addr) (S : Str) (ys us : List V) (ps : List (Nat × Nat)) (cs : List (Str × Int)), σ = sb o0 p o2 t1 d a1 a2 l o8 o9 o10 o11 o12 o13 o14 o15 o16 o17 o18 ∧ Pq H CC C t1 b d a1 a2 S ys ps cs ∧ H l = some (.lst us) ∧ us.length ≤ 10 ∧ (∀ v ∈ us, FI C S ps H v) ∧
  ∀ H', Same H H' → D.nx σ H'
theorem st3 {C CC W fP : Addr} {fdP : FuncData} (N : Fk K C CC W) (DP : Def K mg "_law_pairs_right" fP fdP ["_law_one", "_law_others"]) (GP : FnG P w K mg base 4 fP fdP ["_law_one", "_law_others"] (sp_pairs K C CC W))
    (g : (A.deeper (envOfC "law" (defScope s_law) s.heap.objs.size f cdv)).guards = some []) (hr : LR 12 f cdv A s) : PS (LX P w K mg base f cdv A outer s H0 E) (lawSt 3) (q3 CC C) := by
  have r4 : Room 4 _ := hr.mono (by decide)
  refine PS.weak (ps_if (pt_not (pt_val (pe_callG (E := E0) GP g r4 rfl DP.mgf DP.kp DP.bd .nil (pa_cons (pv 5) (pa_cons (pe_op op_cat' (pv 7) (pe_lst' (pa_cons (pe_tup' (pa_cons (pe_ix ix_tup (pv 3) pe_int (fun _ _ => rfl)) (pa_cons pe_bl pa_nil)))
    (pa_cons (pe_tup' (pa_cons pe_non (pa_cons pe_bl pa_nil))) (pa_cons (pe_tup' (pa_cons (pe_tup' (pa_cons (pe_ix ix_tup (pv 3) pe_int (fun _ _ => rfl)) (pa_cons (pe_tup' pa_nil) pa_nil))) (pa_cons pe_bl pa_nil)))
    (pa_cons (pe_tup' (pa_cons (pv 6) (pa_cons pe_bl pa_nil))) pa_nil)))))) pa_nil))))) (pss_one (ps_ret pe_bl)) pss_nil) ?_
  rintro D σ H ⟨o0, o2, o8, o9, o10, o11, o12, o13, o14, o15, o16, o17, o18, p, t1, b, d, a1, a2, l, S, ys, us, ps, cs, rfl, hp, hl, ul, hus, k⟩
  refine ⟨_, rfl, _, rfl, _, rfl, t1, _, _, _, rfl, rfl, SqT.of hp.h1, at0 _ _, by show 2 ≤ sizeLine; decide, fun qa Ha na => ⟨by show 2 ≤ sizeLine; decide, fun qb Hb nb => ?_⟩⟩
  have sab := na.same.trans nb.same
  refine ⟨_, rfl, t1, _, _, _, rfl, rfl, SqT.of (sab _ _ hp.h1), at0 _ _, by show 0 ≤ sizeLine; decide, fun qc Hc nc => ⟨by show 2 ≤ sizeLine; decide, fun qd Hd nd => ⟨by show 2 ≤ sizeLine; decide, fun qe He ne => ⟨_, rfl, by show 2 ≤ sizeLine; decide, fun qf Hf nf => ⟨by show 4 ≤ sizeLine; decide, fun ql Hl nl => ?_⟩⟩⟩⟩⟩
  have kf : Same Hf Hl := nl.same
  have ke : Same He Hl := nf.same.trans kf
  have kd : Same Hd Hl := ne.same.trans ke
  have kc : Same Hc Hl := nd.same.trans kd
  have kb : Same Hb Hl := nc.same.trans kc
  have ka : Same Ha Hl := nb.same.trans kb
  have k0 : Same H Hl := na.same.trans ka
  refine ⟨l, ql, us, _, rfl, rfl, k0 _ _ hl, nl.here, Nat.le_trans (show us.length + 4 ≤ 20 by omega) (by decide), fun r Hr nr => ?_⟩
  have kr := nr.same
  have S0 := k0.trans kr
  refine ⟨.ref a1, r, _, rfl, nr.here, fun y hy => ?_, fun H' s' => ⟨_, rfl, iteF (k H' (S0.trans s'))⟩⟩
  have lw := due_low hp.good
  have tx := csp_tx hp.good hp.csp
  rcases List.mem_append.mp hy with hy | hy
  · obtain ⟨q, a, T, qs, rfl, h1, h2, h3⟩ := hus y hy
    exact ⟨q, .ref a, _, rfl, S0 _ _ h1, fun H' s' => cmp_ff (hp.ft.same (S0.trans s')) (h2.same (S0.trans s')) lw (due_low h3)⟩
  rcases List.mem_cons.mp hy with rfl | hy
  · exact ⟨qa, .str S, false, rfl, (ka.trans kr) _ _ na.here, fun H' s' => cmp_fb (hp.ft.same (S0.trans s')) lw (.str S) N.bF⟩
  rcases List.mem_cons.mp hy with rfl | hy
  · exact ⟨qb, .non, false, rfl, (kb.trans kr) _ _ nb.here, fun H' s' => cmp_fb (hp.ft.same (S0.trans s')) lw .non N.bF⟩
  rcases List.mem_cons.mp hy with rfl | hy
  · exact ⟨qe, .ref qd, false, rfl, (ke.trans kr) _ _ ne.here, fun H' s' => cmp_fb (hp.ft.same (S0.trans s')) lw (.tup (((kd.trans kr).trans s') _ _ nd.here)) N.bF⟩
  rw [List.mem_singleton.mp hy]
  exact ⟨qf, .ref a2, false, rfl, (kf.trans kr) _ _ nf.here, fun H' s' => cmp_fc (hp.ft.same (S0.trans s')) (hp.cb.same (S0.trans s')) lw lw tx N.iF N.iC N.cf N.fc⟩
/-- some = some + [..] -/
def q5 (CC C : Addr) : TS := fun D σ H => ∃ (o0 o2 o9 o10 o11 o12 o13 o14 o15 o16 o17 o18 : Option V) (p c t1 b d a1 a2 l m : Addr) (n : Nat) (S : Str) (ys us ms : List V) (ps : List (Nat × Nat)) (cs : List (Str × Int)), σ = sb o0 p o2 t1 d a1 a2 l (some (.ref m)) o9 o10 o11 o12 o13 o14 o15 o16 o17 o18 ∧ PenAt H p c n ∧ Pq H CC C t1 b d a1 a2 S ys ps cs ∧ H l = some (.lst us) ∧ us.length ≤ 10 ∧ (∀ v ∈ us, FI C S ps H v) ∧ H m = some (.lst ms) ∧ ms.length ≤ 10 ∧ (∀ v ∈ ms, CI CC C S ps cs H v) ∧
  ∀ H' m' ms' u16 u17 u18, Same H H' → H' m' = some (.lst ms') → ms'.length ≤ 20 → (∀ v ∈ ms', CI CC C S ps cs H' v) → D.nx (sb o0 p o2 t1 d a1 a2 l (some (.ref m')) o9 o10 o11 o12 o13 o14 o15 u16 u17 u18) H'
theorem st5 {C CC fI t0 : Addr} {fdI : FuncData} (M : Mk K CC fI) (GI : FnOk P w K mg base CX0 6 fI fdI ["self", "font", "plates"] (sp_cinit K CC C)) (bI : Binds K fdI ["self", "font", "plates"] [.ref t0]) (ht0 : KEmp K t0) (gC : mg "Case" = some (.ref CC)) (hr : LR 12 f cdv A s) :
    PS (LX P w K mg base f cdv A outer s H0 E) (lawSt 5) (q5 CC C) := by
  have r7 : Room 7 _ := hr.mono (by decide)
  refine PS.weak (ps_set (i := 8) sc_law.nd rfl (Or.inl rfl) (pe_op op_cat' (pv 8) (by exact (pe_lc (own := [("_law_other", 16), ("_law_is_same", 17)]) (g := gTup K 2 (gCons (gName 16) (gCons (gName 17) gNil))) (tt := tYes) rfl sc_law.nd (pi_list (pv 7))
    (blkOk_by (own := [("_law_other", 16), ("_law_is_same", 17)]) (N := LN) (sc := defScope s_law) (by decide +kernel)) (fun _ _ _ _ _ => pg_tup rfl (pgs_cons (pg_name (i := 16) sc_law.nd rfl (Or.inl rfl)) (pgs_cons (pg_name (i := 17) sc_law.nd rfl (Or.inl rfl)) pgs_nil))) (fun _ _ _ _ _ => pts_nil)
    (fun _ _ _ _ _ => pe_tup' (pa_cons (show PE _ _ (qMkC K CC C [.ref t0] _) from pe_case (dvs := [.ref t0]) M GI r7 rfl gC bI (.cons rfl .nil) (pa_cons (pv 16) pa_nil)) (pa_cons (pe_and (pv 17) (pe_one (pe_cmpR (op_eq_dE hr.units0) (pv 4) pe_dnew' (nomark _)))) pa_nil))))))) ?_
  rintro D σ H ⟨o0, o2, o9, o10, o11, o12, o13, o14, o15, o16, o17, o18, p, c, t1, b, d, a1, a2, l, m, n, S, ys, us, ms, ps, cs, rfl, hP, hp, hl, ul, hus, hm, ml, hms, k⟩
  refine ⟨_, rfl, _, rfl, l, rfl, ⟨_, SqL.of hl⟩, fun D1 hD1 => ?_⟩
  refine lcw (walk_list (xs := us)) (fun j H' => Same H H' ∧ ∃ zs, H' D1 = some (.lst zs) ∧ zs.length ≤ j ∧ ∀ z ∈ zs, CI CC C S ps cs H' z)
    ⟨Same.wr (Same.refl H) hD1 .mk', [], upd_same, Nat.le_refl _, fun z hz => by cases hz⟩ (fun j H' _ q => SqL.of (q.1 _ _ hl)) ?_ ?_
  · rintro j x H2 H3 hj ⟨sB, zs, hD, hzl, hzs⟩ ⟨rfl, hx⟩
    obtain ⟨q, a, T, qs, rfl, h1, h2, h3⟩ := hus x (List.mem_of_getElem? hx)
    refine ⟨q, _, rfl, SqT.of (sB _ _ h1), rfl, _, _, rfl, _, _, rfl, rfl, rfl, ?_⟩
    unfold tYes
    refine iteT ⟨_, rfl, a, t0, p, .tuple [], T, _, [], [], rfl, .emp ht0, rfl, h2.same sB, h3.hi, h3.nd, no_dash h3, .inr ht0.sq, .nil, entOk_nil T, fun H4 a4 s4 f4 c4 => ?_⟩
    rw [cntd_nil] at c4
    have fin : ∀ (fl : Bool) (H5 : Hp), Same H4 H5 → fl = decide ((S = T ∧ dueOf S (headsAll ps) = dueOf T (headsAll qs)) ∧ cs = []) → 2 ≤ sizeLine ∧ ∀ q6 H6, New H5 q6 (.tup [.ref a4, .bl fl]) H6 → ∃ acc, H6 D1 = some (.lst acc) ∧ acc.length < sizeLine ∧ (Same H (upd H6 D1 (.lst (acc ++ [.ref q6]))) ∧ ∃ zs, (upd H6 D1 (.lst (acc ++ [.ref q6]))) D1 = some (.lst zs) ∧ zs.length ≤ j + 1 ∧ ∀ z ∈ zs, CI CC C S ps cs (upd H6 D1 (.lst (acc ++ [.ref q6]))) z) := by
      intro fl H5 s5 efl
      refine ⟨by decide, fun q6 H6 n6 => ?_⟩
      have s26 := (s4.trans s5).trans n6.same
      have hD6 := s26 _ _ hD
      have w7 : Wr H6 D1 (.lst (zs ++ [.ref q6])) (upd H6 D1 (.lst (zs ++ [.ref q6]))) := .mk'
      have x7 := ExtL.wr hD6 w7
      refine ⟨zs, hD6, Nat.lt_of_le_of_lt (show zs.length ≤ 10 by omega) (by decide), Same.wr (sB.trans s26) hD1 w7, _, upd_same, by rw [List.length_append, List.length_cons, List.length_nil]; omega, fun z hz => ?_⟩
      rcases List.mem_append.mp hz with hz | hz
      · exact ((hzs z hz).same s26).extL x7
      · rw [List.mem_singleton.mp hz]
        exact CI.extL x7 ⟨q6, a4, T, qs, [], fl, rfl, n6.here, c4.same (s5.trans n6.same), h3, ⟨fun _ => 0, by unfold ordC; rw [List.filter_eq_nil_iff.mpr fun k hk => by show ¬ decide ((0 : Int) < 0) = true; decide]; rfl, fun _ => by show (0 : Int) ≤ big30; decide⟩, efl⟩
    refine ⟨_, rfl, _, rfl, ?_⟩
    by_cases e : S = T ∧ dueOf S (headsAll ps) = dueOf T (headsAll qs)
    · have eb : sameB S T ps qs = true := decide_eq_true e
      refine iteT' eb ⟨_, rfl, fun q8 H8 n8 => ⟨d, q8, toS cs, rfl, rfl, n8.same _ _ (s4 _ _ (sB _ _ hp.h4)), n8.here, fin _ _ n8.same ?_⟩⟩
      cases cs with
      | nil => exact (decide_eq_true ⟨e, rfl⟩).symm
      | cons _ _ => exact (decide_eq_false fun z => by cases z.2).symm
    · have eb : sameB S T ps qs = false := decide_eq_false e
      refine iteF' eb (fin false H4 (Same.refl _) ?_)
      exact (decide_eq_false fun z => e z.1).symm
  · rintro H2 ⟨sB, zs, hD, hzl, hzs⟩
    refine ⟨m, D1, ms, zs, rfl, rfl, sB _ _ hm, hD, Nat.le_trans (show ms.length + zs.length ≤ 20 by omega) (by decide), fun r H3 n3 => ?_⟩
    refine k H3 r _ _ _ _ (sB.trans n3.same) n3.here (by rw [List.length_append]; omega) fun v hv => ?_
    rcases List.mem_append.mp hv with hv | hv
    · exact ((hms v hv).same sB).same n3.same
    · exact (hzs v hv).same n3.same
end
end My
end
section
set_option Elab.async false
set_option linter.all false
set_option maxRecDepth 100000
set_option maxHeartbeats 4000000
/-! B20: comprehensions over zip; a new key of a dict from signs to numbers; lists of numbers compared. -/
namespace My
open PySem PySem.Spec PyProof.Rows L2
theorem lc_zip {α : Type} {K : PySem.W.Frag} {a b : Addr} {xs ys : List V} (l : List α) (hx : l.length = xs.length) (hy : l.length = ys.length) {i j : Nat} {g : TG} {tt : TT} {te : TE} {vs : List Nat} {σ : L2.St} {H1 : Hp} {D : Addr} {Qd : Hp → Prop} (p : α → Bool) (R : α → V → Hp → Prop)
    (mono : ∀ a y H H', (∃ zs, H D = some (.lst zs)) → But D H H' → R a y H → R a y H') (free : H1 D = none) (ha : SqL K H1 a xs) (hb : SqL K H1 b ys) (small : xs.length < sizeLine)
    (hg : ∀ T x y H' (C : L2.St → Hp → Prop), H' T = some (.tup [x, y]) → C (((wipe σ vs).set i (some x)).set j (some y)) H' → g (.ref T) (wipe σ vs) H' C) (hw : ∀ x y, wipe (((wipe σ vs).set i (some x)).set j (some y)) vs = wipe σ vs)
    (ht : ∀ (k : Nat) x y a H' (C : Bool → Hp → Prop), xs[k]? = some x → ys[k]? = some y → l[k]? = some a → Same H1 H' → (∀ H3, Same H' H3 → C (p a) H3) → tt (((wipe σ vs).set i (some x)).set j (some y)) H' C)
    (he : ∀ (k : Nat) x y a H' (C : VK), xs[k]? = some x → ys[k]? = some y → l[k]? = some a → p a = true → Same H1 H' → (∀ H4 z, Same H' H4 → R a z H4 → C z H4) → te (((wipe σ vs).set i (some x)).set j (some y)) H' C)
    (hd : ∀ H' zs, Same H1 H' → H' D = some (.lst zs) → Paired (fun a y => R a y H') (l.filter p) zs → Qd H') :
    ∃ W : Nat → Nat → Hp → Prop, (∃ m, W 0 m (upd H1 D (.lst []))) ∧ ∀ k m H, W k m H →
      ((Itz K a b).stop k H ∧ Qd H) ∨ ((Itz K a b).go k H ∧ ∃ Nx : Hp → Prop, (∀ H', Nx H' → ∃ m', m' < m ∧ W (k + 1) m' H') ∧ ∀ x H', (Itz K a b).yld k H x H' → g x (wipe σ vs) H' fun σ2 H2 => wipe σ2 vs = wipe σ vs ∧ tt σ2 H2 fun b H3 =>
        if b = true then te σ2 H3 fun y H4 => ∃ acc, H4 D = some (.lst acc) ∧ acc.length < sizeLine ∧ Nx (upd H4 D (.lst (acc ++ [y]))) else Nx H3) := by
  refine lc_it (walk_zip (xs := xs) (ys := ys) (n := xs.length) (by omega)) (fun k H' => Same H1 H' ∧ ∃ zs, H' D = some (.lst zs) ∧ zs.length ≤ k ∧ Paired (fun a y => R a y H') ((l.take k).filter p) zs)
    ⟨Same.wr (Same.refl H1) free .mk', [], upd_same, Nat.le_refl _, by simp; exact .nil⟩ (fun k H' _ q => ⟨q.1.seq ha, q.1.seq hb⟩) ?_ ?_
  · rintro k v H2 H3 hk ⟨s, zs, hD, hz, hp⟩ ⟨T, x, y, rfl, hT, rfl, ex, ey⟩
    have n3 : New H2 T (.tup [x, y]) (upd H2 T (.tup [x, y])) := .mk' hT
    generalize upd H2 T (HO.tup [x, y]) = H3 at n3 ⊢
    have hkl : k < l.length := by omega
    obtain ⟨c, hc⟩ : ∃ c, l[k]? = some c := ⟨l[k], by simp [hkl]⟩
    have nx : l.take (k + 1) = l.take k ++ [c] := by
      rw [List.take_add_one, hc]
      rfl
    have s3 := s.trans n3.same
    have hD3 := n3.same _ _ hD
    have hp3 := Paired.map (fun a y h => mono a y H2 H3 ⟨_, hD⟩ (.of n3.same) h) hp
    refine hg T x y H3 _ n3.here ⟨hw x y, ht k x y c H3 _ ex ey hc s3 fun H4 s4 => ?_⟩
    have hD4 := s4 _ _ hD3
    have hp4 := Paired.map (fun a y h => mono a y H3 H4 ⟨_, hD3⟩ (.of s4) h) hp3
    cases hpa : p c with
    | true =>
      rw [if_pos rfl]
      refine he k x y c H4 _ ex ey hc hpa (s3.trans s4) fun H5 z s5 hR => ⟨zs, s5 _ _ hD4, by omega, ?_, zs ++ [z], upd_same, by simp; omega, ?_⟩
      · exact Same.wr ((s3.trans s4).trans s5) free .mk'
      · have w5 : But D H5 (upd H5 D (.lst (zs ++ [z]))) := Wr.mk'.but
        have hp5 := Paired.map (fun a y h => mono a y H4 H5 ⟨_, hD4⟩ (.of s5) h) hp4
        have hp6 := Paired.map (fun a y h => mono a y H5 _ ⟨_, s5 _ _ hD4⟩ w5 h) hp5
        rw [nx, List.filter_append]
        have e : [c].filter p = [c] := by simp [hpa]
        rw [e]
        exact Paired.snoc hp6 (mono c z H5 _ ⟨_, s5 _ _ hD4⟩ w5 hR)
    | false =>
      rw [if_neg Bool.false_ne_true]
      refine ⟨s3.trans s4, zs, hD4, by omega, ?_⟩
      rw [nx, List.filter_append]
      have e : [c].filter p = [] := by simp [hpa]
      rw [e, List.append_nil]
      exact hp4
  · rintro H' ⟨s, zs, hD, _, hp⟩
    rw [← hx, List.take_length] at hp
    exact hd H' zs s hD hp
theorem dput_toC {H : Hp} {d : Addr} {cs : List (Nat × Int)} {c : Nat} {v : Int} (e : H d = some (.dK (toC cs))) (new : c ∉ cs.map (·.1)) (l : cs.length < sizeLine) : DPut H d (sg c) (.int v) (upd H d (.dK (toC (cs ++ [(c, v)])))) := by
  have k : putK (toC cs) (Sum.inr ⟨#[c]⟩ : Key) (.int v) = toC (cs ++ [(c, v)]) := by
    rw [putK_new]
    · simp [toC]
    · rw [toC_keys]
      intro m
      obtain ⟨x, hx, ex⟩ := List.mem_map.mp m
      exact new (List.mem_map.mpr ⟨x, hx, keyS_inj.mp ex⟩)
  rw [← k]
  exact DPut.k (k := Sum.inr ⟨#[c]⟩) e (by simpa [toC] using l)
/-- a list of numbers, as data -/
theorem ints_dp {K : PySem.W.Frag} {H : Hp} : ∀ ns : List Int, DpAll K H (ns.map V.int) (ns.map PyData.int)
  | [] => .nil
  | n :: ns => .cons (.int n) (ints_dp ns)
theorem ints_eqv : ∀ ns : List Int, PyData.eqvAll (ns.map PyData.int) (ns.map PyData.int) = true
  | [] => rfl
  | n :: ns => by
    show ((n == n) && PyData.eqvAll (ns.map PyData.int) (ns.map PyData.int)) = true
    rw [ints_eqv ns]
    simp
theorem ints_lay : ∀ ns : List Int, (PyData.list (ns.map PyData.int)).canLay0 = true ∧ (PyData.list (ns.map PyData.int)).depth ≤ 1
  | [] => ⟨rfl, by decide⟩
  | n :: ns => by
    obtain ⟨h1, h2⟩ := ints_lay ns
    refine ⟨h1, ?_⟩
    have q : (PyData.list ((n :: ns).map PyData.int)).depth = max 0 ((PyData.list (ns.map PyData.int)).depth - 1) + 1 := rfl
    rw [q]
    omega
theorem ints_shape (ns : List Int) : SeqAt.shaped (.list (ns.map PyData.int)) = true := by
  obtain ⟨h1, h2⟩ := ints_lay ns
  unfold SeqAt.shaped
  rw [h1, Bool.true_and]
  exact decide_eq_true (by omega)
/-- xs != ys, the same numbers -/
def qNeI (K : PySem.W.Frag) : R2 := fun x y H Q => ∃ (a b : Addr) (ns : List Int), x = .ref a ∧ y = .ref b ∧ SqL K H a (ns.map V.int) ∧ SqL K H b (ns.map V.int) ∧ Q (.bl false) H
theorem op_neI {X : Cx} (hu : X.A.units + 64 < cLine) : OpR X (compareOp .NotEq) (qNeI X.K) := OpR.weak (op_neD hu) fun x y H Q q => by
  obtain ⟨a, b, ns, rfl, rfl, ha, hb, k⟩ := q
  refine ⟨_, _, .lst ha (ints_dp ns), .lst hb (ints_dp ns), ints_shape ns, ints_shape ns, ?_⟩
  have e : PyData.eqv (.list (ns.map PyData.int)) (.list (ns.map PyData.int)) = true := ints_eqv ns
  rw [e]
  exact k
end My
end
section
set_option Elab.async false
set_option linter.all false
set_option maxRecDepth 100000
set_option maxHeartbeats 4000000
/-! Qwants: a law's draws of great numbers, wants that are drawn. -/
namespace My
open PySem PySem.Spec PyProof.Rows L2
abbrev s_lwants : Stmt := topS 58
/-- drawn wants: a new dict -/
def sp_lwants (B0 : Int) : Sp := fun vs H Q _ => ∃ (p c : Addr) (S : Str) (B : Int) (n : Nat), vs = [.ref p, .str S, .int B] ∧ PenAt H p c n ∧ n < 2 ^ 50 ∧ S.length ≤ 10 ∧ S.cps.toList.Nodup ∧ 0 ≤ B ∧ B < B0 ∧
  ∀ H' d cs, DrewP H p c (n + 200) H' → H d = none → H' d = some (.dK (toC cs)) → CntOk S cs → (∀ e ∈ cs, 0 ≤ e.2 ∧ e.2 ≤ B + 5) → Q (.ref d) H'
section
variable {P : Program} {w : World} {K : PySem.W.Frag} {mg : Str → Option Value} {base : Heap}
abbrev NLw : List Str := ["_law_pen_here", "_law_signs", "_law_bound", "_law_found", "_law_sign"]
theorem sc_lwants : FnScope NLw ["_law_pen_here", "_law_signs", "_law_bound"] (defScope s_lwants) := ⟨rfl, rfl, rfl, by decide +kernel, rfl, by decide +kernel, by decide +kernel⟩
theorem ok_lwants {f fD fP fS : Addr} {fd fdD fdP fdS : FuncData} {B0 : Int} {dd j : Nat} (F : Fun K "_law_wants" "_law_wants" s_lwants f fd) (hdd : dd ≤ 9) (hj : 2 ≤ j)
    (DD : Def K mg "_law_draw" fD fdD ["_law_pen_here", "_law_many"]) (GD : FnOk P w K mg base CX0 1 fD fdD ["_law_pen_here", "_law_many"] sp_draw) (GB : FnOk P w K mg base CX0 j fD fdD ["_law_pen_here", "_law_many"] (sp_drawB B0 dd))
    (DP : Def K mg "_law_pick" fP fdP ["_law_pen_here", "_law_options"]) (GP : FnOk P w K mg base CX0 2 fP fdP ["_law_pen_here", "_law_options"] (sp_pick K))
    (DS : Def K mg "_law_shuffled" fS fdS ["_law_pen_here", "_law_items"]) (GS : FnOk P w K mg base CX0 2 fS fdS ["_law_pen_here", "_law_items"] (sp_shuf K)) :
    FnOk P w K mg base CX0 (j + 1) f fd ["_law_pen_here", "_law_signs", "_law_bound"] (sp_lwants B0) := by
  refine F.ok sc_lwants (fun vs H Q E h => ?_) (fun cdv A outer s H vs Q E hr h => ?_)
  · obtain ⟨p, c, S, B, n, rfl, _⟩ := h
    rfl
  · obtain ⟨p, c, S, B, n, rfl, hP, hn, hS, nd, b0, b1, k⟩ := h
    have r1 : Room 1 _ := hr.mono (by omega)
    have r2 : Room 2 _ := hr.mono hj
    have hu := hu_of r1
    refine ⟨_, pss_cons (ps_set (i := 3) sc_lwants.nd rfl (Or.inl rfl) pe_dnew')
      (pss_cons (ps_for PassesOwn.never rfl (pi_list (pe_call GS r2 rfl DS.mgf DS.kp DS.bd .nil pass0 (pa_cons (pv 0) (pa_cons (pv 1) pa_nil)))) (pg_name (i := 4) sc_lwants.nd rfl (Or.inl rfl))
        (pss_one (ps_if (pt_cmpR op_gt (pe_call GD r1 rfl DD.mgf DD.kp DD.bd .nil pass0 (pa_cons (pv 0) (pa_cons pe_int pa_nil))) pe_int (nomark _))
          (pss_one (ps_dput hu (pv 3) (pv 4) (pe_call GP r2 rfl DP.mgf DP.kp DP.bd .nil pass0 (pa_cons (pv 0) (pa_cons (pe_lst' (pa_cons pe_int (pa_cons pe_int (pa_cons (pe_call GD r1 rfl DD.mgf DD.kp DD.bd .nil pass0 (pa_cons (pv 0) (pa_cons pe_int pa_nil)))
            (pa_cons (pe_call GB hr rfl DD.mgf DD.kp DD.bd .nil pass0 (pa_cons (pv 0) (pa_cons (pe_op op_add (pv 2) pe_int) pa_nil))) (pa_cons (pv 2) pa_nil)))))) pa_nil))) rfl)) pss_nil)))
      (pss_one (ps_ret (pv 3)))), ?_⟩
    intro d H1 n1
    have P1 := hP.same n1.same
    have lS : (signs S).length = S.length := signs_len S
    have dp : p ≠ d := hP.ne n1.free
    have dc : c ≠ d := hP.neC n1.free
    refine ⟨_, rfl, _, rfl, p, c, .str S, _, n, rfl, P1, by rw [lS]; omega, SqA.str (Nat.le_trans hS (by decide)), by rw [lS]; omega, fun H2 r ys d2 f2 h2 hp2 => ?_⟩
    obtain ⟨l, rfl, hl⟩ := perm_signs hp2
    have ll : l.length = S.length := by rw [hl.length_eq]; exact Array.length_toList
    have lnd : l.Nodup := hl.nodup_iff.mpr nd
    have rp : r ≠ p := fun z => P1.ne f2 z.symm
    have rd : r ≠ d := fun z => by rw [z, n1.here] at f2; cases f2
    refine ⟨r, rfl, ⟨_, SqL.of h2⟩, ?_⟩
    refine for_it (walk_list (xs := l.map sg)) (fun i σ' H' => ∃ (o4 : Option V) (cs : List (Nat × Int)) (m : Nat), σ' = [some (.ref p), some (.str S), some (.int B), some (.ref d), o4] ∧ But p H H' ∧ PenAt H' p c m ∧ m ≤ n + 10 + 19 * i ∧ H' r = some (.lst (l.map sg)) ∧ H' d = some (.dK (toC cs)) ∧
        (∀ x ∈ cs.map (·.1), x ∈ l.take i) ∧ (cs.map (·.1)).Nodup ∧ (∀ e ∈ cs, 0 ≤ e.2 ∧ e.2 ≤ B + 5) ∧ cs.length ≤ i)
      ⟨none, [], n + (signs S).length, rfl, (But.of n1.same).trans d2.but, d2.pen, by rw [lS]; omega, h2, d2.but _ _ dp.symm n1.here, (fun x hx => by cases hx), List.nodup_nil, (fun e he => by cases he), Nat.le_refl _⟩ (fun i σ' H' _ q => ?_) ?_ ?_
    · obtain ⟨_, _, _, _, _, _, _, h, _⟩ := q
      exact SqL.of h
    · rintro i v σ' Ha Hb hi ⟨o4, cs, m, rfl, hB, hPm, hm, hr', hd', hin, hnd, hbd, hcl⟩ ⟨rfl, hv⟩
      rw [List.length_map] at hi
      obtain ⟨x, hx, rfl⟩ : ∃ x, l[i]? = some x ∧ v = sg x := by
        rw [List.getElem?_map] at hv
        cases e : l[i]? with
        | none => rw [e] at hv; cases hv
        | some x => rw [e] at hv; exact ⟨x, rfl, (Option.some.inj hv).symm⟩
      have nx : l.take (i + 1) = l.take i ++ [x] := by
        rw [List.take_add_one, hx]
        rfl
      refine ⟨_, rfl, p, c, 4, m, rfl, hPm, by omega, by decide, by decide, fun H3 r3 d3 _ _ => ⟨_, _, rfl, rfl, _, rfl, ?_⟩⟩
      have hB3 := hB.trans d3.but
      have hr3 := d3.but _ _ rp hr'
      have hd3 := d3.but _ _ dp.symm hd'
      refine ite2 (fun _ => ?_) (fun _ => ?_)
      · refine ⟨_, rfl, _, rfl, p, c, 6, m + 1, rfl, d3.pen, by omega, by decide, by decide, fun H4 r4 d4 a0 a1 => ?_⟩
        refine ⟨_, rfl, _, rfl, _, _, rfl, rfl, p, c, B + 1, m + 2, rfl, d4.pen, by omega, by omega, by omega, fun H5 r5 d5 c0 c1 => ⟨_, rfl, by show 5 ≤ sizeLine; decide, fun q H6 n6 => ?_⟩⟩
        have P6 := d5.pen.same n6.same
        have b36 : But p H3 H6 := d4.but.trans (d5.but.trans (.of n6.same))
        have qp : q ≠ p := fun z => d5.pen.ne n6.free z.symm
        refine ⟨p, c, q, _, m + 2 + dd, rfl, P6, by omega, SqL.of n6.here, qp, by show 0 < 5; decide, by show 5 ≤ 1000000; decide, fun H7 v d7 hv => ?_⟩
        obtain ⟨z, rfl, z0, z1⟩ : ∃ z : Int, v = .int z ∧ 0 ≤ z ∧ z ≤ B + 5 := by
          rcases List.mem_cons.mp hv with rfl | hv
          · exact ⟨0, rfl, by decide, by omega⟩
          rcases List.mem_cons.mp hv with rfl | hv
          · exact ⟨1, rfl, by decide, by omega⟩
          rcases List.mem_cons.mp hv with rfl | hv
          · exact ⟨r4, rfl, a0, by omega⟩
          rcases List.mem_cons.mp hv with rfl | hv
          · exact ⟨r5, rfl, c0, by omega⟩
          rcases List.mem_cons.mp hv with rfl | hv
          · exact ⟨B, rfl, b0, by omega⟩
          cases hv
        have b37 := b36.trans d7.but
        have hd7 := b37 _ _ dp.symm hd3
        have hr7 := b37 _ _ rp hr3
        have new : x ∉ cs.map (·.1) := fun hm => by
          have hm := hin x hm
          obtain ⟨j, hj⟩ := List.mem_iff_getElem?.mp hm
          rw [List.getElem?_take] at hj
          split at hj
          · rename_i hlt
            have := (List.getElem?_inj (Nat.lt_trans hlt hi) lnd).mp (hj.trans hx.symm)
            omega
          · cases hj
        refine ⟨_, rfl, _, rfl, d, _, rfl, dput_toC hd7 new (Nat.lt_of_le_of_lt (show cs.length ≤ 10 by omega) (by decide)), ?_⟩
        have w8 : Wr H7 d (.dK (toC (cs ++ [(x, z)]))) (upd H7 d (.dK (toC (cs ++ [(x, z)])))) := .mk'
        generalize upd H7 d (HO.dK (toC (cs ++ [(x, z)]))) = H8 at w8 ⊢
        refine ⟨_, cs ++ [(x, z)], m + 2 + dd + 1, rfl, But.wr (hB3.trans b37) n1.free w8, d7.pen.els w8 dp dc, by omega, (w8.els r rd).trans hr7, w8.here, ?_, ?_, ?_, ?_⟩
        · intro y hy
          rw [List.map_append] at hy
          rw [nx]
          rcases List.mem_append.mp hy with hy | hy
          · exact List.mem_append_left _ (hin y hy)
          · exact List.mem_append_right _ hy
        · rw [List.map_append, List.nodup_append]
          refine ⟨hnd, by simp, fun y hy z' hz' => ?_⟩
          have hz' : z' = x := by simpa using hz'
          rw [hz']
          exact fun e => new (e ▸ hy)
        · intro e he
          rcases List.mem_append.mp he with he | he
          · exact hbd e he
          · rw [List.mem_singleton.mp he]
            exact ⟨z0, z1⟩
        · rw [List.length_append]
          show cs.length + 1 ≤ i + 1
          omega
      · exact ⟨_, cs, m + 1, rfl, hB3, d3.pen, by omega, hr3, hd3, fun y hy => by rw [nx]; exact List.mem_append_left _ (hin y hy), hnd, hbd, by omega⟩
    · rintro σ' H' ⟨o4, cs, m, rfl, hB, hPm, hm, hr', hd', hin, hnd, hbd, hcl⟩
      rw [List.length_map] at hm hin hcl
      refine ⟨_, rfl, k H' d cs ⟨hB, hPm.mono (by omega)⟩ n1.free hd' ⟨hnd, fun e he => ?_, fun e he => (hbd e he).1, by omega⟩ hbd⟩
      exact hl.mem_iff.mp (List.mem_of_mem_take (hin e.1 (List.mem_map.mpr ⟨e, he, rfl⟩)))
end
end My
end
section
set_option Elab.async false
set_option linter.all false
set_option maxRecDepth 100000
set_option maxHeartbeats 4000000
namespace My
open PySem PySem.Spec PyProof.Rows L2
abbrev s_full : Stmt := topS 59
/-- the counts above 0 of a dict, in the order of the signs -/
def fullC (l : List Nat) (cs : List (Nat × Int)) : List (Nat × Int) := (cts l fun c => (cntOf cs c).getD 0).filter fun e => decide (0 < e.2)
def sp_full : Sp := fun vs H Q _ => ∃ (S : Str) (d : Addr) (cs : List (Nat × Int)), vs = [.str S, .ref d] ∧ H d = some (.dK (toC cs)) ∧ S.length ≤ 4000 ∧ S.cps.toList.Nodup ∧ ∀ H' r, Same H H' → H r = none → H' r = some (.dK (toC (fullC S.cps.toList cs))) → Q (.ref r) H'
section
variable {P : Program} {w : World} {K : PySem.W.Frag} {mg : Str → Option Value} {base : Heap}
abbrev NFu : List Str := ["_law_signs", "_law_counts", "_law_sign"]
theorem sc_full : FnScope NFu ["_law_signs", "_law_counts"] (defScope s_full) := ⟨rfl, rfl, rfl, by decide +kernel, rfl, by decide +kernel, by decide +kernel⟩
theorem ok_full {f : Addr} {fd : FuncData} (F : Fun K "_law_full" "_law_full" s_full f fd) (td : mg "dict" = none) : FnOk P w K mg base CX0 1 f fd ["_law_signs", "_law_counts"] sp_full := by
  refine F.ok sc_full (fun vs H Q E h => ?_) (fun cdv A outer s H vs Q E hr h => ?_)
  · obtain ⟨S, d, cs, rfl, _⟩ := h
    rfl
  · obtain ⟨S, d, cs, rfl, hd, hS, nd, k⟩ := h
    have hu := hu_of hr
    refine ⟨_, pss_one (ps_ret (pe_callTy (call_dictP rfl) (by rfl) td (by decide +kernel) (pa_cons (by exact (pe_lc (own := [("_law_sign", 2)]) (g := gName 2) rfl sc_full.nd (pi_str (pv 0)) (blkOk_by (own := [("_law_sign", 2)]) (N := NFu) (sc := defScope s_full) (by decide +kernel))
      (fun _ _ _ _ _ => pg_name (i := 2) sc_full.nd rfl (Or.inl rfl)) (fun _ _ _ _ _ => pts_one (pt_cmpR op_gt (pe_dget2 hu (pv 1) (pv 2) pe_int (by first | exact ⟨rfl, rfl, rfl, rfl⟩ | exact ⟨rfl, rfl, rfl, rfl, rfl⟩)) pe_int (nomark _)))
      (fun _ _ _ _ _ => pe_tup' (pa_cons (pv 2) (pa_cons (pe_dget hu (pv 1) (pv 2) (fun _ _ => rfl)) pa_nil))))) pa_nil))), ?_⟩
    have hz : S.cps.toList.length = (signs S).length := by rw [signs_len]; exact Array.length_toList
    refine ⟨_, rfl, S, rfl, fun D hD => lc_pair walk_signs S.cps.toList hz (fun c => decide (0 < (cntOf cs c).getD 0)) (fun c y H' => ∃ q, y = V.ref q ∧ H' q = some (.tup [sg c, .int ((cntOf cs c).getD 0)])) ?_ hD (fun _ _ => trivial) (by rw [signs_len]; exact Nat.lt_of_le_of_lt hS (by decide)) (fun x => rfl) ?_ ?_ ?_⟩
    · rintro c y H5 H6 ⟨zs, hl5⟩ hb ⟨q, e, hq⟩
      exact ⟨q, e, hb q _ (ne_of hq hl5 (by intro z; cases z)) hq⟩
    · intro j x c H' C hx hc s hC
      obtain rfl : x = sg c := by
        unfold signs at hx
        rw [List.getElem?_map, hc] at hx
        exact (Option.some.inj hx).symm
      have hd' := s _ _ hd
      refine ⟨_, rfl, d, rfl, .inl ⟨_, .inl hd'⟩, _, rfl, _, dget_toC c hd', ?_⟩
      have e : ((cntOf cs c).map V.int).getD (.int 0) = .int ((cntOf cs c).getD 0) := by cases cntOf cs c <;> rfl
      rw [e]
      exact ⟨_, _, rfl, rfl, _, rfl, hC H' (Same.refl _)⟩
    · intro j x c H' C hx hc hp s hC
      obtain rfl : x = sg c := by
        unfold signs at hx
        rw [List.getElem?_map, hc] at hx
        exact (Option.some.inj hx).symm
      have hd' := s _ _ hd
      have hp := of_decide_eq_true hp
      obtain ⟨z, hz⟩ : ∃ z, cntOf cs c = some z := by
        cases e : cntOf cs c with
        | none => rw [e] at hp; exact absurd hp (by decide)
        | some z => exact ⟨z, rfl⟩
      have dg := dget_toC c hd'
      rw [hz] at dg
      refine ⟨_, rfl, _, rfl, _, rfl, d, _, rfl, dg, by show 2 ≤ sizeLine; decide, fun q H6 n6 => hC H6 _ n6.same ⟨q, rfl, ?_⟩⟩
      rw [hz]
      exact n6.here
    · intro H' ys s hD' hP
      obtain ⟨qs, rfl, hq⟩ := pairs_refs (K := K) (key := fun c => Sum.inr ⟨#[c]⟩) (val := fun c => .int ((cntOf cs c).getD 0)) hP
      refine ⟨D, qs, _, rfl, SqL.of hD', hq, fun r hr' => ?_⟩
      refine k _ r (s.trans (New.same (.mk' hr'))) (by cases e : H r with | none => rfl | some o => have := s _ _ e; rw [hr'] at this; cases this) ?_
      rw [upd_same, mergeK_nodup]
      · unfold fullC cts toC
        rw [List.filter_map, List.map_map]
        rfl
      · rw [List.map_map]
        exact (keys_nodup nd).sublist (List.Sublist.map _ (List.filter_sublist))
end
end My
end
section
set_option Elab.async false
set_option linter.all false
set_option maxRecDepth 100000
set_option maxHeartbeats 4000000
namespace My
open PySem PySem.Spec PyProof.Rows L2 LamX
structure PltA (P : Program) (w : World) (K : PySem.W.Frag) (mg : Str → Option Value) (base : Heap) (CC : Addr) : Prop where
  ex : ∃ p g fd, PropOf K CC "plates" p g ∧ FnOk P w K mg base CX0 2 g fd ["self"] (getSp CC "_plates") ∧ Binds K fd ["self"] []
section
variable {P : Program} {w : World} {K : PySem.W.Frag} {mg : Str → Option Value} {base : Heap} {f : Addr} {cdv : Value} {A : Around} {outer : List Env} {s : Shared} {H0 : Hp} {E : XK}
/-- if not pairs_right(board, ..): return False -/
def q6 (CC C : Addr) : TS := fun D σ H => ∃ (o0 o2 o7 o9 o10 o11 o12 o13 o14 o15 o16 o17 o18 : Option V) (p t1 b d a1 a2 m : Addr) (S : Str) (ys ms : List V) (ps : List (Nat × Nat)) (cs : List (Str × Int)), σ = sl o0 p o2 (some (.ref t1)) (some (.ref d)) (some (.ref a1)) (some (.ref a2)) o7 (some (.ref m)) o9 o10 o11 o12 o13 o14 o15 o16 o17 o18 ∧ Pq H CC C t1 b d a1 a2 S ys ps cs ∧ H m = some (.lst ms) ∧ ms.length ≤ 20 ∧ (∀ v ∈ ms, CI CC C S ps cs H v) ∧
  ∀ H', Same H H' → D.nx σ H'
theorem st6 {C CC W fP : Addr} {fdP : FuncData} (td : mg "dict" = none) (cc : CCls K CC) (OP : PltA P w K mg base CC) (N : Fk K C CC W) (DP : Def K mg "_law_pairs_right" fP fdP ["_law_one", "_law_others"]) (GP : FnG P w K mg base 4 fP fdP ["_law_one", "_law_others"] (sp_pairs K C CC W))
    (g : (A.deeper (envOfC "law" (defScope s_law) s.heap.objs.size f cdv)).guards = some []) (hr : LR 12 f cdv A s) : PS (LX P w K mg base f cdv A outer s H0 E) (lawSt 6) (q6 CC C) := by
  have r4 : Room 4 _ := hr.mono (by decide)
  have r3 : Room 3 _ := hr.mono (by decide)
  obtain ⟨p1, g1, fd1, hp1, G1, b1⟩ := OP.ex
  refine PS.weak (ps_if (pt_not (pt_val (pe_callG (E := E0) GP g r4 rfl DP.mgf DP.kp DP.bd .nil (pa_cons (pv 6) (pa_cons (pe_op op_cat' (pv 8) (pe_lst' (pa_cons (pe_tup' (pa_cons (pe_prop (E := E0) (pv 6) cc.cls hp1 G1 r3 b1 .nil pass0 rfl) (pa_cons pe_bl pa_nil)))
    (pa_cons (pe_tup' (pa_cons (pv 5) (pa_cons pe_bl pa_nil))) (pa_cons (pe_tup' (pa_cons (pe_callTy call_dictD (by rfl) td (by decide +kernel) (pa_cons (pv 4) pa_nil)) (pa_cons pe_bl pa_nil)))
    (pa_cons (pe_tup' (pa_cons pe_non (pa_cons pe_bl pa_nil))) pa_nil)))))) pa_nil))))) (pss_one (ps_ret pe_bl)) pss_nil) ?_
  rintro D σ H ⟨o0, o2, o7, o9, o10, o11, o12, o13, o14, o15, o16, o17, o18, p, t1, b, d, a1, a2, m, S, ys, ms, ps, cs, rfl, hp, hm, ml, hms, k⟩
  obtain ⟨dx, fa, dd, tp, es, i1, i2, i3, i4, i5⟩ := id hp.cb.at_
  refine ⟨_, rfl, _, rfl, _, rfl, a2, dx, _, rfl, i1, a2, dx, _, _, rfl, i1, cfs_plates fa dd tp, by show 2 ≤ sizeLine; decide, fun qa Ha na => ⟨_, rfl, by show 2 ≤ sizeLine; decide, fun qb Hb nb => ?_⟩⟩
  have sab := na.same.trans nb.same
  refine ⟨_, rfl, d, toS cs, rfl, .inl (sab _ _ hp.h4), fun qc fc => ?_⟩
  have nc : New Hb qc (.dK (toS cs)) (upd Hb qc (.dK (toS cs))) := .mk' fc
  generalize upd Hb qc (HO.dK (toS cs)) = Hc at nc ⊢
  refine ⟨by show 2 ≤ sizeLine; decide, fun qd Hd nd => ⟨by show 2 ≤ sizeLine; decide, fun qe He ne => ⟨by show 4 ≤ sizeLine; decide, fun ql Hl nl => ?_⟩⟩⟩
  have ke : Same He Hl := nl.same
  have kd : Same Hd Hl := ne.same.trans ke
  have kc : Same Hc Hl := nd.same.trans kd
  have kb : Same Hb Hl := nc.same.trans kc
  have ka : Same Ha Hl := nb.same.trans kb
  have k0 : Same H Hl := na.same.trans ka
  refine ⟨m, ql, ms, _, rfl, rfl, k0 _ _ hm, nl.here, Nat.le_trans (show ms.length + 4 ≤ 30 by omega) (by decide), fun r Hr nr => ?_⟩
  have kr := nr.same
  have S0 := k0.trans kr
  refine ⟨.ref a2, r, _, rfl, nr.here, fun y hy => ?_, fun H' s' => ⟨_, rfl, iteF (k H' (S0.trans s'))⟩⟩
  have lw := due_low hp.good
  have tx := csp_tx hp.good hp.csp
  rcases List.mem_append.mp hy with hy | hy
  · obtain ⟨q, a, T, qs, ds, fl, rfl, h1, h2, h3, h4, rfl⟩ := hms y hy
    exact ⟨q, .ref a, _, rfl, S0 _ _ h1, fun H' s' => cmp_cc (hp.cb.same (S0.trans s')) (h2.same (S0.trans s')) lw (due_low h3) tx (csp_tx h3 h4)⟩
  rcases List.mem_cons.mp hy with rfl | hy
  · exact ⟨qa, .ref tp, false, rfl, (ka.trans kr) _ _ na.here, fun H' s' => cmp_cb (hp.cb.same (S0.trans s')) lw tx (.tup ((S0.trans s') _ _ i4)) N.bC⟩
  rcases List.mem_cons.mp hy with rfl | hy
  · exact ⟨qb, .ref a1, false, rfl, (kb.trans kr) _ _ nb.here, fun H' s' => (cmp_fc (hp.ft.same (S0.trans s')) (hp.cb.same (S0.trans s')) lw lw tx N.iF N.iC N.cf N.fc).swap⟩
  rcases List.mem_cons.mp hy with rfl | hy
  · exact ⟨qd, .ref qc, false, rfl, (kd.trans kr) _ _ nd.here, fun H' s' => cmp_cb (hp.cb.same (S0.trans s')) lw tx (.dict (((kc.trans kr).trans s') _ _ nc.here)) N.bC⟩
  rw [List.mem_singleton.mp hy]
  exact ⟨qe, .non, false, rfl, (ke.trans kr) _ _ ne.here, fun H' s' => cmp_cb (hp.cb.same (S0.trans s')) lw tx .non N.bC⟩
end
end My
end
section
set_option Elab.async false
set_option linter.all false
set_option maxRecDepth 100000
set_option maxHeartbeats 4000000
/-! Qwm: numbers of signs that differ. -/
namespace My
open PySem PySem.Spec PyProof.Rows L2
/-- a number set -/
def putI (cs : List (Nat × Int)) (a : Nat) (v : Int) : List (Nat × Int) := if a ∈ cs.map (·.1) then cs.map fun e => if e.1 = a then (e.1, v) else e else cs ++ [(a, v)]
theorem putK_toC (cs : List (Nat × Int)) (a : Nat) (v : Int) : putK (toC cs) (Sum.inr ⟨#[a]⟩ : Key) (.int v) = toC (putI cs a v) := by
  unfold putI
  by_cases h : a ∈ cs.map (·.1)
  · rw [if_pos h]
    unfold putK
    have e : ((toC cs).any fun kv => decide (kv.1 = (Sum.inr ⟨#[a]⟩ : Key))) = true := by
      rw [List.any_eq_true]
      obtain ⟨x, hx, ex⟩ := List.mem_map.mp h
      exact ⟨(Sum.inr ⟨#[x.1]⟩, .int x.2), List.mem_map.mpr ⟨x, hx, rfl⟩, decide_eq_true (keyS_inj.mpr ex)⟩
    rw [if_pos e]
    unfold toC
    rw [List.map_map, List.map_map]
    apply List.map_congr_left
    intro x _
    show (if (Sum.inr ⟨#[x.1]⟩ : Key) = Sum.inr ⟨#[a]⟩ then ((Sum.inr ⟨#[x.1]⟩ : Key), V.int v) else (Sum.inr ⟨#[x.1]⟩, .int x.2)) = _
    by_cases q : x.1 = a
    · rw [if_pos (keyS_inj.mpr q)]
      simp [q]
    · rw [if_neg (fun z => q (keyS_inj.mp z))]
      simp [q]
  · rw [if_neg h, putK_new]
    · simp [toC]
    · rw [toC_keys]
      intro m
      obtain ⟨x, hx, ex⟩ := List.mem_map.mp m
      exact h (List.mem_map.mpr ⟨x, hx, keyS_inj.mp ex⟩)
theorem dput_toCI {H : Hp} {d : Addr} {cs : List (Nat × Int)} {a : Nat} {v : Int} (e : H d = some (.dK (toC cs))) (l : cs.length < sizeLine) : DPut H d (sg a) (.int v) (upd H d (.dK (toC (putI cs a v)))) := by
  rw [← putK_toC]
  exact DPut.k (k := Sum.inr ⟨#[a]⟩) e (by simpa [toC] using l)
/-- the numbers of a dict -/
abbrev cfn (cs : List (Nat × Int)) : Nat → Int := fun c => (cntOf cs c).getD 0
theorem cnt_pos {e : Nat × Int} {h : List (Nat × Int)} {a : Nat} (q : e.1 = a) : cntOf (e :: h) a = some e.2 := by simp [cntOf, q]
theorem cnt_neg {e : Nat × Int} {h : List (Nat × Int)} {a : Nat} (q : ¬ e.1 = a) : cntOf (e :: h) a = cntOf h a := by simp [cntOf, q]
theorem cnt_map {a : Nat} {v : Int} : ∀ (cs : List (Nat × Int)) (k : Nat), cntOf (cs.map fun e => if e.1 = a then (e.1, v) else e) k = if k = a then (cntOf cs k).map (fun _ => v) else cntOf cs k
  | [], k => by
    show none = if k = a then none else none
    split <;> rfl
  | e :: cs, k => by
    rw [List.map_cons]
    by_cases h1 : e.1 = a
    · rw [if_pos h1]
      by_cases h2 : e.1 = k
      · rw [cnt_pos (e := (e.1, v)) h2, cnt_pos h2, if_pos (h2.symm.trans h1)]
        rfl
      · rw [cnt_neg (e := (e.1, v)) h2, cnt_neg h2, cnt_map cs k]
    · rw [if_neg h1]
      by_cases h2 : e.1 = k
      · rw [cnt_pos h2, cnt_pos h2, if_neg (fun z => h1 (h2.trans z))]
      · rw [cnt_neg h2, cnt_neg h2, cnt_map cs k]
theorem cnt_some {cs : List (Nat × Int)} {a : Nat} (h : a ∈ cs.map (·.1)) : ∃ v, cntOf cs a = some v := by
  induction cs with
  | nil => cases h
  | cons e cs ih =>
    by_cases q : e.1 = a
    · exact ⟨_, cnt_pos q⟩
    · rw [cnt_neg q]
      rw [List.map_cons] at h
      rcases List.mem_cons.mp h with h | h
      · exact absurd h.symm q
      · exact ih h
theorem cnt_app {a : Nat} {v : Int} : ∀ (cs : List (Nat × Int)) (k : Nat), a ∉ cs.map (·.1) → cntOf (cs ++ [(a, v)]) k = if k = a then some v else cntOf cs k
  | [], k, _ => by
    by_cases q : a = k
    · rw [List.nil_append, cnt_pos (e := (a, v)) q, if_pos q.symm]
    · rw [List.nil_append, cnt_neg (e := (a, v)) q, if_neg fun z => q z.symm]
  | e :: cs, k, h => by
    rw [List.map_cons] at h
    have h1 : a ≠ e.1 := fun z => h (z ▸ List.mem_cons_self)
    have h2 : a ∉ cs.map (·.1) := fun z => h (List.mem_cons_of_mem _ z)
    rw [List.cons_append]
    by_cases q : e.1 = k
    · rw [cnt_pos q, cnt_pos q, if_neg fun z => h1 (z.symm.trans q.symm)]
    · rw [cnt_neg q, cnt_neg q, cnt_app cs k h2]
theorem cfn_put (cs : List (Nat × Int)) (a : Nat) (v : Int) (k : Nat) : cfn (putI cs a v) k = if k = a then v else cfn cs k := by
  show (cntOf (putI cs a v) k).getD 0 = if k = a then v else (cntOf cs k).getD 0
  unfold putI
  by_cases h : a ∈ cs.map (·.1)
  · rw [if_pos h, cnt_map]
    by_cases q : k = a
    · rw [if_pos q, if_pos q]
      obtain ⟨w, hw⟩ := cnt_some h
      rw [q, hw]
      rfl
    · rw [if_neg q, if_neg q]
  · rw [if_neg h, cnt_app cs k h]
    by_cases q : k = a
    · rw [if_pos q, if_pos q]
      rfl
    · rw [if_neg q, if_neg q]
theorem putI_ok {S : Str} {cs : List (Nat × Int)} {a : Nat} {v : Int} (h : CntOk S cs) (ha : a ∈ S.cps.toList) (hv : 0 ≤ v) (hl : cs.length ≤ 1000) : CntOk S (putI cs a v) := by
  unfold putI
  by_cases m : a ∈ cs.map (·.1)
  · rw [if_pos m]
    have ek : (cs.map fun e => if e.1 = a then (e.1, v) else e).map (·.1) = cs.map (·.1) := by
      rw [List.map_map]
      apply List.map_congr_left
      intro e _
      show (if e.1 = a then (e.1, v) else e).1 = e.1
      split <;> rfl
    refine ⟨by rw [ek]; exact h.nd, fun e he => ?_, fun e he => ?_, by rw [List.length_map]; exact h.len⟩
    · obtain ⟨x, hx, rfl⟩ := List.mem_map.mp he
      have := h.inS x hx
      split
      · exact this
      · exact this
    · obtain ⟨x, hx, rfl⟩ := List.mem_map.mp he
      have := h.pos x hx
      split
      · exact hv
      · exact this
  · rw [if_neg m]
    refine ⟨?_, fun e he => ?_, fun e he => ?_, by rw [List.length_append, List.length_cons, List.length_nil]; omega⟩
    · rw [List.map_append, List.nodup_append]
      refine ⟨h.nd, by simp, fun x hx y hy z => ?_⟩
      have hy : y = a := by simpa using hy
      exact m (hy ▸ z ▸ hx)
    · rcases List.mem_append.mp he with he | he
      · exact h.inS e he
      · rw [List.mem_singleton.mp he]; exact ha
    · rcases List.mem_append.mp he with he | he
      · exact h.pos e he
      · rw [List.mem_singleton.mp he]; exact hv
theorem putI_len (cs : List (Nat × Int)) (a : Nat) (v : Int) : (putI cs a v).length ≤ cs.length + 1 := by
  unfold putI
  split
  · rw [List.length_map]; omega
  · rw [List.length_append]; exact Nat.le_refl _
theorem cfn_nn {S : Str} {cs : List (Nat × Int)} (h : CntOk S cs) (c : Nat) : 0 ≤ cfn cs c := by
  show 0 ≤ (cntOf cs c).getD 0
  unfold cntOf
  cases e : cs.find? fun e => decide (e.1 = c) with
  | none => exact Int.le_refl 0
  | some x => exact h.pos x (List.mem_of_find?_eq_some e)
theorem cnt_filter {f : Nat → Int} {c : Nat} : ∀ {l : List Nat}, c ∈ l → (cntOf ((cts l f).filter fun e => decide (0 < e.2)) c).getD 0 = if 0 < f c then f c else 0
  | a :: l, h => by
    have hc : cts (a :: l) f = (a, f a) :: cts l f := rfl
    rw [hc]
    by_cases q : 0 < f a
    · rw [List.filter_cons_of_pos (by exact decide_eq_true q)]
      by_cases z : a = c
      · rw [cnt_pos (e := (a, f a)) z, ← z, if_pos q]
        rfl
      · rw [cnt_neg (e := (a, f a)) z]
        exact cnt_filter ((List.mem_cons.mp h).resolve_left fun y => z y.symm)
    · rw [List.filter_cons_of_neg (by simpa using q)]
      by_cases z : a = c
      · subst z
        by_cases m : a ∈ l
        · exact cnt_filter m
        · rw [if_neg q]
          have : cntOf ((cts l f).filter fun e => decide (0 < e.2)) a = none := by
            unfold cntOf
            rw [List.find?_eq_none.mpr]
            · rfl
            · intro x hx
              have := (List.mem_filter.mp hx).1
              obtain ⟨y, hy, rfl⟩ := List.mem_map.mp this
              simp
              intro e
              exact m (e ▸ hy)
          rw [this]
          rfl
      · exact cnt_filter ((List.mem_cons.mp h).resolve_left fun y => z y.symm)
theorem full_same {S : Str} {cs : List (Nat × Int)} (h : CntOk S cs) {c : Nat} (hc : c ∈ S.cps.toList) : cfn (fullC S.cps.toList cs) c = cfn cs c := by
  show (cntOf (fullC S.cps.toList cs) c).getD 0 = _
  unfold fullC
  rw [cnt_filter hc]
  have := cfn_nn h c
  by_cases q : 0 < (cntOf cs c).getD 0
  · rw [if_pos q]
  · rw [if_neg q]
    have n0 : 0 ≤ (cntOf cs c).getD 0 := this
    show 0 = (cntOf cs c).getD 0
    omega
theorem full_ok {S : Str} {cs : List (Nat × Int)} (nd : S.cps.toList.Nodup) (hl : S.length ≤ 1000) : CntOk S (fullC S.cps.toList cs) := by
  have zl : S.cps.toList.length = S.length := Array.length_toList
  have ek : (cts S.cps.toList fun c => (cntOf cs c).getD 0).map (·.1) = S.cps.toList := by
    unfold cts
    rw [List.map_map]
    exact List.map_id _
  refine ⟨?_, fun e he => ?_, fun e he => ?_, ?_⟩
  · have nd' : ((cts S.cps.toList fun c => (cntOf cs c).getD 0).map (·.1)).Nodup := by rw [ek]; exact nd
    exact nd'.sublist (List.Sublist.map _ List.filter_sublist)
  · obtain ⟨c, hc, rfl⟩ := List.mem_map.mp (List.mem_filter.mp he).1
    exact hc
  · have := of_decide_eq_true (List.mem_filter.mp he).2
    omega
  · refine Nat.le_trans (List.length_filter_le _ _) ?_
    unfold cts
    rw [List.length_map]
    omega
theorem full_emp {S : Str} {cs : List (Nat × Int)} (h : CntOk S cs) : (toC (fullC S.cps.toList cs)).isEmpty = S.cps.toList.all fun c => decide (cfn cs c = 0) := by
  have key : ∀ l : List Nat, (toC ((cts l (cfn cs)).filter fun e => decide (0 < e.2))).isEmpty = l.all fun c => decide (cfn cs c = 0) := by
    intro l
    induction l with
    | nil => rfl
    | cons a l ih =>
      have hc : cts (a :: l) (cfn cs) = (a, cfn cs a) :: cts l (cfn cs) := rfl
      have nn := cfn_nn h a
      rw [hc, List.all_cons]
      by_cases q : 0 < cfn cs a
      · rw [List.filter_cons_of_pos (by exact decide_eq_true q), decide_eq_false (by omega)]
        rfl
      · rw [List.filter_cons_of_neg (by simpa using q), decide_eq_true (by omega), Bool.true_and]
        exact ih
  exact key _
end My
end
section
set_option Elab.async false
set_option linter.all false
set_option maxRecDepth 100000
set_option maxHeartbeats 4000000
namespace My
open PySem PySem.Spec PyProof.Rows L2
def sp_pickS : Sp := fun vs H Q _ => ∃ (p c : Addr) (z : Str) (n : Nat), vs = [.ref p, .str z] ∧ PenAt H p c n ∧ n < 2 ^ 60 ∧ 0 < z.length ∧ z.length ≤ 1000 ∧ ∀ H' x, DrewP H p c (n + 1) H' → x ∈ z.cps.toList → Q (sg x) H'
section
variable {P : Program} {w : World} {K : PySem.W.Frag} {mg : Str → Option Value} {base : Heap}
theorem ok_pickS {f fD : Addr} {fd fdD : FuncData} (F : Fun K "_law_pick" "_law_pick" s_pick f fd) (T : TDraw mg) (D : Def K mg "_law_draw" fD fdD ["_law_pen_here", "_law_many"]) (G : FnOk P w K mg base CX0 1 fD fdD ["_law_pen_here", "_law_many"] sp_draw) :
    FnOk P w K mg base CX0 2 f fd ["_law_pen_here", "_law_options"] sp_pickS := by
  refine F.ok sc_pick (fun vs H Q E h => ?_) (fun cdv A outer s H vs Q E hr h => ?_)
  · obtain ⟨p, c, z, n, rfl, _⟩ := h
    rfl
  · obtain ⟨p, c, z, n, rfl, hP, hn, h0, h1, k⟩ := h
    have hz : z.length ≤ sizeLine := Nat.le_trans h1 (by decide)
    refine ⟨_, pss_one (ps_ret (pe_ix ix_str (pv 1) (pe_call G hr rfl D.mgf D.kp D.bd .nil pass0 (pa_cons (pv 0) (pa_cons (pe_callB call_len_str (by rfl) T.len PySem.boot_len (pa_cons (pv 1) pa_nil)) pa_nil))) (fun _ _ => rfl))), ?_⟩
    refine ⟨_, rfl, _, rfl, _, rfl, z, rfl, hz, p, c, _, n, rfl, hP, hn, by omega, by omega, fun H' r hD r0 r1 => ?_⟩
    obtain ⟨j, rfl⟩ : ∃ j : Nat, r = j := ⟨_, (Int.toNat_of_nonneg r0).symm⟩
    have zl : z.cps.toList.length = z.length := Array.length_toList
    have hj : j < z.cps.toList.length := by omega
    exact ⟨z, _, z.cps.toList[j], rfl, rfl, hz, atI_nat (by simp [hj]), k _ _ hD (List.getElem_mem hj)⟩
end
end My
end
section
set_option Elab.async false
set_option linter.all false
set_option maxRecDepth 100000
set_option maxHeartbeats 4000000
namespace My
open PySem PySem.Spec PyProof.Rows L2 LamX
/-- Wants(font, counts) -/
def tMkW (W C : Addr) (t : TA) : TE := fun σ H Q => t σ H fun vs H1 => ∃ (fa d : Addr) (S : Str) (ps : List (Nat × Nat)) (cs : List (Nat × Int)), vs = [.ref fa, .ref d] ∧ FontAt H1 C fa S ps ∧ S.length ≤ 4000 ∧ S.cps.toList.Nodup ∧ H1 d = some (.dK (toC cs)) ∧ CntOk S cs ∧
  ∀ H' x, Same H1 H' → H1 x = none → WantsAt H' W C x S ps (cfn cs) → Q (.ref x) H'
theorem pe_mkW {X : Cx} {W C fI : Addr} {fdI : FuncData} {e : Expr} {es : List Expr} {p pos : Pos} {t : TA} (M : Mk X.K W fI) (F : FnOk X.prog X.w X.K X.mg X.base CX0 4 fI fdI ["self", "font", "counts"] (sp_winit W C)) (hr : Room 5 X.A) (hg : Gl X "Wants") (gW : X.mg "Wants" = some (.ref W)) (hb : Binds X.K fdI ["self", "font", "counts"] []) (ha : PA X (e :: es) t)
    (he : starEach (e :: es) X.env = (false, eval e X.env) :: starEach es X.env := by rfl) (hpl : (backTo pos (starEach es X.env)).any (·.1) = false := by rfl) : PE X (.Call (.Name "Wants" p) (e :: es) [] pos) (tMkW W C t) := by
  refine PE.weak (pe_make M F hr hg gW hb .nil pass0 (PA.mc ha) (by decide) he hpl) fun σ H Q q => ⟨_, q, fun vs H1 q1 => ?_⟩
  obtain ⟨fa, d, S, ps, cs, rfl, hF, hS, nd, hd, hc, k⟩ := q1
  intro x dx hx hdx ne
  have up := made_up (C := W) hx hdx
  exact ⟨x, dx, fa, d, S, ps, cs, rfl, upd_same, hF.same up, hS, nd, up _ _ hd, hc, fun H' bt wa => ⟨rfl, k H' x (made_same hx hdx bt) hx wa⟩⟩
theorem WantsAt.extL {H H1 : Hp} {W C a : Addr} {S : Str} {ps : List (Nat × Nat)} {f : Nat → Int} (s : ExtL H H1) (h : WantsAt H W C a S ps f) : WantsAt H1 W C a S ps f := by
  obtain ⟨dx, fa, d, h1, h2, h3⟩ := h.at_
  exact ⟨dx, fa, d, s _ _ h1 (fun _ z => by cases z), h2.extL s, s _ _ h3 (fun _ z => by cases z)⟩
abbrev sameN (S T : Str) (ps qs : List (Nat × Nat)) (f g : Nat → Int) : Bool := decide (S = T ∧ dueOf S (headsAll ps) = dueOf T (headsAll qs)) && S.cps.toList.all fun c => decide (f c = g c)
/-- wants, or a dict, and whether it is the same -/
def WI (W C : Addr) (S : Str) (ps : List (Nat × Nat)) (f : Nat → Int) (H : Hp) (v : V) : Prop := ∃ q x fl, v = .ref q ∧ H q = some (.tup [.ref x, .bl fl]) ∧
  ((∃ T qs g, WantsAt H W C x T (dueOf T (headsAll qs)) g ∧ Good 10 T qs ∧ fl = sameN S T ps qs f g) ∨ (∃ kvs, H x = some (.dK kvs) ∧ fl = false))
section
variable {H H1 : Hp} {W C : Addr} {S : Str} {ps : List (Nat × Nat)} {f : Nat → Int} {v : V}
theorem WI.same (s : Same H H1) (h : WI W C S ps f H v) : WI W C S ps f H1 v := by
  obtain ⟨q, x, fl, e, h1, h2⟩ := h
  refine ⟨q, x, fl, e, s _ _ h1, ?_⟩
  rcases h2 with ⟨T, qs, g, h2, h3⟩ | ⟨kvs, h2, h3⟩
  · exact .inl ⟨T, qs, g, h2.same s, h3⟩
  · exact .inr ⟨kvs, s _ _ h2, h3⟩
theorem WI.extL (s : ExtL H H1) (h : WI W C S ps f H v) : WI W C S ps f H1 v := by
  obtain ⟨q, x, fl, e, h1, h2⟩ := h
  refine ⟨q, x, fl, e, s _ _ h1 (fun _ z => by cases z), ?_⟩
  rcases h2 with ⟨T, qs, g, h2, h3⟩ | ⟨kvs, h2, h3⟩
  · exact .inl ⟨T, qs, g, h2.extL s, h3⟩
  · exact .inr ⟨kvs, s _ _ h2 (fun _ z => by cases z), h3⟩
end
theorem same_no {S : Str} {ps : List (Nat × Nat)} {f g : Nat → Int} {x : Nat} (hx : x ∈ S.cps.toList) (h : f x ≠ g x) : false = sameN S S ps ps f g := by
  have : (S.cps.toList.all fun c => decide (f c = g c)) = false := by
    rw [List.all_eq_false]
    exact ⟨x, hx, by simpa using h⟩
  show false = (_ && _)
  rw [this, Bool.and_false]
theorem same_yes {S : Str} {ps : List (Nat × Nat)} {f g : Nat → Int} (h : ∀ c ∈ S.cps.toList, f c = g c) : true = sameN S S ps ps f g := by
  show true = (_ && _)
  rw [decide_eq_true ⟨rfl, rfl⟩, Bool.true_and]
  exact (List.all_eq_true.mpr fun c hc => decide_eq_true (h c hc)).symm
theorem cnt_len {S : Str} {ns : List (Nat × Int)} (h : CntOk S ns) (hS : S.length ≤ 10) : ns.length ≤ 10 := by
  have zl : S.cps.toList.length = S.length := Array.length_toList
  have := nodup_len h.nd (m := S.cps.toList) fun x hx => by
    obtain ⟨e, he, rfl⟩ := List.mem_map.mp hx
    exact h.inS e he
  rw [List.length_map] at this
  omega
section
variable {P : Program} {w : World} {K : PySem.W.Frag} {mg : Str → Option Value} {base : Heap} {f : Addr} {cdv : Value} {A : Around} {outer : List Env} {s : Shared} {H0 : Hp} {E : XK}
/-- numbers = wants(..) -/
def q7 : TS := fun D σ H => ∃ (o0 o2 o4 o5 o6 o7 o8 o9 o10 o11 o12 o13 o14 o15 o16 o17 o18 : Option V) (p c t1 b : Addr) (n : Nat) (S : Str), σ = sl o0 p o2 (some (.ref t1)) o4 o5 o6 o7 o8 o9 o10 o11 o12 o13 o14 o15 o16 o17 o18 ∧ PenAt H p c n ∧ n < 2 ^ 47 ∧ H t1 = some (.tup [.str S, .ref b]) ∧ S.length ≤ 10 ∧ S.cps.toList.Nodup ∧
  ∀ H' dn ns, DrewP H p c (n + 200) H' → H' dn = some (.dK (toC ns)) → CntOk S ns → D.nx (sl o0 p o2 (some (.ref t1)) o4 o5 o6 o7 o8 (some (.ref dn)) o10 o11 o12 o13 o14 o15 o16 o17 o18) H'
theorem st7 {fN : Addr} {fdN : FuncData} (DN : Def K mg "_law_wants" fN fdN ["_law_pen_here", "_law_signs", "_law_bound"]) (GN : FnOk P w K mg base CX0 5 fN fdN ["_law_pen_here", "_law_signs", "_law_bound"] (sp_lwants 5000000000000000000000000000000)) (hr : LR 12 f cdv A s) :
    PS (LX P w K mg base f cdv A outer s H0 E) (lawSt 7) q7 := by
  have r5 : Room 5 _ := hr.mono (by decide)
  refine PS.weak (ps_set (i := 9) sc_law.nd rfl (Or.inr rfl) (pe_call GN r5 rfl DN.mgf DN.kp DN.bd .nil pass0 (pa_cons (pv 1) (pa_cons (pe_ix ix_tup (pv 3) pe_int (fun _ _ => rfl)) (pa_cons pe_int pa_nil))))) ?_
  rintro D σ H ⟨o0, o2, o4, o5, o6, o7, o8, o9, o10, o11, o12, o13, o14, o15, o16, o17, o18, p, c, t1, b, n, S, rfl, hP, hn, ht, hS, nd, k⟩
  exact ⟨_, rfl, _, rfl, t1, _, _, _, rfl, rfl, SqT.of ht, at0 _ _, p, c, S, 9, n, rfl, hP, by omega, hS, nd, by decide, by decide, fun H1 dn ns d1 _ h1 hc _ => k H1 dn ns d1 h1 hc⟩
/-- wanted, sign = .. -/
def q8 (W C : Addr) : TS := fun D σ H => ∃ (o0 o2 o4 o6 o7 o8 o10 o11 o12 o13 o14 o15 o16 o17 o18 : Option V) (p c t1 b a1 dn : Addr) (n : Nat) (S : Str) (ps : List (Nat × Nat)) (ns : List (Nat × Int)), σ = sl o0 p o2 (some (.ref t1)) o4 (some (.ref a1)) o6 o7 o8 (some (.ref dn)) o10 o11 o12 o13 o14 o15 o16 o17 o18 ∧ PenAt H p c n ∧ n < 2 ^ 47 ∧ H t1 = some (.tup [.str S, .ref b]) ∧ Good 10 S ps ∧ FontAt H C a1 S (dueOf S (headsAll ps)) ∧ H dn = some (.dK (toC ns)) ∧ CntOk S ns ∧
  ∀ H' x z, DrewP H p c (n + 1) H' → WantsAt H' W C x S (dueOf S (headsAll ps)) (cfn ns) → z ∈ S.cps.toList → D.nx (sl o0 p o2 (some (.ref t1)) o4 (some (.ref a1)) o6 o7 o8 (some (.ref dn)) (some (.ref x)) (some (sg z)) o12 o13 o14 o15 o16 o17 o18) H'
theorem st8 {W C fI fP : Addr} {fdI fdP : FuncData} (M : Mk K W fI) (GI : FnOk P w K mg base CX0 4 fI fdI ["self", "font", "counts"] (sp_winit W C)) (bI : Binds K fdI ["self", "font", "counts"] []) (gW : mg "Wants" = some (.ref W))
    (DP : Def K mg "_law_pick" fP fdP ["_law_pen_here", "_law_options"]) (GPS : FnOk P w K mg base CX0 2 fP fdP ["_law_pen_here", "_law_options"] sp_pickS) (hr : LR 12 f cdv A s) : PS (LX P w K mg base f cdv A outer s H0 E) (lawSt 8) (q8 W C) := by
  have r5 : Room 5 _ := hr.mono (by decide)
  have r2 : Room 2 _ := hr.mono (by decide)
  refine PS.weak (ps_par (i := 10) (j := 11) rfl sc_law.nd rfl rfl (by decide) rfl rfl (pa_cons (pe_mkW M GI r5 rfl gW bI (pa_cons (pv 5) (pa_cons (pv 9) pa_nil))) (pa_cons (pe_call GPS r2 rfl DP.mgf DP.kp DP.bd .nil pass0 (pa_cons (pv 1) (pa_cons (pe_ix ix_tup (pv 3) pe_int (fun _ _ => rfl)) pa_nil))) pa_nil)) (by rfl)) ?_
  rintro D σ H ⟨o0, o2, o4, o6, o7, o8, o10, o11, o12, o13, o14, o15, o16, o17, o18, p, c, t1, b, a1, dn, n, S, ps, ns, rfl, hP, hn, ht, hG, hF, hd, hc, k⟩
  have hi := hG.hi
  have lo := hG.lo
  refine ⟨_, rfl, _, rfl, a1, dn, S, _, ns, rfl, hF, by omega, hG.nd, hd, hc, fun H1 x s1 f1 w1 => ?_⟩
  have P1 := hP.same s1
  refine ⟨_, rfl, _, rfl, t1, _, _, _, rfl, rfl, SqT.of (s1 _ _ ht), at0 _ _, p, c, S, n, rfl, P1, by omega, by omega, by omega, fun H2 z d2 hz => ⟨_, _, rfl, k H2 x z ⟨(But.of s1).trans d2.but, d2.pen⟩ (w1.pen P1 d2.but) hz⟩⟩
/-- more = dict(numbers) -/
def q9 : TS := fun D σ H => ∃ (o0 o2 o3 o4 o5 o6 o7 o8 o10 o11 o12 o13 o14 o15 o16 o17 o18 : Option V) (p dn : Addr) (ns : List (Nat × Int)), σ = sl o0 p o2 o3 o4 o5 o6 o7 o8 (some (.ref dn)) o10 o11 o12 o13 o14 o15 o16 o17 o18 ∧ H dn = some (.dK (toC ns)) ∧
  ∀ H' dm, New H dm (.dK (toC ns)) H' → D.nx (sl o0 p o2 o3 o4 o5 o6 o7 o8 (some (.ref dn)) o10 o11 (some (.ref dm)) o13 o14 o15 o16 o17 o18) H'
theorem st9 (td : mg "dict" = none) (hr : LR 12 f cdv A s) : PS (LX P w K mg base f cdv A outer s H0 E) (lawSt 9) q9 := by
  refine PS.weak (ps_set (i := 12) sc_law.nd rfl (Or.inl rfl) (pe_callTy call_dictD (by rfl) td (by decide +kernel) (pa_cons (pv 9) pa_nil))) ?_
  rintro D σ H ⟨o0, o2, o3, o4, o5, o6, o7, o8, o10, o11, o12, o13, o14, o15, o16, o17, o18, p, dn, ns, rfl, hd, k⟩
  exact ⟨_, rfl, dn, toC ns, rfl, .inl hd, fun dm hm => k _ dm (.mk' hm)⟩
/-- more[sign] = .. -/
def q10 : TS := fun D σ H => ∃ (o0 o2 o3 o4 o5 o6 o7 o8 o10 o13 o14 o15 o16 o17 o18 : Option V) (p dn dm : Addr) (z : Nat) (ns : List (Nat × Int)), σ = sl o0 p o2 o3 o4 o5 o6 o7 o8 (some (.ref dn)) o10 (some (sg z)) (some (.ref dm)) o13 o14 o15 o16 o17 o18 ∧ H dn = some (.dK (toC ns)) ∧ H dm = some (.dK (toC ns)) ∧ ns.length ≤ 10 ∧
  ∀ H', Wr H dm (.dK (toC (putI ns z (cfn ns z + 1)))) H' → D.nx σ H'
theorem st10 (hr : LR 12 f cdv A s) : PS (LX P w K mg base f cdv A outer s H0 E) (lawSt 10) q10 := by
  have hu := hu_of hr
  refine PS.weak (ps_dput hu (pv 12) (pv 11) (pe_op op_add (pe_dget2 hu (pv 9) (pv 11) pe_int (by first | exact ⟨rfl, rfl, rfl, rfl⟩ | exact ⟨rfl, rfl, rfl, rfl, rfl⟩)) pe_int) rfl) ?_
  rintro D σ H ⟨o0, o2, o3, o4, o5, o6, o7, o8, o10, o13, o14, o15, o16, o17, o18, p, dn, dm, z, ns, rfl, hd, hm, nl, k⟩
  have e1 : ((cntOf ns z).map V.int).getD (.int 0) = .int (cfn ns z) := by
    show _ = V.int ((cntOf ns z).getD 0)
    cases cntOf ns z <;> rfl
  refine ⟨_, rfl, dn, rfl, .inl ⟨_, .inl hd⟩, _, rfl, _, dget_toC z hd, ?_⟩
  rw [e1]
  exact ⟨_, _, rfl, rfl, _, rfl, _, rfl, dm, _, rfl, dput_toCI hm (Nat.lt_of_le_of_lt nl (by decide)), k _ .mk'⟩
/-- some = [..] of wants -/
def q11 (W C : Addr) : TS := fun D σ H => ∃ (o0 o2 o4 o6 o7 o8 o10 o11 o13 o14 o15 o16 o17 o18 : Option V) (p t1 b a1 dn dm : Addr) (S : Str) (ps : List (Nat × Nat)) (ns : List (Nat × Int)) (z : Nat), σ = sl o0 p o2 (some (.ref t1)) o4 (some (.ref a1)) o6 o7 o8 (some (.ref dn)) o10 o11 (some (.ref dm)) o13 o14 o15 o16 o17 o18 ∧ H t1 = some (.tup [.str S, .ref b]) ∧ Good 10 S ps ∧ FontAt H C a1 S (dueOf S (headsAll ps)) ∧ H dn = some (.dK (toC ns)) ∧ CntOk S ns ∧ z ∈ S.cps.toList ∧ H dm = some (.dK (toC (putI ns z (cfn ns z + 1)))) ∧
  ∀ H' m ms, Same H H' → H m = none → H' m = some (.lst ms) → ms.length ≤ 3 → (∀ v ∈ ms, WI W C S ps (cfn ns) H' v) → D.nx (sl o0 p o2 (some (.ref t1)) o4 (some (.ref a1)) o6 o7 (some (.ref m)) (some (.ref dn)) o10 o11 (some (.ref dm)) o13 o14 o15 o16 o17 o18) H'
theorem st11 {W C fI fF : Addr} {fdI fdF : FuncData} (td : mg "dict" = none) (M : Mk K W fI) (GI : FnOk P w K mg base CX0 4 fI fdI ["self", "font", "counts"] (sp_winit W C)) (bI : Binds K fdI ["self", "font", "counts"] []) (gW : mg "Wants" = some (.ref W))
    (DF : Def K mg "_law_full" fF fdF ["_law_signs", "_law_counts"]) (GF : FnOk P w K mg base CX0 1 fF fdF ["_law_signs", "_law_counts"] sp_full) (hr : LR 12 f cdv A s) : PS (LX P w K mg base f cdv A outer s H0 E) (lawSt 11) (q11 W C) := by
  have r5 : Room 5 _ := hr.mono (by decide)
  have r1 : Room 1 _ := hr.mono (by decide)
  refine PS.weak (ps_set (i := 8) sc_law.nd rfl (Or.inl rfl) (pe_lst' (pa_cons (pe_tup' (pa_cons (pe_mkW M GI r5 rfl gW bI (pa_cons (pv 5) (pa_cons (pe_call GF r1 rfl DF.mgf DF.kp DF.bd .nil pass0 (pa_cons (pe_ix ix_tup (pv 3) pe_int (fun _ _ => rfl)) (pa_cons (pv 9) pa_nil))) pa_nil))) (pa_cons pe_bl pa_nil)))
    (pa_cons (pe_tup' (pa_cons (pe_mkW M GI r5 rfl gW bI (pa_cons (pv 5) (pa_cons (pv 12) pa_nil))) (pa_cons pe_bl pa_nil))) (pa_cons (pe_tup' (pa_cons (pe_callTy call_dictD (by rfl) td (by decide +kernel) (pa_cons (pv 9) pa_nil)) (pa_cons pe_bl pa_nil))) pa_nil))))) ?_
  rintro D σ H ⟨o0, o2, o4, o6, o7, o8, o10, o11, o13, o14, o15, o16, o17, o18, p, t1, b, a1, dn, dm, S, ps, ns, z, rfl, ht, hG, hF, hd, hc, hz, hm, k⟩
  have hi := hG.hi
  have nl := cnt_len hc hi
  refine ⟨_, rfl, _, rfl, t1, _, _, _, rfl, rfl, SqT.of ht, at0 _ _, _, rfl, S, dn, ns, rfl, hd, by omega, hG.nd, fun H1 r1' s1 f1 h1 => ?_⟩
  refine ⟨a1, r1', S, _, _, rfl, hF.same s1, by omega, hG.nd, h1, full_ok hG.nd (by omega), fun H2 x2 s2 f2 w2 => ⟨by show 2 ≤ sizeLine; decide, fun q3 H3 n3 => ?_⟩⟩
  have s03 := (s1.trans s2).trans n3.same
  have v0 : 0 ≤ cfn ns z + 1 := by have := cfn_nn hc z; omega
  refine ⟨_, rfl, _, rfl, a1, dm, S, _, _, rfl, hF.same s03, by omega, hG.nd, s03 _ _ hm, putI_ok hc hz v0 (by omega), fun H4 x4 s4 f4 w4 => ⟨by show 2 ≤ sizeLine; decide, fun q5 H5 n5 => ?_⟩⟩
  have s05 := (s03.trans s4).trans n5.same
  refine ⟨_, rfl, dn, toC ns, rfl, .inl (s05 _ _ hd), fun q6 f6 => ?_⟩
  have n6 : New H5 q6 (.dK (toC ns)) (upd H5 q6 (.dK (toC ns))) := .mk' f6
  generalize upd H5 q6 (HO.dK (toC ns)) = H6 at n6 ⊢
  refine ⟨by show 2 ≤ sizeLine; decide, fun q7 H7 n7 => ⟨by show 3 ≤ sizeLine; decide, fun m H8 n8 => ?_⟩⟩
  have k7 : Same H7 H8 := n8.same
  have k6 : Same H6 H8 := n7.same.trans k7
  have k5 : Same H5 H8 := n6.same.trans k6
  have k3 : Same H3 H8 := (s4.trans n5.same).trans k5
  have m0 : H m = none := by
    cases e : H m with
    | none => rfl
    | some o => have := n8.free; rw [((s05.trans n6.same).trans n7.same) _ _ e] at this; cases this
  refine k H8 m _ (s03.trans k3) m0 n8.here (by show 3 ≤ 3; decide) fun v hv => ?_
  rcases List.mem_cons.mp hv with rfl | hv
  · exact ⟨q3, x2, true, rfl, k3 _ _ n3.here, .inl ⟨S, ps, _, w2.same (n3.same.trans k3), hG, same_yes fun c hc' => (full_same hc hc').symm⟩⟩
  rcases List.mem_cons.mp hv with rfl | hv
  · exact ⟨q5, x4, false, rfl, k5 _ _ n5.here, .inl ⟨S, ps, _, w4.same (n5.same.trans k5), hG, same_no hz (by rw [cfn_put, if_pos rfl]; omega)⟩⟩
  rw [List.mem_singleton.mp hv]
  exact ⟨q7, q6, false, rfl, k7 _ _ n7.here, .inr ⟨_, k6 _ _ n6.here, rfl⟩⟩
end
end My
end
section
set_option Elab.async false
set_option linter.all false
set_option maxRecDepth 100000
set_option maxHeartbeats 4000000
namespace My
open PySem PySem.Spec PyProof.Rows L2 LamX
theorem but_extL {H H1 : Hp} {m : Addr} {xs : List V} (h : H m = some (.lst xs)) (b : But m H H1) : ExtL H H1 := fun q o e n => b q o (ne_of e h (fun z => n _ z)) e
theorem cnt_nd {ns : List (Nat × Int)} {e : Nat × Int} (nd : (ns.map (·.1)).Nodup) (h : e ∈ ns) : cntOf ns e.1 = some e.2 := by
  induction ns with
  | nil => cases h
  | cons a ns ih =>
    rw [List.map_cons, List.nodup_cons] at nd
    rcases List.mem_cons.mp h with rfl | h
    · exact cnt_pos rfl
    · rw [cnt_neg fun z => nd.1 (z ▸ List.mem_map.mpr ⟨e, h, rfl⟩)]
      exact ih nd.2 h
section
variable {P : Program} {w : World} {K : PySem.W.Frag} {mg : Str → Option Value} {base : Heap} {f : Addr} {cdv : Value} {A : Around} {outer : List Env} {s : Shared} {H0 : Hp} {E : XK}
/-- for one in [..][:1]: .. -/
def q12 (W C : Addr) : TS := fun D σ H => ∃ (o0 o2 o4 o6 o7 o10 o11 o12 o13 o14 o15 o16 o17 o18 : Option V) (p t1 b a1 dn m : Addr) (S : Str) (ps : List (Nat × Nat)) (ns : List (Nat × Int)) (ms : List V), σ = sl o0 p o2 (some (.ref t1)) o4 (some (.ref a1)) o6 o7 (some (.ref m)) (some (.ref dn)) o10 o11 o12 o13 o14 o15 o16 o17 o18 ∧ H t1 = some (.tup [.str S, .ref b]) ∧ Good 10 S ps ∧ FontAt H C a1 S (dueOf S (headsAll ps)) ∧ H dn = some (.dK (toC ns)) ∧ CntOk S ns ∧ H m = some (.lst ms) ∧ ms.length ≤ 3 ∧ (∀ v ∈ ms, WI W C S ps (cfn ns) H v) ∧
  ∀ H' ms' o13 o14 o15 o18, But m H H' → H' m = some (.lst ms') → ms'.length ≤ 5 → (∀ v ∈ ms', WI W C S ps (cfn ns) H' v) → D.nx (sl o0 p o2 (some (.ref t1)) o4 (some (.ref a1)) o6 o7 (some (.ref m)) (some (.ref dn)) o10 o11 o12 o13 o14 o15 o16 o17 o18) H'
theorem st12 {W C fI : Addr} {fdI : FuncData} (td : mg "dict" = none) (M : Mk K W fI) (GI : FnOk P w K mg base CX0 4 fI fdI ["self", "font", "counts"] (sp_winit W C)) (bI : Binds K fdI ["self", "font", "counts"] []) (gW : mg "Wants" = some (.ref W)) (hr : LR 12 f cdv A s) : PS (LX P w K mg base f cdv A outer s H0 E) (lawSt 12) (q12 W C) := by
  have hu := hu_of hr
  have r5 : Room 5 _ := hr.mono (by decide)
  refine PS.weak (ps_for PassesOwn.never rfl (pi_list (pe_slice sl_list' (by exact (pe_lock (pe_lc (own := [("_law_name", 18)]) (g := gName 18) rfl sc_law.nd (pi_keys (pv 9)) (blkOk_by (own := [("_law_name", 18)]) (N := LN) (sc := defScope s_law) (by decide +kernel)) (fun _ _ _ _ _ => pg_name (i := 18) sc_law.nd rfl (Or.inl rfl))
        (fun _ _ _ _ _ => pts_one (pt_cmpR op_gt (pe_dget hu (pv 9) (pv 18) (fun _ _ => rfl)) pe_int (nomark _))) (fun _ _ _ _ _ => pv 18)))) po_none (po_some pe_int))) (pg_name (i := 13) sc_law.nd rfl (Or.inr rfl))
    (pss_cons (ps_par (i := 14) (j := 15) rfl sc_law.nd rfl rfl (by decide) rfl rfl (pa_cons (pe_ix ix_list (by exact (pe_lc (own := [("_law_name", 18)]) (g := gName 18) rfl sc_law.nd (pi_str (pe_ix ix_tup (pv 3) pe_int (fun _ _ => rfl))) (blkOk_by (own := [("_law_name", 18)]) (N := LN) (sc := defScope s_law) (by decide +kernel)) (fun _ _ _ _ _ => pg_name (i := 18) sc_law.nd rfl (Or.inl rfl))
        (fun _ _ _ _ _ => pts_one (pt_cmpR op_ne (pv 18) (pv 13) (nomark _))) (fun _ _ _ _ _ => pv 18))) pe_int (fun _ _ => rfl)) (pa_cons (pe_callTy call_dictD (by rfl) td (by decide +kernel) (pa_cons (pv 9) pa_nil)) pa_nil)) (by rfl))
      (pss_cons (ps_dput hu (pv 15) (pv 14) (pe_op op_add (pe_dget2 hu (pv 9) (pv 14) pe_int (by first | exact ⟨rfl, rfl, rfl, rfl⟩ | exact ⟨rfl, rfl, rfl, rfl, rfl⟩)) pe_int) rfl)
      (pss_cons (ps_dput hu (pv 15) (pv 13) (pe_op op_sub (pe_dget hu (pv 9) (pv 13) (fun _ _ => rfl)) pe_int) rfl)
      (pss_one (ps_expr (pe_bm PySem.F.plainAttrs_list PySem.F.slot_list_append PySem.F.type_list_append mt_append' (pv 8) (pa_cons (pe_tup' (pa_cons (pe_mkW M GI r5 rfl gW bI (pa_cons (pv 5) (pa_cons (pv 15) pa_nil))) (pa_cons pe_bl pa_nil))) pa_nil)))))))) ?_
  rintro D σ H ⟨o0, o2, o4, o6, o7, o10, o11, o12, o13, o14, o15, o16, o17, o18, p, t1, b, a1, dn, m, S, ps, ns, ms, rfl, ht, hG, hF, hd, hc, hm, ml, hms, k⟩
  have hi := hG.hi
  have lo := hG.lo
  have nl := cnt_len hc hi
  refine ⟨dn, _, hd, trivial, fun od => ?_⟩
  have lk : (upd H dn (.frz od (.dK (toC ns)))) dn = some (.frz od (.dK (toC ns))) := locked
  have bk : ∀ H', Same (upd H dn (.frz od (.dK (toC ns)))) H' → Same H (upd H' dn (.dK (toC ns))) := fun H' s => unlock hd s
  generalize upd H dn (HO.frz od (.dK (toC ns))) = H1 at lk bk ⊢
  have hz : ns.length = ((toC ns).map fun e => kV e.1).length := by simp [toC]
  have small : ((toC ns).map fun e => kV e.1).length < sizeLine := by rw [← hz]; exact Nat.lt_of_le_of_lt nl (by decide)
  refine ⟨_, rfl, dn, od, rfl, .inl ⟨_, lk, fun D1 hD1 => ?_⟩⟩
  have nD : D1 ≠ dn := fun z => by rw [z, lk] at hD1; cases hD1
  refine lc_pair walk_ks ns hz (fun e => decide (0 < e.2)) (fun e y _ => y = sg e.1) (fun _ _ _ _ _ _ h => h) hD1 (fun H' s => s _ _ lk) small (fun x => rfl) ?_ ?_ ?_
  · intro j x e H' C hx he s hC
    have ek : x = sg e.1 := by
      rw [toC_ks, List.map_map, List.getElem?_map, he] at hx
      exact (Option.some.inj hx).symm
    subst ek
    have dg := dget_frz e.1 (s _ _ lk)
    rw [cnt_nd hc.nd (List.mem_of_getElem? he)] at dg
    exact ⟨_, rfl, _, rfl, dn, _, rfl, dg, _, _, rfl, rfl, _, rfl, hC H' (Same.refl _)⟩
  · intro j x e H' C hx he _ s hC
    have ek : x = sg e.1 := by
      rw [toC_ks, List.map_map, List.getElem?_map, he] at hx
      exact (Option.some.inj hx).symm
    subst ek
    exact ⟨_, rfl, hC H' _ (Same.refl _) rfl⟩
  intro H2 gs s2 hD2 hP2
  have gs_is := paired_eq hP2
  have s02 := bk H2 s2
  refine ⟨s2 _ _ lk, ?_⟩
  have hD3 : (upd H2 dn (.dK (toC ns))) D1 = some (.lst gs) := by rw [upd_ne nD]; exact hD2
  generalize upd H2 dn (HO.dK (toC ns)) = H3 at s02 hD3 ⊢
  refine ⟨1, rfl, D1, _, rfl, SqL.of hD3, fun r4 H4 n4 => ⟨r4, rfl, ⟨_, SqL.of n4.here⟩, ?_⟩⟩
  have ec : cutV gs none (some (1 : Int)) = gs.take 1 := by
    rw [show (1 : Int) = ((1 : Nat) : Int) from rfl, cutV_to]
  rw [ec] at n4
  have s04 := s02.trans n4.same
  have hm4 := s04 _ _ hm
  have r4m : r4 ≠ m := fun z => by
    have := n4.free
    rw [z, s02 _ _ hm] at this
    cases this
  refine for_it (walk_list (xs := gs.take 1)) (fun i σ' H' => ∃ (u13 u14 u15 u18 : Option V) (xs' : List V), σ' = sl o0 p o2 (some (.ref t1)) o4 (some (.ref a1)) o6 o7 (some (.ref m)) (some (.ref dn)) o10 o11 o12 u13 u14 u15 o16 o17 u18 ∧ But m H4 H' ∧ H' m = some (.lst xs') ∧ xs'.length ≤ ms.length + i ∧ ∀ v ∈ xs', WI W C S ps (cfn ns) H' v)
    ⟨_, _, _, _, ms, rfl, But.refl _, hm4, Nat.le_refl _, fun v hv => (hms v hv).same s04⟩ (fun i σ' H' _ q => ?_) ?_ ?_
  · obtain ⟨_, _, _, _, _, _, bt, _⟩ := q
    exact SqL.of (bt _ _ r4m n4.here)
  · rintro i y σ' Ha Hb hi' ⟨u13, u14, u15, u18, xs', rfl, bt, hm', xl', hxs'⟩ ⟨rfl, hy⟩
    have hi1 : i < 1 := Nat.lt_of_lt_of_le hi' (by rw [List.length_take]; exact Nat.min_le_left _ _)
    have hy' : gs[i]? = some y := by
      rw [List.getElem?_take] at hy
      rw [if_pos hi1] at hy
      exact hy
    rw [gs_is] at hy'
    rw [List.getElem?_map] at hy'
    obtain ⟨e0, hg, rfl⟩ := Option.map_eq_some_iff.mp hy'
    obtain ⟨em, ep⟩ := List.mem_filter.mp (List.mem_of_getElem? hg)
    have ep : 0 < e0.2 := by simpa using ep
    have oneS := hc.inS e0 em
    have xL := but_extL hm4 bt
    have hda := xL _ _ (s04 _ _ hd) (fun _ z => by cases z)
    have hta := xL _ _ (s04 _ _ ht) (fun _ z => by cases z)
    have hFa := (hF.same s04).extL xL
    -- the goal
    have sz : S.cps.toList.length = (signs S).length := by rw [signs_len]; exact Array.length_toList
    refine ⟨_, rfl, t1, _, _, _, rfl, rfl, SqT.of hta, at0 _ _, S, rfl, fun D5 hD5 => lc_pair walk_signs S.cps.toList sz (fun ch => !decide (ch = e0.1)) (fun ch y _ => y = sg ch) (fun _ _ _ _ _ _ h => h) hD5 (fun _ _ => trivial) (by rw [signs_len]; exact Nat.lt_of_le_of_lt hi (by decide)) (fun x => rfl) ?_ ?_ ?_⟩
    · intro j x ch H' C hx hch s5 hC
      obtain rfl : x = sg ch := by
        unfold signs at hx
        rw [List.getElem?_map, hch] at hx
        exact (Option.some.inj hx).symm
      refine ⟨_, rfl, _, rfl, rfl, _, rfl, ?_⟩
      rw [sg_dec]
      exact hC H' (Same.refl _)
    · intro j x ch H' C hx hch _ s5 hC
      obtain rfl : x = sg ch := by
        unfold signs at hx
        rw [List.getElem?_map, hch] at hx
        exact (Option.some.inj hx).symm
      exact ⟨_, rfl, hC H' _ (Same.refl _) rfl⟩
    intro H5 fs s5 hD5' hP5
    have fs_is := paired_eq hP5
    obtain ⟨x0, r0, hf⟩ : ∃ x0 r0, (S.cps.toList.filter fun ch => !decide (ch = e0.1)) = x0 :: r0 := by
      cases e : S.cps.toList.filter fun ch => !decide (ch = e0.1) with
      | cons a r => exact ⟨a, r, rfl⟩
      | nil =>
        have zl : S.cps.toList.length = S.length := Array.length_toList
        have all : ∀ x ∈ S.cps.toList, x ∈ [e0.1] := fun x hx => by
          have := List.filter_eq_nil_iff.mp e x hx
          simpa using this
        have := nodup_len hG.nd all
        rw [List.length_cons, List.length_nil] at this
        omega
    have hx0 : x0 ∈ S.cps.toList ∧ x0 ≠ e0.1 := by
      have : x0 ∈ S.cps.toList.filter fun ch => !decide (ch = e0.1) := by rw [hf]; exact List.mem_cons_self
      obtain ⟨m1, m2⟩ := List.mem_filter.mp this
      exact ⟨m1, by simpa using m2⟩
    rw [hf] at fs_is
    have fs0 : fs[0]? = some (sg x0) := by rw [fs_is]; rfl
    have hd5 := s5 _ _ hda
    refine ⟨D5, _, _, _, rfl, rfl, SqL.of hD5', atI_nat (j := 0) fs0, _, rfl, dn, toC ns, rfl, .inl hd5, fun dm hdm => ?_⟩
    have n6 : New H5 dm (.dK (toC ns)) (upd H5 dm (.dK (toC ns))) := .mk' hdm
    generalize upd H5 dm (HO.dK (toC ns)) = H6 at n6 ⊢
    refine ⟨_, _, rfl, ?_⟩
    have hd6 := n6.same _ _ hd5
    have e1 : ((cntOf ns x0).map V.int).getD (.int 0) = .int (cfn ns x0) := by
      show _ = V.int ((cntOf ns x0).getD 0)
      cases cntOf ns x0 <;> rfl
    refine ⟨_, rfl, dn, rfl, .inl ⟨_, .inl hd6⟩, _, rfl, _, dget_toC x0 hd6, ?_⟩
    rw [e1]
    refine ⟨_, _, rfl, rfl, _, rfl, _, rfl, dm, _, rfl, dput_toCI n6.here (Nat.lt_of_le_of_lt nl (by decide)), ?_⟩
    have w7 : Wr H6 dm (.dK (toC (putI ns x0 (cfn ns x0 + 1)))) (upd H6 dm (.dK (toC (putI ns x0 (cfn ns x0 + 1))))) := .mk'
    generalize upd H6 dm (HO.dK (toC (putI ns x0 (cfn ns x0 + 1)))) = H7 at w7 ⊢
    have dne : dn ≠ dm := ne_of_none hd5 hdm
    have hd7 := (w7.els dn dne).trans hd6
    have dg := dget_toC e0.1 hd7
    rw [cnt_nd hc.nd em] at dg
    have pl := putI_len ns x0 (cfn ns x0 + 1)
    refine ⟨_, rfl, _, rfl, dn, _, rfl, dg, _, _, rfl, rfl, _, rfl, _, rfl, dm, _, rfl, dput_toCI w7.here (Nat.lt_of_le_of_lt (show _ ≤ 11 by omega) (by decide)), ?_⟩
    have w8 : Wr H7 dm (.dK (toC (putI (putI ns x0 (cfn ns x0 + 1)) e0.1 (e0.2 - 1)))) (upd H7 dm (.dK (toC (putI (putI ns x0 (cfn ns x0 + 1)) e0.1 (e0.2 - 1))))) := .mk'
    generalize upd H7 dm (HO.dK (toC (putI (putI ns x0 (cfn ns x0 + 1)) e0.1 (e0.2 - 1)))) = H8 at w8 ⊢
    have s58 : Same H5 H8 := fun x o hx => by
      have xm : x ≠ dm := ne_of_none hx hdm
      exact (w8.els x xm).trans ((w7.els x xm).trans (n6.same _ _ hx))
    have sb8 := s5.trans s58
    have v0 : 0 ≤ cfn ns x0 + 1 := by have := cfn_nn hc x0; omega
    have ok1 := putI_ok hc hx0.1 v0 (by omega)
    have ok2 := putI_ok ok1 oneS (show 0 ≤ e0.2 - 1 by omega) (by omega)
    refine ⟨_, rfl, .inl ⟨rfl, _, SqL.of (sb8 _ _ hm')⟩, _, rfl, _, rfl, a1, dm, S, _, _, rfl, hFa.same sb8, by omega, hG.nd, w8.here, ok2, fun H9 x9 s9 f9 w9 => ⟨by show 2 ≤ sizeLine; decide, fun q10 H10 n10 => ?_⟩⟩
    have s010 := (sb8.trans s9).trans n10.same
    have hm10 := s010 _ _ hm'
    refine ⟨m, xs', _, rfl, rfl, hm10, Nat.lt_of_le_of_lt (show xs'.length ≤ 4 by omega) (by decide), fun H11 w11 => ?_⟩
    have x11 := ExtL.wr hm10 w11
    refine ⟨_, _, _, _, _, rfl, (bt.trans (.of s010)).trans w11.but, w11.here, by rw [List.length_append, List.length_cons, List.length_nil]; omega, fun v hv => ?_⟩
    rcases List.mem_append.mp hv with hv | hv
    · exact ((hxs' v hv).same s010).extL x11
    · rw [List.mem_singleton.mp hv]
      refine WI.extL x11 ⟨q10, x9, false, rfl, n10.here, .inl ⟨S, ps, _, w9.same n10.same, hG, same_no hx0.1 ?_⟩⟩
      rw [cfn_put, if_neg hx0.2, cfn_put, if_pos rfl]
      omega
  · rintro σ' H' ⟨u13, u14, u15, u18, xs', rfl, bt, hm', xl', hxs'⟩
    exact k H' xs' _ _ _ _ ((But.of s04).trans bt) hm' (Nat.le_trans xl' (by rw [List.length_take]; omega)) hxs'
end
end My
end
section
set_option Elab.async false
set_option linter.all false
set_option maxRecDepth 100000
set_option maxHeartbeats 4000000
namespace My
open PySem PySem.Spec PyProof.Rows L2 LamX
structure TotA (P : Program) (w : World) (K : PySem.W.Frag) (mg : Str → Option Value) (base : Heap) (W C : Addr) : Prop where
  ex : ∃ p g fd, PropOf K W "total" p g ∧ FnOk P w K mg base CX0 1 g fd ["self"] (sp_wtotal W C) ∧ Binds K fd ["self"] []
theorem cntOk_nil (S : Str) : CntOk S [] := ⟨List.nodup_nil, (fun e he => by cases he), (fun e he => by cases he), Nat.zero_le _⟩
section
variable {P : Program} {w : World} {K : PySem.W.Frag} {mg : Str → Option Value} {base : Heap} {f : Addr} {cdv : Value} {A : Around} {outer : List Env} {s : Shared} {H0 : Hp} {E : XK}
/-- some = some + [..] -/
def q13 (W C : Addr) : TS := fun D σ H => ∃ (o0 o2 o4 o5 o6 o10 o11 o12 o13 o14 o15 o16 o17 o18 : Option V) (p t1 b dn l m : Addr) (S : Str) (us ms : List V) (ps : List (Nat × Nat)) (ns : List (Nat × Int)), σ = sl o0 p o2 (some (.ref t1)) o4 o5 o6 (some (.ref l)) (some (.ref m)) (some (.ref dn)) o10 o11 o12 o13 o14 o15 o16 o17 o18 ∧ H t1 = some (.tup [.str S, .ref b]) ∧ Good 10 S ps ∧ H dn = some (.dK (toC ns)) ∧ CntOk S ns ∧ H l = some (.lst us) ∧ us.length ≤ 10 ∧ (∀ v ∈ us, FI C S ps H v) ∧ H m = some (.lst ms) ∧ ms.length ≤ 5 ∧ (∀ v ∈ ms, WI W C S ps (cfn ns) H v) ∧
  ∀ H' m' ms' u16 u17 u18, Same H H' → H' m' = some (.lst ms') → ms'.length ≤ 20 → (∀ v ∈ ms', WI W C S ps (cfn ns) H' v) → D.nx (sl o0 p o2 (some (.ref t1)) o4 o5 o6 (some (.ref l)) (some (.ref m')) (some (.ref dn)) o10 o11 o12 o13 o14 o15 u16 u17 u18) H'
theorem st13 {W C fI fF : Addr} {fdI fdF : FuncData} (M : Mk K W fI) (GI : FnOk P w K mg base CX0 4 fI fdI ["self", "font", "counts"] (sp_winit W C)) (bI : Binds K fdI ["self", "font", "counts"] []) (gW : mg "Wants" = some (.ref W))
    (DF : Def K mg "_law_full" fF fdF ["_law_signs", "_law_counts"]) (GF : FnOk P w K mg base CX0 1 fF fdF ["_law_signs", "_law_counts"] sp_full) (hr : LR 12 f cdv A s) : PS (LX P w K mg base f cdv A outer s H0 E) (lawSt 13) (q13 W C) := by
  have r5 : Room 5 _ := hr.mono (by decide)
  have r1 : Room 1 _ := hr.mono (by decide)
  refine PS.weak (ps_set (i := 8) sc_law.nd rfl (Or.inl rfl) (pe_op op_cat' (pv 8) (by exact (pe_lc (own := [("_law_other", 16), ("_law_is_same", 17)]) (g := gTup K 2 (gCons (gName 16) (gCons (gName 17) gNil))) (tt := tYes) rfl sc_law.nd (pi_list (pv 7))
    (blkOk_by (own := [("_law_other", 16), ("_law_is_same", 17)]) (N := LN) (sc := defScope s_law) (by decide +kernel)) (fun _ _ _ _ _ => pg_tup rfl (pgs_cons (pg_name (i := 16) sc_law.nd rfl (Or.inl rfl)) (pgs_cons (pg_name (i := 17) sc_law.nd rfl (Or.inl rfl)) pgs_nil))) (fun _ _ _ _ _ => pts_nil)
    (fun _ _ _ _ _ => pe_tup' (pa_cons (pe_mkW M GI r5 rfl gW bI (pa_cons (pv 16) (pa_cons pe_dnew' pa_nil))) (pa_cons (pe_and (pv 17) (pe_one (pe_cmpR (op_eq_dE hr.units0) (pe_call (E := E0) GF r1 rfl DF.mgf DF.kp DF.bd .nil pass0 (pa_cons (pe_ix (show IxR _ (rIxT K) from ix_tup) (pv 3) pe_int (fun _ _ => rfl)) (pa_cons (pv 9) pa_nil))) pe_dnew' (nomark _)))) pa_nil))))))) ?_
  rintro D σ H ⟨o0, o2, o4, o5, o6, o10, o11, o12, o13, o14, o15, o16, o17, o18, p, t1, b, dn, l, m, S, us, ms, ps, ns, rfl, ht, hG, hd, hc, hl, ul, hus, hm, ml, hms, k⟩
  have hi := hG.hi
  refine ⟨_, rfl, _, rfl, l, rfl, ⟨_, SqL.of hl⟩, fun D1 hD1 => ?_⟩
  refine lcw (walk_list (xs := us)) (fun j H' => Same H H' ∧ ∃ zs, H' D1 = some (.lst zs) ∧ zs.length ≤ j ∧ ∀ z ∈ zs, WI W C S ps (cfn ns) H' z)
    ⟨Same.wr (Same.refl H) hD1 .mk', [], upd_same, Nat.le_refl _, fun z hz => by cases hz⟩ (fun j H' _ q => SqL.of (q.1 _ _ hl)) ?_ ?_
  · rintro j x H2 H3 hj ⟨sB, zs, hD, hzl, hzs⟩ ⟨rfl, hx⟩
    obtain ⟨q, a, T, qs, rfl, h1, h2, h3⟩ := hus x (List.mem_of_getElem? hx)
    have hi3 := h3.hi
    refine ⟨q, _, rfl, SqT.of (sB _ _ h1), rfl, _, _, rfl, _, _, rfl, rfl, rfl, ?_⟩
    unfold tYes
    refine iteT ⟨_, rfl, fun e4 H4 n4 => ⟨a, e4, T, _, [], rfl, (h2.same sB).same n4.same, by omega, h3.nd, n4.here, cntOk_nil T, fun H5 x5 s5 f5 w5 => ?_⟩⟩
    have s25 := n4.same.trans s5
    have fin : ∀ (fl : Bool) (H6 : Hp), Same H5 H6 → fl = sameN S T ps qs (cfn ns) (cfn []) → 2 ≤ sizeLine ∧ ∀ q7 H7, New H6 q7 (.tup [.ref x5, .bl fl]) H7 → ∃ acc, H7 D1 = some (.lst acc) ∧ acc.length < sizeLine ∧ (Same H (upd H7 D1 (.lst (acc ++ [.ref q7]))) ∧ ∃ zs, (upd H7 D1 (.lst (acc ++ [.ref q7]))) D1 = some (.lst zs) ∧ zs.length ≤ j + 1 ∧ ∀ z ∈ zs, WI W C S ps (cfn ns) (upd H7 D1 (.lst (acc ++ [.ref q7]))) z) := by
      intro fl H6 s6 efl
      refine ⟨by decide, fun q7 H7 n7 => ?_⟩
      have s27 := (s25.trans s6).trans n7.same
      have hD7 := s27 _ _ hD
      have w8 : Wr H7 D1 (.lst (zs ++ [.ref q7])) (upd H7 D1 (.lst (zs ++ [.ref q7]))) := .mk'
      have x8 := ExtL.wr hD7 w8
      refine ⟨zs, hD7, Nat.lt_of_le_of_lt (show zs.length ≤ 10 by omega) (by decide), Same.wr (sB.trans s27) hD1 w8, _, upd_same, by rw [List.length_append, List.length_cons, List.length_nil]; omega, fun z hz => ?_⟩
      rcases List.mem_append.mp hz with hz | hz
      · exact ((hzs z hz).same s27).extL x8
      · rw [List.mem_singleton.mp hz]
        exact WI.extL x8 ⟨q7, x5, fl, rfl, n7.here, .inl ⟨T, qs, _, w5.same (s6.trans n7.same), h3, efl⟩⟩
    refine ⟨_, rfl, _, rfl, ?_⟩
    by_cases e : S = T ∧ dueOf S (headsAll ps) = dueOf T (headsAll qs)
    · have eb : sameB S T ps qs = true := decide_eq_true e
      have s05 := sB.trans s25
      refine iteT' eb ⟨_, rfl, t1, _, _, _, rfl, rfl, SqT.of (s05 _ _ ht), at0 _ _, _, rfl, S, dn, ns, rfl, s05 _ _ hd, by omega, hG.nd, fun H6 r6 s6 f6 h6 e7 H7 n7 => ⟨r6, e7, _, rfl, rfl, n7.same _ _ h6, n7.here, fin _ _ (s6.trans n7.same) ?_⟩⟩
      rw [full_emp hc]
      show _ = (_ && _)
      rw [decide_eq_true e, Bool.true_and]
      rfl
    · have eb : sameB S T ps qs = false := decide_eq_false e
      refine iteF' eb (fin false H5 (Same.refl _) ?_)
      show _ = (_ && _)
      rw [decide_eq_false e, Bool.false_and]
  · rintro H2 ⟨sB, zs, hD, hzl, hzs⟩
    refine ⟨m, D1, ms, zs, rfl, rfl, sB _ _ hm, hD, Nat.le_trans (show ms.length + zs.length ≤ 20 by omega) (by decide), fun r H3 n3 => ?_⟩
    refine k H3 r _ _ _ _ (sB.trans n3.same) n3.here (by rw [List.length_append]; omega) fun v hv => ?_
    rcases List.mem_append.mp hv with hv | hv
    · exact ((hms v hv).same sB).same n3.same
    · exact (hzs v hv).same n3.same
/-- if not pairs_right(wanted, ..): return False -/
def q14 (W C : Addr) : TS := fun D σ H => ∃ (o0 o2 o3 o4 o6 o7 o9 o11 o12 o13 o14 o15 o16 o17 o18 : Option V) (p a1 x m : Addr) (S : Str) (ms : List V) (ps : List (Nat × Nat)) (ns : List (Nat × Int)), σ = sl o0 p o2 o3 o4 (some (.ref a1)) o6 o7 (some (.ref m)) o9 (some (.ref x)) o11 o12 o13 o14 o15 o16 o17 o18 ∧ Good 10 S ps ∧ FontAt H C a1 S (dueOf S (headsAll ps)) ∧ WantsAt H W C x S (dueOf S (headsAll ps)) (cfn ns) ∧ H m = some (.lst ms) ∧ ms.length ≤ 20 ∧ (∀ v ∈ ms, WI W C S ps (cfn ns) H v) ∧
  ∀ H', Same H H' → D.nx σ H'
theorem st14 {C CC W fP : Addr} {fdP : FuncData} (wc : WCls K W) (OT : TotA P w K mg base W C) (N : Fk K C CC W) (DP : Def K mg "_law_pairs_right" fP fdP ["_law_one", "_law_others"]) (GP : FnG P w K mg base 4 fP fdP ["_law_one", "_law_others"] (sp_pairs K C CC W))
    (g : (A.deeper (envOfC "law" (defScope s_law) s.heap.objs.size f cdv)).guards = some []) (hr : LR 12 f cdv A s) : PS (LX P w K mg base f cdv A outer s H0 E) (lawSt 14) (q14 W C) := by
  have r4 : Room 4 _ := hr.mono (by decide)
  have r3 : Room 2 _ := hr.mono (by decide)
  obtain ⟨p1, g1, fd1, hp1, G1, b1⟩ := OT.ex
  refine PS.weak (ps_if (pt_not (pt_val (pe_callG (E := E0) GP g r4 rfl DP.mgf DP.kp DP.bd .nil (pa_cons (pv 10) (pa_cons (pe_op op_cat' (pv 8) (pe_lst' (pa_cons (pe_tup' (pa_cons pe_non (pa_cons pe_bl pa_nil)))
    (pa_cons (pe_tup' (pa_cons (pv 5) (pa_cons pe_bl pa_nil))) (pa_cons (pe_tup' (pa_cons (pe_prop (E := E0) (pv 10) wc.cls hp1 G1 r3 b1 .nil pass0 rfl) (pa_cons pe_bl pa_nil))) pa_nil))))) pa_nil))))) (pss_one (ps_ret pe_bl)) pss_nil) ?_
  rintro D σ H ⟨o0, o2, o3, o4, o6, o7, o9, o11, o12, o13, o14, o15, o16, o17, o18, p, a1, x, m, S, ms, ps, ns, rfl, hG, hF, hW, hm, ml, hms, k⟩
  have hi := hG.hi
  refine ⟨_, rfl, _, rfl, by show 2 ≤ sizeLine; decide, fun qa Ha na => ⟨_, rfl, by show 2 ≤ sizeLine; decide, fun qb Hb nb => ?_⟩⟩
  have sab := na.same.trans nb.same
  obtain ⟨dx, fa, dd, i1, _⟩ := (hW.same sab).at_
  refine ⟨_, rfl, x, dx, _, rfl, i1, x, S, _, _, rfl, hW.same sab, by omega, hG.nd, fun Hc sc => ⟨by show 2 ≤ sizeLine; decide, fun qd Hd nd => ⟨by show 3 ≤ sizeLine; decide, fun ql Hl nl => ?_⟩⟩⟩
  have kd : Same Hd Hl := nl.same
  have kc : Same Hc Hl := nd.same.trans kd
  have kb : Same Hb Hl := sc.trans kc
  have ka : Same Ha Hl := nb.same.trans kb
  have k0 : Same H Hl := na.same.trans ka
  refine ⟨m, ql, ms, _, rfl, rfl, k0 _ _ hm, nl.here, Nat.le_trans (show ms.length + 3 ≤ 30 by omega) (by decide), fun r Hr nr => ?_⟩
  have kr := nr.same
  have S0 := k0.trans kr
  refine ⟨.ref x, r, _, rfl, nr.here, fun y hy => ?_, fun H' s' => ⟨_, rfl, iteF (k H' (S0.trans s'))⟩⟩
  have lw := due_low hG
  rcases List.mem_append.mp hy with hy | hy
  · obtain ⟨q, y, fl, rfl, h1, h2⟩ := hms y hy
    rcases h2 with ⟨T, qs, g, h2, h3, rfl⟩ | ⟨kvs, h2, rfl⟩
    · exact ⟨q, .ref y, _, rfl, S0 _ _ h1, fun H' s' => cmp_ww (hW.same (S0.trans s')) (h2.same (S0.trans s')) lw (due_low h3)⟩
    · exact ⟨q, .ref y, false, rfl, S0 _ _ h1, fun H' s' => cmp_wb (hW.same (S0.trans s')) lw (.dict ((S0.trans s') _ _ h2)) N.bW⟩
  rcases List.mem_cons.mp hy with rfl | hy
  · exact ⟨qa, .non, false, rfl, (ka.trans kr) _ _ na.here, fun H' s' => cmp_wb (hW.same (S0.trans s')) lw .non N.bW⟩
  rcases List.mem_cons.mp hy with rfl | hy
  · exact ⟨qb, .ref a1, false, rfl, (kb.trans kr) _ _ nb.here, fun H' s' => cmp_wf (hW.same (S0.trans s')) (hF.same (S0.trans s')) lw lw N.iF N.iW N.fw N.wf⟩
  rw [List.mem_singleton.mp hy]
  exact ⟨qd, .int _, false, rfl, (kd.trans kr) _ _ nd.here, fun H' s' => cmp_wb (hW.same (S0.trans s')) lw (.int _) N.bW⟩
end
end My
end
section
set_option Elab.async false
set_option linter.all false
set_option maxRecDepth 100000
set_option maxHeartbeats 4000000
namespace My
open PySem PySem.Spec PyProof.Rows L2 LamX
def sp_law0 (K : PySem.W.Frag) : Sp := fun vs H Q _ => ∃ (a : Addr) (ns : List Int), vs = [.ref a] ∧ SqL K H a (ns.map V.int) ∧ ns.length ≤ 63 ∧ ∀ H', Q (.bl true) H'
theorem ok_law {f CC C W fN fB fM fF fOf fOc fPr fIC fWa fIW fPi fFu t0 : Addr} {fdN fdB fdM fdF fdOf fdOc fdPr fdIC fdWa fdIW fdPi fdFu : FuncData} {oc kV doc pm ct : Value} {od an : Option Addr} {osl : Array (Option Value)} {cL : Addr}
    {P : Program} {w : World} {K : PySem.W.Frag} {mg : Str → Option Value} {base : Heap}
    (lk : K.lookup f = some ⟨oc, od, .func (PySem.W.fnOf "law" "law" (defArgs s_law) (defBody s_law) (defScope s_law) .none kV doc pm an (.ref cL) ct), osl⟩) (hcd : PySem.W.codeIn K (.ref cL) "law" = true)
    (T : TB mg) (td : mg "dict" = none) (N : Fk K C CC W) (cc : CCls K CC) (wc : WCls K W) (OP : PltA P w K mg base CC) (OT : TotA P w K mg base W C)
    (DN : Def K mg "_law_pen" fN fdN ["_law_script"]) (GN : FnOk P w K mg base CX0 1 fN fdN ["_law_script"] (sp_pen K))
    (DB : Def K mg "_law_plain" fB fdB ["_law_pen_here", "_law_signs", "_law_most", "_law_bound"]) (GB : FnOk P w K mg base CX0 5 fB fdB ["_law_pen_here", "_law_signs", "_law_most", "_law_bound"] sp_plain)
    (DM : Def K mg "_law_made" fM fdM ["_law_pen_here", "_law_plain_here"]) (GM : FnOk P w K mg base CX0 8 fM fdM ["_law_pen_here", "_law_plain_here"] (sp_cmade CC C))
    (DF : Def K mg "_law_font_made" fF fdF ["_law_pen_here", "_law_font_here"]) (GF : FnOk P w K mg base CX0 6 fF fdF ["_law_pen_here", "_law_font_here"] (sp_fmade K C))
    (DOf : Def K mg "_law_other_fonts" fOf fdOf ["_law_pen_here", "_law_font_here"]) (GOf : FnOk P w K mg base CX0 3 fOf fdOf ["_law_pen_here", "_law_font_here"] sp_ofonts)
    (DOc : Def K mg "_law_other_counts" fOc fdOc ["_law_pen_here", "_law_font_here", "_law_counts"]) (GOc : FnOk P w K mg base CX0 3 fOc fdOc ["_law_pen_here", "_law_font_here", "_law_counts"] sp_ocounts)
    (DPr : Def K mg "_law_pairs_right" fPr fdPr ["_law_one", "_law_others"]) (GPr : FnG P w K mg base 4 fPr fdPr ["_law_one", "_law_others"] (sp_pairs K C CC W))
    (MC : Mk K CC fIC) (GIC : FnOk P w K mg base CX0 6 fIC fdIC ["self", "font", "plates"] (sp_cinit K CC C)) (bIC : Binds K fdIC ["self", "font", "plates"] [.ref t0]) (ht0 : KEmp K t0) (gC : mg "Case" = some (.ref CC))
    (DWa : Def K mg "_law_wants" fWa fdWa ["_law_pen_here", "_law_signs", "_law_bound"]) (GWa : FnOk P w K mg base CX0 5 fWa fdWa ["_law_pen_here", "_law_signs", "_law_bound"] (sp_lwants 5000000000000000000000000000000))
    (MW : Mk K W fIW) (GIW : FnOk P w K mg base CX0 4 fIW fdIW ["self", "font", "counts"] (sp_winit W C)) (bIW : Binds K fdIW ["self", "font", "counts"] []) (gW : mg "Wants" = some (.ref W))
    (DPi : Def K mg "_law_pick" fPi fdPi ["_law_pen_here", "_law_options"]) (GPS : FnOk P w K mg base CX0 2 fPi fdPi ["_law_pen_here", "_law_options"] sp_pickS)
    (DFu : Def K mg "_law_full" fFu fdFu ["_law_signs", "_law_counts"]) (GFu : FnOk P w K mg base CX0 1 fFu fdFu ["_law_signs", "_law_counts"] sp_full) :
    FnG P w K mg base 13 f (PySem.W.fnOf "law" "law" (defArgs s_law) (defBody s_law) (defScope s_law) .none kV doc pm an (.ref cL) ct) ["_law_script"] (sp_law0 K) := by
  refine okGc lk hcd sc_law (fun vs H Q E h => ?_) (fun A outer s H vs Q E g hr h => ?_)
  · obtain ⟨a, ns, rfl, _⟩ := h
    rfl
  · obtain ⟨a, ns, rfl, hS, hlen, k⟩ := h
    have r1 : Room 1 _ := hr.mono (by decide)
    refine ⟨_, pss_cons (ps_set (i := 1) sc_law.nd rfl (Or.inr rfl) (pe_call GN r1 rfl DN.mgf DN.kp DN.bd .nil pass0 (pa_cons (pv 0) pa_nil)))
      (pss_cons (ps_for PassesOwn.never rfl (pi_range1 rfl T.range (pa_cons pe_int pa_nil)) (pg_name (i := 2) sc_law.nd rfl (Or.inl rfl))
        (pss_cons (st0 DB GB hr) (pss_cons (st1 DM GM DF GF hr) (pss_cons (st2 (CC := CC) DOf GOf DF GF hr) (pss_cons (st3 N DPr GPr g hr) (pss_cons (st4 DOc GOc DM GM hr) (pss_cons (st5 MC GIC bIC ht0 gC hr) (pss_cons (st6 td cc OP N DPr GPr g hr)
        (pss_cons (st7 DWa GWa hr) (pss_cons (st8 MW GIW bIW gW DPi GPS hr) (pss_cons (st9 td hr) (pss_cons (st10 hr) (pss_cons (st11 td MW GIW bIW gW DFu GFu hr) (pss_cons (st12 td MW GIW bIW gW hr) (pss_cons (st13 MW GIW bIW gW DFu GFu hr) (pss_one (st14 wc OT N DPr GPr g hr)))))))))))))))))
      (pss_one (ps_ret pe_bl))), ?_⟩
    refine ⟨_, rfl, a, ns, rfl, hS, hlen, fun H1 p c s1 fp hP => ?_⟩
    refine ⟨6, rfl, by decide, by decide, for_it (walk_range (lo := 0) (n := (6 : Int).toNat)) (fun i σ' H' => ∃ (o0 o2 o3 o4 o5 o6 o7 o8 o9 o10 o11 o12 o13 o14 o15 o16 o17 o18 : Option V) (n : Nat), σ' = sl o0 p o2 o3 o4 o5 o6 o7 o8 o9 o10 o11 o12 o13 o14 o15 o16 o17 o18 ∧ PenAt H' p c n ∧ n ≤ 7000 * i)
      ⟨_, _, _, _, _, _, _, _, _, _, _, _, _, _, _, _, _, _, 0, rfl, hP, Nat.le_refl _⟩ (fun _ _ _ _ _ => trivial) ?_ ?_⟩
    · rintro i x σ' Ha Hb hi ⟨o0, o2, o3, o4, o5, o6, o7, o8, o9, o10, o11, o12, o13, o14, o15, o16, o17, o18, n, rfl, hP, hn⟩ ⟨rfl, rfl⟩
      have hi8 : i < 6 := hi
      have small : ∀ m : Nat, m ≤ 100000 → m < 2 ^ 47 := fun m hm => Nat.lt_of_le_of_lt hm (by decide)
      refine ⟨_, _, _, _, _, _, _, _, _, _, _, _, _, _, _, _, _, _, p, c, n, rfl, hP, small n (by omega), fun H1 t t1 b d S ys ps cs d1 hT => ?_⟩
      have P1 := d1.pen
      refine ⟨_, _, _, _, _, _, _, _, _, _, _, _, _, _, _, _, p, c, t, t1, b, d, n + 1000, S, ys, ps, cs, rfl, P1, small _ (by omega), hT, fun H2 a1 a2 d2 ft cb => ?_⟩
      have P2 := d2.pen
      have hT2 := hT.pen P1 d2.but
      have hq2 : Pq H2 CC C t1 b d a1 a2 S ys ps cs := ⟨hT2.at_.h1, hT2.at_.h2, hT2.at_.h3, hT2.at_.h4, hT.good, hT.csp, ft, cb⟩
      refine ⟨_, _, _, _, _, _, _, _, _, _, _, _, _, _, _, _, p, c, t1, b, d, a1, a2, n + 1000 + 420, S, ys, ps, cs, rfl, P2, small _ (by omega), hq2, fun H3 l us u16 u17 u18 d3 hl ul hus => ?_⟩
      have P3 := d3.pen
      have hq3 := hq2.pen P2 d3.but
      refine ⟨_, _, _, _, _, _, _, _, _, _, _, _, _, p, t1, b, d, a1, a2, l, S, ys, us, ps, cs, rfl, hq3, hl, ul, hus, fun H4 s4 => ?_⟩
      have P4 := P3.same s4
      have hq4 := hq3.same s4
      refine ⟨_, _, _, _, _, _, _, _, _, _, _, _, _, _, _, _, p, c, t1, b, d, a1, a2, n + 1000 + 420 + 300, S, ys, ps, cs, rfl, P4, small _ (by omega), hq4, fun H5 m ms v16 v17 v18 d5 hm ml hms => ?_⟩
      have P5 := d5.pen
      have hq5 := hq4.pen P4 d5.but
      have hl5 := d5.but _ _ (P4.neL (s4 _ _ hl)) (s4 _ _ hl)
      have hus5 : ∀ v ∈ us, FI C S ps H5 v := fun v hv => ((hus v hv).same s4).pen P4 d5.but
      refine ⟨_, _, _, _, _, _, _, _, _, _, _, _, p, c, t1, b, d, a1, a2, l, m, _, S, ys, us, ms, ps, cs, rfl, P5, hq5, hl5, ul, hus5, hm, ml, hms, fun H6 m6 ms6 w16 w17 w18 s6 hm6 ml6 hms6 => ?_⟩
      have hq6 := hq5.same s6
      refine ⟨_, _, _, _, _, _, _, _, _, _, _, _, _, p, t1, b, d, a1, a2, m6, S, ys, ms6, ps, cs, rfl, hq6, hm6, ml6, hms6, fun H7 s7 => ?_⟩
      have s57 := s6.trans s7
      have P7 := P5.same s57
      have hq7 := hq5.same s57
      have g10 := hT.good
      refine ⟨_, _, _, _, _, _, _, _, _, _, _, _, _, _, _, _, _, p, c, t1, b, n + 1000 + 420 + 300 + 4100, S, rfl, P7, small _ (by omega), hq7.h1, g10.hi, g10.nd, fun H8 dn ns d8 hdn hns => ?_⟩
      have P8 := d8.pen
      have hq8 := hq7.pen P7 d8.but
      refine ⟨_, _, _, _, _, _, _, _, _, _, _, _, _, _, _, p, c, t1, b, a1, dn, n + 1000 + 420 + 300 + 4100 + 200, S, ps, ns, rfl, P8, small _ (by omega), hq8.h1, g10, hq8.ft, hdn, hns, fun H9 x z d9 hw hz => ?_⟩
      have P9 := d9.pen
      have hq9 := hq8.pen P8 d9.but
      have hdn9 := d9.but _ _ (P8.neC2 hdn) hdn
      have l7 := s57 _ _ hl5
      have l8 := d8.but _ _ (P7.neL l7) l7
      have l9 := d9.but _ _ (P8.neL l8) l8
      have us9 : ∀ v ∈ us, FI C S ps H9 v := fun v hv => (((hus5 v hv).same s57).pen P7 d8.but).pen P8 d9.but
      refine ⟨_, _, _, _, _, _, _, _, _, _, _, _, _, _, _, _, _, p, dn, ns, rfl, hdn9, fun H10 dm n10 => ?_⟩
      refine ⟨_, _, _, _, _, _, _, _, _, _, _, _, _, _, _, p, dn, dm, z, ns, rfl, n10.same _ _ hdn9, n10.here, cnt_len hns g10.hi, fun H11 w11 => ?_⟩
      have s911 : Same H9 H11 := fun q o e => (w11.els q (ne_of_none e n10.free)).trans (n10.same _ _ e)
      have hq11 := hq9.same s911
      refine ⟨_, _, _, _, _, _, _, _, _, _, _, _, _, _, p, t1, b, a1, dn, dm, S, ps, ns, z, rfl, hq11.h1, g10, hq11.ft, s911 _ _ hdn9, hns, hz, w11.here, fun H12 m12 ms12 s12 f12 hm12 ml12 hms12 => ?_⟩
      have s912 := s911.trans s12
      have hq12 := hq9.same s912
      refine ⟨_, _, _, _, _, _, _, _, _, _, _, _, _, _, p, t1, b, a1, dn, m12, S, ps, ns, ms12, rfl, hq12.h1, g10, hq12.ft, s912 _ _ hdn9, hns, hm12, ml12, hms12, fun H13 ms13 y13 y14 y15 y18 b13 hm13 ml13 hms13 => ?_⟩
      have xL := but_extL hm12 b13
      have ne12 : ∀ {q : Addr} {o : HO}, H11 q = some o → q ≠ m12 := fun e => ne_of_none e f12
      have l13 := b13 _ _ (ne12 (s911 _ _ l9)) (s912 _ _ l9)
      have us13 : ∀ v ∈ us, FI C S ps H13 v := fun v hv => ((us9 v hv).same s912).extL xL
      have t13 := xL _ _ hq12.h1 (fun _ z => by cases z)
      have dn13 := xL _ _ (s912 _ _ hdn9) (fun _ z => by cases z)
      refine ⟨_, _, _, _, _, _, _, _, _, _, _, _, _, _, p, t1, b, dn, l, m12, S, us, ms13, ps, ns, rfl, t13, g10, dn13, hns, l13, ul, us13, hm13, ml13, hms13, fun H14 m14 ms14 z16 z17 z18 s14 hm14 ml14 hms14 => ?_⟩
      refine ⟨_, _, _, _, _, _, _, _, _, _, _, _, _, _, _, p, a1, x, m14, S, ms14, ps, ns, rfl, g10, (hq12.ft.extL xL).same s14, (((hw.same s912).extL xL)).same s14, hm14, ml14, hms14, fun H15 s15 => ?_⟩
      have pm : p ≠ m12 := (P9.same s911).ne f12
      have cm : c ≠ m12 := (P9.same s911).neC f12
      exact ⟨_, _, _, _, _, _, _, _, _, _, _, _, _, _, _, _, _, _, _, rfl, ((PenAt.butL b13 pm cm (P9.same s912)).same s14).same s15, by omega⟩
    · rintro σ' H' _
      exact k H'
end My
end
section
set_option Elab.async false
set_option linter.all false
set_option maxRecDepth 100000
set_option maxHeartbeats 4000000
/-! B17: which class an error's class stands below. -/
namespace My
open PySem PySem.Spec PyProof.Rows L2 LamX
/-- a class below a built-in one is told so -/
theorem kit_sub {K : PySem.W.Frag} {U : Addr} {T : String} (h : PySem.W.subIn K (.ref U) (.type T) = some true) (m : PySem.W.kitMeta T = true) : PySem.W.kitOne K (.ref U) (.type T) = some true := by
  show (if (Value.ref U == Value.type T) = true then some true else (if PySem.W.kitMeta T = true then PySem.W.subIn K (.ref U) (.type T) else none)) = some true
  rw [if_pos m, h]
  split <;> rfl
/-- an error of a class is caught by the class's name -/
theorem caught_self {K : PySem.W.Frag} {S : Addr} (h1 : PySem.W.subIn K (.ref S) (.type "BaseException") = some true) (h2 : PySem.W.isClsIn K S = true) (h3 : PySem.W.typeIn K (.ref S) = some (.type "type")) (h4 : PySem.W.subIn K (.ref S) (.ref S) = some true) : PySem.W.exmOne K (.ref S) (.ref S) = some true := by
  have h2 : (PySem.W.clsIn K S).isSome = true := h2
  show (if (PySem.W.subIn K (.ref S) (.type "BaseException") == some true) = true then (if ((PySem.W.clsIn K S).isSome && (PySem.W.typeIn K (.ref S) == some (.type "type"))) = true then PySem.W.subIn K (.ref S) (.ref S) else none) else none) = some true
  rw [h1, h2, h3, h4]
  rfl
theorem kit_no {K : PySem.W.Frag} {U S : Addr} (h : PySem.W.subIn K (.ref U) (.ref S) = some false) (h0 : PySem.W.subIn K (.ref U) (.ref U) = some true) (h2 : PySem.W.isClsIn K S = true) (h3 : PySem.W.typeIn K (.ref S) = some (.type "type")) : PySem.W.kitOne K (.ref U) (.ref S) = some false := by
  have ne : U ≠ S := fun e => by
    subst e
    rw [h] at h0
    cases h0
  have h2 : (PySem.W.clsIn K S).isSome = true := h2
  show (if (Value.ref U == Value.ref S) = true then some true else (if ((PySem.W.clsIn K S).isSome && (PySem.W.typeIn K (.ref S) == some (.type "type"))) = true then PySem.W.subIn K (.ref U) (.ref S) else none)) = some false
  rw [if_neg (by simpa using ne), h2, h3, h]
  rfl
theorem exm_no {K : PySem.W.Frag} {U S : Addr} (h1 : PySem.W.subIn K (.ref S) (.type "BaseException") = some true) (h2 : PySem.W.isClsIn K S = true) (h3 : PySem.W.typeIn K (.ref S) = some (.type "type")) (h4 : PySem.W.subIn K (.ref U) (.ref S) = some false) : PySem.W.exmOne K (.ref U) (.ref S) = some false := by
  have h2 : (PySem.W.clsIn K S).isSome = true := h2
  show (if (PySem.W.subIn K (.ref S) (.type "BaseException") == some true) = true then (if ((PySem.W.clsIn K S).isSome && (PySem.W.typeIn K (.ref S) == some (.type "type"))) = true then PySem.W.subIn K (.ref U) (.ref S) else none) else none) = some false
  rw [h1, h2, h3, h4]
  rfl
end My
end
section
set_option Elab.async false
set_option linter.all false
set_option maxRecDepth 100000
set_option maxHeartbeats 2000000
/-! H0: a head by one kernel run, its facts told by names: K is what the heap holds at given addresses. -/
namespace My
open PySem PySem.Spec PyProof.Rows L2
def oOf (K : PySem.W.Frag) (a : Addr) : Obj := match K.lookup a with
  | some o => o
  | none => default
def fnD (K : PySem.W.Frag) (f : Addr) : FuncData := match (oOf K f).data with
  | .func fd => fd
  | _ => default
theorem oOf_eq {K : PySem.W.Frag} {a : Addr} {o : Obj} (h : K.lookup a = some o) : oOf K a = o := by
  unfold oOf
  rw [h]
theorem fnD_eq {K : PySem.W.Frag} {f : Addr} {oc : Value} {od : Option Addr} {fd : FuncData} {sl : Array (Option Value)} (h : K.lookup f = some ⟨oc, od, .func fd, sl⟩) : fnD K f = fd := by
  unfold fnD
  rw [oOf_eq h]
abbrev FnV : Type := Option (Str × Str × Arguments × FuncBody × Scope × Addr × List (Str × Addr) × Addr)
def fnV (K : PySem.W.Frag) (f : Addr) : FnV := match K.lookup f with
  | some ⟨_, _, .func fd, _⟩ => some (fd.name, fd.qualname, fd.params, fd.body, fd.scope, fd.globals, fd.closure, fd.builtins)
  | _ => none
abbrev fnW (nm q : Str) (ps : Arguments) (body : List Stmt) (sc : Scope) : FnV := some (nm, q, ps, .stmts body, sc, mainGlobals, [], builtinsNs)
theorem look_fn {K : PySem.W.Frag} {f : Addr} {nm q : Str} {ps : Arguments} {body : List Stmt} {sc : Scope} {dV kV cd : Value} (e : fnV K f = fnW nm q ps body sc) (hd : (fnD K f).defaults = dV) (hk : (fnD K f).kwdefaults = kV) (hc : (fnD K f).code = cd) :
    K.lookup f = some ⟨(oOf K f).cls, (oOf K f).dict, .func (PySem.W.fnOf nm q ps body sc dV kV (fnD K f).doc (fnD K f).pyModule (fnD K f).annotations cd (fnD K f).closureTuple), (oOf K f).slots⟩ := by
  unfold fnV at e
  cases h : K.lookup f with
  | none =>
    rw [h] at e
    cases e
  | some o =>
    obtain ⟨oc, od, dt, sl⟩ := o
    rw [h] at e
    cases dt with
    | func fd =>
      rw [fnD_eq h] at hd hk hc
      rw [oOf_eq h, fnD_eq h]
      obtain ⟨n1, n2, n3, n4, n5, n6, n7, n8, n9, n10, n11, n12, n13, n14, n15⟩ := fd
      have e2 : (some (n1, n2, n3, n4, n5, n6, n7, n15) : FnV) = some (nm, q, ps, .stmts body, sc, mainGlobals, [], builtinsNs) := e
      simp only [Option.some.injEq, Prod.mk.injEq] at e2
      obtain ⟨h1, h2, h3, h4, h5, h6, h7, h8⟩ := e2
      have hd : n8 = dV := hd
      have hk : n9 = kV := hk
      have hc : n13 = cd := hc
      subst h1 h2 h3 h4 h5 h6 h7 h8 hd hk hc
      rfl
    | _ => cases e
def refOf (v : Value) : Addr := match v with
  | .ref a => a
  | _ => 0
def seqV (K : PySem.W.Frag) (t : Addr) : Option (List Value) := match K.lookup t with
  | some ⟨_, _, .seq its _, _⟩ => some its.toList
  | _ => none
def seqN (K : PySem.W.Frag) (t : Addr) : Nat := match (oOf K t).data with
  | .seq _ n => n
  | _ => 0
/-- the i-th item of the tuple at t, if it is an object -/
def itA (K : PySem.W.Frag) (t : Addr) (i : Nat) : Addr := match seqV K t with
  | some l => refOf (l.getD i .none)
  | none => 0
theorem look_seq {K : PySem.W.Frag} {t : Addr} {vs : List Value} (e : seqV K t = some vs) : K.lookup t = some ⟨(oOf K t).cls, (oOf K t).dict, .seq vs.toArray (seqN K t), (oOf K t).slots⟩ := by
  unfold seqV at e
  cases h : K.lookup t with
  | none =>
    rw [h] at e
    cases e
  | some o =>
    obtain ⟨oc, od, dt, sl⟩ := o
    rw [h] at e
    cases dt with
    | seq its n =>
      have e2 : its.toList = vs := Option.some.inj e
      unfold seqN
      rw [oOf_eq h, ← e2]
    | _ => cases e
theorem look_seqT {K : PySem.W.Frag} {t : Addr} {vs : List Value} {c : Value} (e : seqV K t = some vs) (hc : (oOf K t).cls = c) : K.lookup t = some ⟨c, (oOf K t).dict, .seq vs.toArray (seqN K t), (oOf K t).slots⟩ := hc ▸ look_seq e
def excB (K : PySem.W.Frag) (c : Addr) (bm : List Value) (id : String) : Bool := match K.lookup c with
  | some ⟨.type t, _, .cls cd, sl⟩ => (match cd.mro, sl.toList with
    | .ref C :: b, [_, _, _, _, some (.builtin n), _] => decide (t = "type") && (decide (C = c) && (decide (b = bm) && (decide (n = id) && (cd.hasDict && !cd.hasDel))))
    | _, _ => false)
  | _ => false
theorem look_exc {K : PySem.W.Frag} {c : Addr} {bm : List Value} {id : String} (e : excB K c bm id = true) : ∃ nm q N bs sn sub ab col dd k0 k1 k2 k3 k5, K.lookup c = some (excClassObj nm q c N bs bm true sn sub ab col dd k0 k1 k2 k3 k5 id) := by
  unfold excB at e
  split at e
  · rename_i t dd cd sl ho
    split at e
    · rename_i C b k0 k1 k2 k3 n k5 hm hs
      obtain ⟨e1, e⟩ := Bool.and_eq_true_iff.mp e
      obtain ⟨e2, e⟩ := Bool.and_eq_true_iff.mp e
      obtain ⟨e3, e⟩ := Bool.and_eq_true_iff.mp e
      obtain ⟨e4, e⟩ := Bool.and_eq_true_iff.mp e
      obtain ⟨e5, e6⟩ := Bool.and_eq_true_iff.mp e
      have e1 := of_decide_eq_true e1
      have e2 := of_decide_eq_true e2
      have e3 := of_decide_eq_true e3
      have e4 := of_decide_eq_true e4
      obtain ⟨nm, bs, mro, ns, qn, hd, sn, sub, ab, col, del⟩ := cd
      dsimp only at hm e5 e6
      have e6 : del = false := by simpa using e6
      subst e1 e2 e3 e4 hm e5 e6
      have hsl : sl = #[k0, k1, k2, k3, some (.builtin n), k5] := by
        obtain ⟨l⟩ := sl
        simp only at hs
        rw [hs]
      subst hsl
      exact ⟨nm, qn, ns, bs, sn, sub, ab, col, dd, k0, k1, k2, k3, k5, ho⟩
    · cases e
  · cases e
def valB (K : PySem.W.Frag) (C : Addr) (n : Str) (i : Int) : Bool := match PySem.W.findCls K (.ref C) (.type "type") n with
  | some (.val (.int j _)) => decide (j = i)
  | _ => false
theorem look_val {K : PySem.W.Frag} {C : Addr} {n : Str} {i : Int} (e : valB K C n i = true) : ∃ t, PySem.W.findCls K (.ref C) (.type "type") n = some (.val (.int i t)) := by
  unfold valB at e
  split at e
  · rename_i j t h
    exact ⟨t, by rw [h, of_decide_eq_true e]⟩
  · cases e
def cmA (K : PySem.W.Frag) (C : Addr) (n : Str) : Addr := match PySem.W.findCls K (.ref C) (.type "type") n with
  | some (.get _ a _ _) => refOf a
  | _ => 0
def cmB (K : PySem.W.Frag) (C : Addr) (n : Str) : Bool := match PySem.W.findCls K (.ref C) (.type "type") n with
  | some (.get g (.ref _) o t) => decide (g = .builtin "classmethod.__get__") && (decide (o = .none) && decide (t = .ref C))
  | _ => false
theorem look_cm {K : PySem.W.Frag} {C : Addr} {n : Str} (e : cmB K C n = true) : PySem.W.findCls K (.ref C) (.type "type") n = some (.get (.builtin "classmethod.__get__") (.ref (cmA K C n)) .none (.ref C)) := by
  unfold cmB at e
  split at e
  · rename_i g p o t h
    obtain ⟨e1, e⟩ := Bool.and_eq_true_iff.mp e
    obtain ⟨e2, e3⟩ := Bool.and_eq_true_iff.mp e
    have e1 := of_decide_eq_true e1
    have e2 := of_decide_eq_true e2
    have e3 := of_decide_eq_true e3
    subst e1 e2 e3
    have : cmA K C n = p := by
      unfold cmA
      rw [h]
      rfl
    rw [this, h]
  · cases e
def recF (K : PySem.W.Frag) (p : Addr) (T : String) : Addr := match PySem.W.recIn K p T with
  | some (v :: _) => refOf v
  | _ => 0
def recR (K : PySem.W.Frag) (p : Addr) (T : String) : List Value := match PySem.W.recIn K p T with
  | some (_ :: r) => r
  | _ => []
def recB (K : PySem.W.Frag) (p : Addr) (T : String) : Bool := match PySem.W.recIn K p T with
  | some (.ref _ :: _) => true
  | _ => false
theorem look_rec {K : PySem.W.Frag} {p : Addr} {T : String} (e : recB K p T = true) : PySem.W.recIn K p T = some (.ref (recF K p T) :: recR K p T) := by
  unfold recB at e
  split at e
  · rename_i a r h
    have h1 : recF K p T = a := by
      unfold recF
      rw [h]
      rfl
    have h2 : recR K p T = r := by
      unfold recR
      rw [h]
    rw [h1, h2, h]
  · cases e
/-- the token of a module's number or text -/
def tokB (K : PySem.W.Frag) (x : Str) (v : V) : Bool := match v, PySem.W.nsIn K mainGlobals x with
  | .int i, some (some (.int j _)) => decide (i = j)
  | .str z, some (some (.str y _)) => decide (z = y)
  | _, _ => false
theorem look_int {K : PySem.W.Frag} {x : Str} {i : Int} (e : tokB K x (.int i) = true) : ∃ t, PySem.W.nsIn K mainGlobals x = some (some (.int i t)) := by
  unfold tokB at e
  split at e
  · rename_i z j t hz h
    cases hz
    exact ⟨t, by rw [h, of_decide_eq_true e]⟩
  · rename_i hz _
    cases hz
  · cases e
theorem look_str {K : PySem.W.Frag} {x : Str} {z : Str} (e : tokB K x (.str z) = true) : ∃ t, PySem.W.nsIn K mainGlobals x = some (some (.str z t)) := by
  unfold tokB at e
  split at e
  · rename_i hz _
    cases hz
  · rename_i z y t hz h
    cases hz
    exact ⟨t, by rw [h, of_decide_eq_true e]⟩
  · cases e
theorem look_some {α : Type} {o : Option α} (e : o.isSome = true) : ∃ x, o = some x := Option.isSome_iff_exists.mp e
/-- the table of a code object -/
def tabA (K : PySem.W.Frag) (c : Addr) : Addr := match (oOf K c).data with
  | .fields vs => refOf (vs.getD 11 .none)
  | _ => 0
def emptyB : Obj → Bool
  | ⟨.none, none, .fields vs, sl⟩ => vs.isEmpty && sl.isEmpty
  | _ => false
theorem emptyB_eq {o : Obj} (h : emptyB o = true) : o = emptyTab := by
  obtain ⟨oc, od, dt, sl⟩ := o
  cases oc with
  | none =>
    cases od with
    | none =>
      cases dt with
      | fields vs =>
        obtain ⟨h1, h2⟩ := Bool.and_eq_true_iff.mp (show (vs.isEmpty && sl.isEmpty) = true from h)
        rw [Array.isEmpty_iff.mp h1, Array.isEmpty_iff.mp h2]
      | _ => cases h
    | some d => cases dt <;> cases h
  | _ => cases od <;> cases dt <;> cases h
theorem frG_out {g : Addr → Option Obj} {a : Addr} : ∀ {as : List Addr}, a ∉ as → (He.frG g as).lookup a = none
  | [], _ => rfl
  | b :: r, h => by
    have hr : a ∉ r := fun z => h (List.mem_cons_of_mem _ z)
    have hb : a ≠ b := fun z => h (z ▸ List.mem_cons_self)
    have ih := frG_out (g := g) hr
    unfold He.frG at ih ⊢
    rw [List.filterMap_cons]
    cases q : g b with
    | none => exact ih
    | some o =>
      show (match a == b with | true => some o | false => _) = none
      rw [beq_eq_false_iff_ne.mpr hb]
      exact ih
/-- what is looked at: the facts, the defs, the tables -/
def obX (as : List Addr) (ts : PySem.W.Frag → List Addr) (chk : PySem.W.Frag → Bool) (fn : PySem.W.Frag → List FnV) (g : Addr → Option Obj) : Bool × List FnV :=
  (chk (He.frG g as) && (ts (He.frG g as)).all fun P => (match g P with
    | some o => emptyB o
    | none => false) && !as.contains P, fn (He.frG g as))
structure SaysH (ts : PySem.W.Frag → List Addr) (chk : PySem.W.Frag → Bool) (fn : PySem.W.Frag → List FnV) (fv : List FnV) (h : Heap) (K : PySem.W.Frag) : Prop where
  chk : chk K = true
  fn : fn K = fv
  tab : ∀ P ∈ ts K, h.get? P = some emptyTab
  out : ∀ P ∈ ts K, K.lookup P = none
def hkX (as : List Addr) (ts : PySem.W.Frag → List Addr) (chk : PySem.W.Frag → Bool) (fn : PySem.W.Frag → List FnV) (fv : List FnV) : PySem.W.Hook where
  α := Bool × List FnV
  obs := fun s => obX as ts chk fn s.heap.get?
  val := fun _ => (true, fv)
  says := fun _ h => ∃ K : PySem.W.Frag, K.In h ∧ SaysH ts chk fn fv h K
  of := fun _ s e => by
    obtain ⟨e1, e2⟩ := Prod.mk.inj e
    obtain ⟨h1, h2⟩ := Bool.and_eq_true_iff.mp e1
    have key : ∀ P ∈ ts (He.frG s.heap.get? as), (∃ o, s.heap.get? P = some o ∧ emptyB o = true) ∧ P ∉ as := fun P hP => by
      obtain ⟨a1, a2⟩ := Bool.and_eq_true_iff.mp (List.all_eq_true.mp h2 P hP)
      refine ⟨?_, ?_⟩
      · cases q : s.heap.get? P with
        | none =>
          rw [q] at a1
          cases a1
        | some o =>
          rw [q] at a1
          exact ⟨o, rfl, a1⟩
      · intro z
        rw [List.contains_iff_mem.mpr z] at a2
        cases a2
    exact ⟨_, He.frG_in, h1, e2, fun P hP => by
      obtain ⟨⟨o, q, z⟩, _⟩ := key P hP
      rw [q, emptyB_eq z], fun P hP => frG_out (key P hP).2⟩
  keeps := fun _ _ _ ⟨K, hK, c⟩ k => ⟨K, PySem.W.Frag.In.keeps hK k, c.chk, c.fn, fun P hP => k _ _ (c.tab P hP), c.out⟩
theorem obX_eq {as : List Addr} {ts : PySem.W.Frag → List Addr} {chk : PySem.W.Frag → Bool} {fn : PySem.W.Frag → List FnV} {fv : List FnV} (s : PySem.W.SharedT) : obX as ts chk fn (HandSHeadRun.getT s) = (hkX as ts chk fn fv).obs s.abs := by
  have e : HandSHeadRun.getT s = s.abs.heap.get? := funext (HandSHeadRun.getT_eq s)
  rw [e] <;> rfl
/-- as walkG, K told by the head's facts -/
theorem walkE {l : PySem.W.OpenLaw} {n k : Nat} {q : Program} {loose : List Str} {XP : (Str → Option Value) → Heap → Prop} {YP : World → Heap → Prop} {d : DefRec} {x : Str}
    (hn : l.most = some n) (hn2 : n ≤ sizeLine) (hdf : d.params.defaults = []) (hr : Room k callerA)
    (F : ∀ (w : World) (mg : Str → Option Value) (fa : Addr) (h : Heap), YP w h → h.Ns mainGlobals mg → mg d.name = some (.ref fa) → ∃ K : PySem.W.Frag, K.In h ∧ LawG l w K k n x mg fa h) :
    PySem.W.WalkO q loose XP YP l.row.toRowW d [] (fun f vs => PySem.call f vs) := by
  apply Att.attach_callB hn hdf
  intro w s0 s1 mg mb fa o pm cd doc a vs ns G Y ho hd hcd hmg hobj hints hlen hbits hg
  obtain ⟨K, KX, fd, cs, sp, hT, nT, C, hb, hsp, hF⟩ := F w mg fa _ Y G.T.g hmg
  exact law_callG KX G.T.g G.T.b G.T.builtins G.T.nolimit hg hT nT C G.T.bmain hobj hints (Nat.le_trans hlen hn2) hr hF hb fun H hH hS => hsp H a ns hlen hbits hH hS
end My
end
section
set_option Elab.async false
set_option linter.all false
set_option maxRecDepth 100000
set_option maxHeartbeats 4000000
namespace My
open PySem PySem.Spec PyProof.Rows L2 LamX
theorem bi_all {Q : String → Prop} (h1 : Q "NoneType") (h2 : Q "str") (h3 : Q "int") (h4 : Q "tuple") (h5 : Q "dict") : ∀ T ∈ biNames, Q T := fun T h => by
  rcases List.mem_cons.mp h with rfl | h
  · exact h1
  rcases List.mem_cons.mp h with rfl | h
  · exact h2
  rcases List.mem_cons.mp h with rfl | h
  · exact h3
  rcases List.mem_cons.mp h with rfl | h
  · exact h4
  rw [List.mem_singleton.mp h]
  exact h5
theorem farB_mk {K : PySem.W.Frag} {C : Addr} {T : String} (h : PySem.W.subIn K (.type T) (.ref C) = some false) (h2 : PySem.W.isClsIn K C = true) (h3 : PySem.W.typeIn K (.ref C) = some (.type "type")) :
    PySem.W.kitOne K (.type T) (.ref C) = some false ∧ PySem.W.notFirst K C (.type T) = true := by
  have h2 : (PySem.W.clsIn K C).isSome = true := h2
  refine ⟨?_, by unfold PySem.W.notFirst; rw [h]; simp⟩
  show (if (Value.type T == Value.ref C) = true then some true else (if ((PySem.W.clsIn K C).isSome && (PySem.W.typeIn K (.ref C) == some (.type "type"))) = true then PySem.W.subIn K (.type T) (.ref C) else none)) = some false
  rw [if_neg (by simp), h2, h3, h]
  rfl
theorem farC_mk {K : PySem.W.Frag} {D C : Addr} (h : PySem.W.subIn K (.ref D) (.ref C) = some false) (h0 : PySem.W.subIn K (.ref D) (.ref D) = some true) (h2 : PySem.W.isClsIn K C = true) (h3 : PySem.W.typeIn K (.ref C) = some (.type "type")) : FarC K D C :=
  ⟨kit_no h h0 h2 h3, by unfold PySem.W.notFirst; rw [h]; simp⟩
theorem all_mk {l : PySem.W.OpenLaw} {w : World} {K : PySem.W.Frag} {h : Heap} {mg : Str → Option Value} {fa : Addr}
    {tA tB tm tq : Tok}
    {C : Addr}
    {CC : Addr}
    {W : Addr}
    {ocLi kVLi dcLi pmLi cdLi ctLi : Value} {odLi anLi : Option Addr} {slLi : Array (Option Value)} {fLi : Addr}
    {ocFs kVFs dcFs pmFs cdFs ctFs : Value} {odFs anFs : Option Addr} {slFs : Array (Option Value)} {fFs : Addr}
    {ocSi kVSi dcSi pmSi cdSi ctSi : Value} {odSi anSi : Option Addr} {slSi : Array (Option Value)} {fSi : Addr}
    {ocSe kVSe dcSe pmSe cdSe ctSe : Value} {odSe anSe : Option Addr} {slSe : Array (Option Value)} {fSe : Addr}
    {ocIk kVIk dcIk pmIk cdIk ctIk : Value} {odIk anIk : Option Addr} {slIk : Array (Option Value)} {fIk : Addr}
    {ocKt kVKt dcKt pmKt cdKt ctKt : Value} {odKt anKt : Option Addr} {slKt : Array (Option Value)} {fKt : Addr}
    {ocPa kVPa dcPa pmPa cdPa ctPa : Value} {odPa anPa : Option Addr} {slPa : Array (Option Value)} {fPa : Addr}
    {ocIt kVIt dcIt pmIt cdIt ctIt : Value} {odIt anIt : Option Addr} {slIt : Array (Option Value)} {fIt : Addr}
    {ocNu kVNu dcNu pmNu cdNu ctNu : Value} {odNu anNu : Option Addr} {slNu : Array (Option Value)} {fNu : Addr}
    {tDNu : Addr} {oDNu : Value} {aDNu : Option Addr} {nDNu : Nat} {sDNu : Array (Option Value)}
    {ocTa kVTa dcTa pmTa cdTa ctTa : Value} {odTa anTa : Option Addr} {slTa : Array (Option Value)} {fTa : Addr}
    {tDTa : Addr} {oDTa : Value} {aDTa : Option Addr} {nDTa : Nat} {sDTa : Array (Option Value)}
    {ocAk kVAk dcAk pmAk cdAk ctAk : Value} {odAk anAk : Option Addr} {slAk : Array (Option Value)} {fAk : Addr}
    {ocEn kVEn dcEn pmEn cdEn ctEn : Value} {odEn anEn : Option Addr} {slEn : Array (Option Value)} {fEn : Addr}
    {ocCo kVCo dcCo pmCo cdCo ctCo : Value} {odCo anCo : Option Addr} {slCo : Array (Option Value)} {fCo : Addr}
    {ocPe kVPe dcPe pmPe cdPe ctPe : Value} {odPe anPe : Option Addr} {slPe : Array (Option Value)} {fPe : Addr}
    {ocDr kVDr dcDr pmDr cdDr ctDr : Value} {odDr anDr : Option Addr} {slDr : Array (Option Value)} {fDr : Addr}
    {ocPi kVPi dcPi pmPi cdPi ctPi : Value} {odPi anPi : Option Addr} {slPi : Array (Option Value)} {fPi : Addr}
    {ocSh kVSh dcSh pmSh cdSh ctSh : Value} {odSh anSh : Option Addr} {slSh : Array (Option Value)} {fSh : Addr}
    {ocFo kVFo dcFo pmFo cdFo ctFo : Value} {odFo anFo : Option Addr} {slFo : Array (Option Value)} {fFo : Addr}
    {ocHe kVHe dcHe pmHe cdHe ctHe : Value} {odHe anHe : Option Addr} {slHe : Array (Option Value)} {fHe : Addr}
    {ocKs kVKs dcKs pmKs cdKs ctKs : Value} {odKs anKs : Option Addr} {slKs : Array (Option Value)} {fKs : Addr}
    {ocOr kVOr dcOr pmOr cdOr ctOr : Value} {odOr anOr : Option Addr} {slOr : Array (Option Value)} {fOr : Addr}
    {ocPl kVPl dcPl pmPl cdPl ctPl : Value} {odPl anPl : Option Addr} {slPl : Array (Option Value)} {fPl : Addr}
    {ocFl kVFl dcFl pmFl cdFl ctFl : Value} {odFl anFl : Option Addr} {slFl : Array (Option Value)} {fFl : Addr}
    {ocFm kVFm dcFm pmFm cdFm ctFm : Value} {odFm anFm : Option Addr} {slFm : Array (Option Value)} {fFm : Addr}
    {ocMa kVMa dcMa pmMa cdMa ctMa : Value} {odMa anMa : Option Addr} {slMa : Array (Option Value)} {fMa : Addr}
    {ocLw kVLw dcLw pmLw cdLw ctLw : Value} {odLw anLw : Option Addr} {slLw : Array (Option Value)} {fLw : Addr}
    {ocFu kVFu dcFu pmFu cdFu ctFu : Value} {odFu anFu : Option Addr} {slFu : Array (Option Value)} {fFu : Addr}
    {ocPr kVPr dcPr pmPr cdPr ctPr : Value} {odPr anPr : Option Addr} {slPr : Array (Option Value)} {fPr : Addr}
    {ocOf kVOf dcOf pmOf cdOf ctOf : Value} {odOf anOf : Option Addr} {slOf : Array (Option Value)} {fOf : Addr}
    {ocOc kVOc dcOc pmOc cdOc ctOc : Value} {odOc anOc : Option Addr} {slOc : Array (Option Value)} {fOc : Addr}
    {ocInC kVInC dcInC pmInC cdInC ctInC : Value} {odInC anInC : Option Addr} {slInC : Array (Option Value)} {fInC : Addr}
    {tDInC : Addr} {oDInC : Value} {aDInC : Option Addr} {nDInC : Nat} {sDInC : Array (Option Value)}
    {tEInC0 : Addr} {aEInC0 : Option Addr} {nEInC0 : Nat} {sEInC0 : Array (Option Value)}
    {ocFe kVFe dcFe pmFe cdFe ctFe : Value} {odFe anFe : Option Addr} {slFe : Array (Option Value)} {fFe : Addr}
    {ocKm kVKm dcKm pmKm cdKm ctKm : Value} {odKm anKm : Option Addr} {slKm : Array (Option Value)} {fKm : Addr}
    {ocPs kVPs dcPs pmPs cdPs ctPs : Value} {odPs anPs : Option Addr} {slPs : Array (Option Value)} {fPs : Addr}
    {pPs : Addr} {rrPs : List Value}
    {ocInCC kVInCC dcInCC pmInCC cdInCC ctInCC : Value} {odInCC anInCC : Option Addr} {slInCC : Array (Option Value)} {fInCC : Addr}
    {tDInCC : Addr} {oDInCC : Value} {aDInCC : Option Addr} {nDInCC : Nat} {sDInCC : Array (Option Value)}
    {tEInCC0 : Addr} {aEInCC0 : Option Addr} {nEInCC0 : Nat} {sEInCC0 : Array (Option Value)}
    {ocXp kVXp dcXp pmXp cdXp ctXp : Value} {odXp anXp : Option Addr} {slXp : Array (Option Value)} {fXp : Addr}
    {pXp : Addr} {rrXp : List Value}
    {ocXe kVXe dcXe pmXe cdXe ctXe : Value} {odXe anXe : Option Addr} {slXe : Array (Option Value)} {fXe : Addr}
    {ocInW kVInW dcInW pmInW cdInW ctInW : Value} {odInW anInW : Option Addr} {slInW : Array (Option Value)} {fInW : Addr}
    {ocWe kVWe dcWe pmWe cdWe ctWe : Value} {odWe anWe : Option Addr} {slWe : Array (Option Value)} {fWe : Addr}
    {ocPt kVPt dcPt pmPt cdPt ctPt : Value} {odPt anPt : Option Addr} {slPt : Array (Option Value)} {fPt : Addr}
    {pPt : Addr} {rrPt : List Value}
    {IK fIK : Addr} {nmIK qIK : Str} {NIK : Addr} {bsIK : List Value} {snIK : List Str} {subIK : List Value} {abIK : Bool} {colIK : Option Bool} {ddIK : Option Addr} {m0IK m1IK m2IK m3IK m5IK : Option Value} {ocIK dcIK pmIK cdIK ctIK : Value} {odIK anIK : Option Addr} {slIK : Array (Option Value)}
    {ocLa kVLa dcLa pmLa ctLa : Value} {odLa anLa : Option Addr} {slLa : Array (Option Value)} {fLa cL : Addr}
    (X : K.In h) (G : h.Ns mainGlobals mg) (hfa : mg "law" = some (.ref fa))
    (z_int : PySem.W.nsIn K mainGlobals "int" = some none)
    (z_len : PySem.W.nsIn K mainGlobals "len" = some none)
    (z_abs : PySem.W.nsIn K mainGlobals "abs" = some none)
    (z_list : PySem.W.nsIn K mainGlobals "list" = some none)
    (z_tuple : PySem.W.nsIn K mainGlobals "tuple" = some none)
    (z_str : PySem.W.nsIn K mainGlobals "str" = some none)
    (z_set : PySem.W.nsIn K mainGlobals "set" = some none)
    (z_all : PySem.W.nsIn K mainGlobals "all" = some none)
    (z_isinstance : PySem.W.nsIn K mainGlobals "isinstance" = some none)
    (z_repr : PySem.W.nsIn K mainGlobals "repr" = some none)
    (z_range : PySem.W.nsIn K mainGlobals "range" = some none)
    (z_bool : PySem.W.nsIn K mainGlobals "bool" = some none)
    (z_dict : PySem.W.nsIn K mainGlobals "dict" = some none)
    (z_sum : PySem.W.nsIn K mainGlobals "sum" = some none)
    (z_enumerate : PySem.W.nsIn K mainGlobals "enumerate" = some none)
    (aA : PySem.W.nsIn K mainGlobals "ALPHABET" = some (some (.str alphabet tA)))
    (aB : PySem.W.nsIn K mainGlobals "BLANK" = some (some (.str "-" tB)))
    (aC : PySem.W.nsIn K mainGlobals "Font" = some (some (.ref C)))
    (pgC : PySem.W.plainGet K C Str.empty = true)
    (hdC : PySem.W.hasDictIn K C = true)
    (poC : PySem.W.plainOver K C = true)
    (saC : PySem.W.findIn K (.ref C) "__setattr__" = some (some (.builtin "object.__setattr__")))
    (nC_signs : PySem.W.findIn K (.ref C) "_signs" = some none)
    (nC_turns : PySem.W.findIn K (.ref C) "_turns" = some none)
    (rdC : PySem.W.readsIn K C (.type "type") = true)
    (gaC : PySem.W.specialIn K (.ref C) "__getattribute__" = some (some (.builtin "type.__getattribute__")))
    (caC : PySem.W.findIn K (.ref C) "__class__" = some (some (.builtin "object.__class__")))
    (obG : PySem.W.specialIn K (.builtin "object.__class__") "__get__" = some (some (.builtin "getset_descriptor.__get__")))
    (obT : PySem.W.takesIn K (.builtin "object.__class__") = some true)
    (moC : PySem.W.mroIn K C (.type "object") = some true)
    (mv : PySem.W.findCls K (.ref C) (.type "type") "MAX_SIGNS" = some (.val (.int 10 tm)))
    (aCC : PySem.W.nsIn K mainGlobals "Case" = some (some (.ref CC)))
    (pgCC : PySem.W.plainGet K CC Str.empty = true)
    (hdCC : PySem.W.hasDictIn K CC = true)
    (poCC : PySem.W.plainOver K CC = true)
    (saCC : PySem.W.findIn K (.ref CC) "__setattr__" = some (some (.builtin "object.__setattr__")))
    (nCC_font : PySem.W.findIn K (.ref CC) "_font" = some none)
    (nCC_counts : PySem.W.findIn K (.ref CC) "_counts" = some none)
    (nCC_plates : PySem.W.findIn K (.ref CC) "_plates" = some none)
    (rdCC : PySem.W.readsIn K CC (.type "type") = true)
    (gaCC : PySem.W.specialIn K (.ref CC) "__getattribute__" = some (some (.builtin "type.__getattribute__")))
    (caCC : PySem.W.findIn K (.ref CC) "__class__" = some (some (.builtin "object.__class__")))
    (moCC : PySem.W.mroIn K CC (.type "object") = some true)
    (mvQ : PySem.W.findCls K (.ref CC) (.type "type") "MAX_COUNT" = some (.val (.int 1000000000000000000000000000000 tq)))
    (aW : PySem.W.nsIn K mainGlobals "Wants" = some (some (.ref W)))
    (pgW : PySem.W.plainGet K W Str.empty = true)
    (hdW : PySem.W.hasDictIn K W = true)
    (poW : PySem.W.plainOver K W = true)
    (saW : PySem.W.findIn K (.ref W) "__setattr__" = some (some (.builtin "object.__setattr__")))
    (nW_font : PySem.W.findIn K (.ref W) "_font" = some none)
    (nW_counts : PySem.W.findIn K (.ref W) "_counts" = some none)
    (caW : PySem.W.findIn K (.ref W) "__class__" = some (some (.builtin "object.__class__")))
    (moW : PySem.W.mroIn K W (.type "object") = some true)
    (bC : PySem.W.isClsIn K C = true)
    (yC : PySem.W.typeIn K (.ref C) = some (.type "type"))
    (zC : PySem.W.subIn K (.ref C) (.ref C) = some true)
    (mCNoneType : PySem.W.mroIn K C (.type "NoneType") = some false)
    (sCNoneType : PySem.W.subIn K (.type "NoneType") (.ref C) = some false)
    (mCstr : PySem.W.mroIn K C (.type "str") = some false)
    (sCstr : PySem.W.subIn K (.type "str") (.ref C) = some false)
    (mCint : PySem.W.mroIn K C (.type "int") = some false)
    (sCint : PySem.W.subIn K (.type "int") (.ref C) = some false)
    (mCtuple : PySem.W.mroIn K C (.type "tuple") = some false)
    (sCtuple : PySem.W.subIn K (.type "tuple") (.ref C) = some false)
    (mCdict : PySem.W.mroIn K C (.type "dict") = some false)
    (sCdict : PySem.W.subIn K (.type "dict") (.ref C) = some false)
    (bCC : PySem.W.isClsIn K CC = true)
    (yCC : PySem.W.typeIn K (.ref CC) = some (.type "type"))
    (zCC : PySem.W.subIn K (.ref CC) (.ref CC) = some true)
    (mCCNoneType : PySem.W.mroIn K CC (.type "NoneType") = some false)
    (sCCNoneType : PySem.W.subIn K (.type "NoneType") (.ref CC) = some false)
    (mCCstr : PySem.W.mroIn K CC (.type "str") = some false)
    (sCCstr : PySem.W.subIn K (.type "str") (.ref CC) = some false)
    (mCCint : PySem.W.mroIn K CC (.type "int") = some false)
    (sCCint : PySem.W.subIn K (.type "int") (.ref CC) = some false)
    (mCCtuple : PySem.W.mroIn K CC (.type "tuple") = some false)
    (sCCtuple : PySem.W.subIn K (.type "tuple") (.ref CC) = some false)
    (mCCdict : PySem.W.mroIn K CC (.type "dict") = some false)
    (sCCdict : PySem.W.subIn K (.type "dict") (.ref CC) = some false)
    (bW : PySem.W.isClsIn K W = true)
    (yW : PySem.W.typeIn K (.ref W) = some (.type "type"))
    (zW : PySem.W.subIn K (.ref W) (.ref W) = some true)
    (mWNoneType : PySem.W.mroIn K W (.type "NoneType") = some false)
    (sWNoneType : PySem.W.subIn K (.type "NoneType") (.ref W) = some false)
    (mWstr : PySem.W.mroIn K W (.type "str") = some false)
    (sWstr : PySem.W.subIn K (.type "str") (.ref W) = some false)
    (mWint : PySem.W.mroIn K W (.type "int") = some false)
    (sWint : PySem.W.subIn K (.type "int") (.ref W) = some false)
    (mWtuple : PySem.W.mroIn K W (.type "tuple") = some false)
    (sWtuple : PySem.W.subIn K (.type "tuple") (.ref W) = some false)
    (mWdict : PySem.W.mroIn K W (.type "dict") = some false)
    (sWdict : PySem.W.subIn K (.type "dict") (.ref W) = some false)
    (wCC_C : PySem.W.subIn K (.ref CC) (.ref C) = some false)
    (wC_CC : PySem.W.subIn K (.ref C) (.ref CC) = some false)
    (wC_W : PySem.W.subIn K (.ref C) (.ref W) = some false)
    (wW_C : PySem.W.subIn K (.ref W) (.ref C) = some false)
    (aLi : PySem.W.nsIn K mainGlobals "is_listed" = some (some (.ref fLi)))
    (lLi : K.lookup fLi = some ⟨ocLi, odLi, .func (PySem.W.fnOf "is_listed" "is_listed" (defArgs s_isListed) (defBody s_isListed) (defScope s_isListed) .none kVLi dcLi pmLi anLi cdLi ctLi), slLi⟩)
    (cLi : PySem.W.codeIn K cdLi "is_listed" = true)
    (kLi : PySem.W.keepIn K (.ref fLi) = true)
    (aFs : PySem.W.nsIn K mainGlobals "is_font_signs" = some (some (.ref fFs)))
    (lFs : K.lookup fFs = some ⟨ocFs, odFs, .func (PySem.W.fnOf "is_font_signs" "is_font_signs" (defArgs s_isFont) (defBody s_isFont) (defScope s_isFont) .none kVFs dcFs pmFs anFs cdFs ctFs), slFs⟩)
    (cFs : PySem.W.codeIn K cdFs "is_font_signs" = true)
    (kFs : PySem.W.keepIn K (.ref fFs) = true)
    (aSi : PySem.W.nsIn K mainGlobals "is_sign" = some (some (.ref fSi)))
    (lSi : K.lookup fSi = some ⟨ocSi, odSi, .func (PySem.W.fnOf "is_sign" "is_sign" (defArgs s_isSign) (defBody s_isSign) (defScope s_isSign) .none kVSi dcSi pmSi anSi cdSi ctSi), slSi⟩)
    (cSi : PySem.W.codeIn K cdSi "is_sign" = true)
    (kSi : PySem.W.keepIn K (.ref fSi) = true)
    (aSe : PySem.W.nsIn K mainGlobals "is_set" = some (some (.ref fSe)))
    (lSe : K.lookup fSe = some ⟨ocSe, odSe, .func (PySem.W.fnOf "is_set" "is_set" (defArgs s_isSet) (defBody s_isSet) (defScope s_isSet) .none kVSe dcSe pmSe anSe cdSe ctSe), slSe⟩)
    (cSe : PySem.W.codeIn K cdSe "is_set" = true)
    (kSe : PySem.W.keepIn K (.ref fSe) = true)
    (aIk : PySem.W.nsIn K mainGlobals "is_kind" = some (some (.ref fIk)))
    (lIk : K.lookup fIk = some ⟨ocIk, odIk, .func (PySem.W.fnOf "is_kind" "is_kind" (defArgs s_isKind) (defBody s_isKind) (defScope s_isKind) .none kVIk dcIk pmIk anIk cdIk ctIk), slIk⟩)
    (cIk : PySem.W.codeIn K cdIk "is_kind" = true)
    (kIk : PySem.W.keepIn K (.ref fIk) = true)
    (aKt : PySem.W.nsIn K mainGlobals "kept_turns" = some (some (.ref fKt)))
    (lKt : K.lookup fKt = some ⟨ocKt, odKt, .func (PySem.W.fnOf "kept_turns" "kept_turns" (defArgs s_kept) (defBody s_kept) (defScope s_kept) .none kVKt dcKt pmKt anKt cdKt ctKt), slKt⟩)
    (cKt : PySem.W.codeIn K cdKt "kept_turns" = true)
    (kKt : PySem.W.keepIn K (.ref fKt) = true)
    (aPa : PySem.W.nsIn K mainGlobals "_is_pair" = some (some (.ref fPa)))
    (lPa : K.lookup fPa = some ⟨ocPa, odPa, .func (PySem.W.fnOf "_is_pair" "_is_pair" (defArgs s_isPair) (defBody s_isPair) (defScope s_isPair) .none kVPa dcPa pmPa anPa cdPa ctPa), slPa⟩)
    (cPa : PySem.W.codeIn K cdPa "_is_pair" = true)
    (kPa : PySem.W.keepIn K (.ref fPa) = true)
    (aIt : PySem.W.nsIn K mainGlobals "is_integer" = some (some (.ref fIt)))
    (lIt : K.lookup fIt = some ⟨ocIt, odIt, .func (PySem.W.fnOf "is_integer" "is_integer" (defArgs s_isInt) (defBody s_isInt) (defScope s_isInt) .none kVIt dcIt pmIt anIt cdIt ctIt), slIt⟩)
    (cIt : PySem.W.codeIn K cdIt "is_integer" = true)
    (kIt : PySem.W.keepIn K (.ref fIt) = true)
    (aNu : PySem.W.nsIn K mainGlobals "is_number" = some (some (.ref fNu)))
    (lNu : K.lookup fNu = some ⟨ocNu, odNu, .func (PySem.W.fnOf "is_number" "is_number" (defArgs s_isNum) (defBody s_isNum) (defScope s_isNum) (.ref tDNu) kVNu dcNu pmNu anNu cdNu ctNu), slNu⟩)
    (dNu : K.lookup tDNu = some ⟨oDNu, aDNu, .seq #[Value.none] nDNu, sDNu⟩)
    (cNu : PySem.W.codeIn K cdNu "is_number" = true)
    (kNu : PySem.W.keepIn K (.ref fNu) = true)
    (aTa : PySem.W.nsIn K mainGlobals "is_table" = some (some (.ref fTa)))
    (lTa : K.lookup fTa = some ⟨ocTa, odTa, .func (PySem.W.fnOf "is_table" "is_table" (defArgs s_isTab) (defBody s_isTab) (defScope s_isTab) (.ref tDTa) kVTa dcTa pmTa anTa cdTa ctTa), slTa⟩)
    (dTa : K.lookup tDTa = some ⟨oDTa, aDTa, .seq #[Value.none] nDTa, sDTa⟩)
    (cTa : PySem.W.codeIn K cdTa "is_table" = true)
    (kTa : PySem.W.keepIn K (.ref fTa) = true)
    (aAk : PySem.W.nsIn K mainGlobals "all_kinds" = some (some (.ref fAk)))
    (lAk : K.lookup fAk = some ⟨ocAk, odAk, .func (PySem.W.fnOf "all_kinds" "all_kinds" (defArgs s_allKinds) (defBody s_allKinds) (defScope s_allKinds) .none kVAk dcAk pmAk anAk cdAk ctAk), slAk⟩)
    (cAk : PySem.W.codeIn K cdAk "all_kinds" = true)
    (kAk : PySem.W.keepIn K (.ref fAk) = true)
    (aEn : PySem.W.nsIn K mainGlobals "_is_entry" = some (some (.ref fEn)))
    (lEn : K.lookup fEn = some ⟨ocEn, odEn, .func (PySem.W.fnOf "_is_entry" "_is_entry" (defArgs s_isEntry) (defBody s_isEntry) (defScope s_isEntry) .none kVEn dcEn pmEn anEn cdEn ctEn), slEn⟩)
    (cEn : PySem.W.codeIn K cdEn "_is_entry" = true)
    (kEn : PySem.W.keepIn K (.ref fEn) = true)
    (aCo : PySem.W.nsIn K mainGlobals "_counted" = some (some (.ref fCo)))
    (lCo : K.lookup fCo = some ⟨ocCo, odCo, .func (PySem.W.fnOf "_counted" "_counted" (defArgs s_counted) (defBody s_counted) (defScope s_counted) .none kVCo dcCo pmCo anCo cdCo ctCo), slCo⟩)
    (cCo : PySem.W.codeIn K cdCo "_counted" = true)
    (kCo : PySem.W.keepIn K (.ref fCo) = true)
    (aPe : PySem.W.nsIn K mainGlobals "_law_pen" = some (some (.ref fPe)))
    (lPe : K.lookup fPe = some ⟨ocPe, odPe, .func (PySem.W.fnOf "_law_pen" "_law_pen" (defArgs s_pen) (defBody s_pen) (defScope s_pen) .none kVPe dcPe pmPe anPe cdPe ctPe), slPe⟩)
    (cPe : PySem.W.codeIn K cdPe "_law_pen" = true)
    (kPe : PySem.W.keepIn K (.ref fPe) = true)
    (aDr : PySem.W.nsIn K mainGlobals "_law_draw" = some (some (.ref fDr)))
    (lDr : K.lookup fDr = some ⟨ocDr, odDr, .func (PySem.W.fnOf "_law_draw" "_law_draw" (defArgs s_draw) (defBody s_draw) (defScope s_draw) .none kVDr dcDr pmDr anDr cdDr ctDr), slDr⟩)
    (cDr : PySem.W.codeIn K cdDr "_law_draw" = true)
    (kDr : PySem.W.keepIn K (.ref fDr) = true)
    (aPi : PySem.W.nsIn K mainGlobals "_law_pick" = some (some (.ref fPi)))
    (lPi : K.lookup fPi = some ⟨ocPi, odPi, .func (PySem.W.fnOf "_law_pick" "_law_pick" (defArgs s_pick) (defBody s_pick) (defScope s_pick) .none kVPi dcPi pmPi anPi cdPi ctPi), slPi⟩)
    (cPi : PySem.W.codeIn K cdPi "_law_pick" = true)
    (kPi : PySem.W.keepIn K (.ref fPi) = true)
    (aSh : PySem.W.nsIn K mainGlobals "_law_shuffled" = some (some (.ref fSh)))
    (lSh : K.lookup fSh = some ⟨ocSh, odSh, .func (PySem.W.fnOf "_law_shuffled" "_law_shuffled" (defArgs s_shuf) (defBody s_shuf) (defScope s_shuf) .none kVSh dcSh pmSh anSh cdSh ctSh), slSh⟩)
    (cSh : PySem.W.codeIn K cdSh "_law_shuffled" = true)
    (kSh : PySem.W.keepIn K (.ref fSh) = true)
    (aFo : PySem.W.nsIn K mainGlobals "_law_font" = some (some (.ref fFo)))
    (lFo : K.lookup fFo = some ⟨ocFo, odFo, .func (PySem.W.fnOf "_law_font" "_law_font" (defArgs s_font) (defBody s_font) (defScope s_font) .none kVFo dcFo pmFo anFo cdFo ctFo), slFo⟩)
    (cFo : PySem.W.codeIn K cdFo "_law_font" = true)
    (kFo : PySem.W.keepIn K (.ref fFo) = true)
    (aHe : PySem.W.nsIn K mainGlobals "_law_heads" = some (some (.ref fHe)))
    (lHe : K.lookup fHe = some ⟨ocHe, odHe, .func (PySem.W.fnOf "_law_heads" "_law_heads" (defArgs s_heads) (defBody s_heads) (defScope s_heads) .none kVHe dcHe pmHe anHe cdHe ctHe), slHe⟩)
    (cHe : PySem.W.codeIn K cdHe "_law_heads" = true)
    (kHe : PySem.W.keepIn K (.ref fHe) = true)
    (aKs : PySem.W.nsIn K mainGlobals "_law_kinds" = some (some (.ref fKs)))
    (lKs : K.lookup fKs = some ⟨ocKs, odKs, .func (PySem.W.fnOf "_law_kinds" "_law_kinds" (defArgs s_kinds) (defBody s_kinds) (defScope s_kinds) .none kVKs dcKs pmKs anKs cdKs ctKs), slKs⟩)
    (cKs : PySem.W.codeIn K cdKs "_law_kinds" = true)
    (kKs : PySem.W.keepIn K (.ref fKs) = true)
    (aOr : PySem.W.nsIn K mainGlobals "_law_ordered" = some (some (.ref fOr)))
    (lOr : K.lookup fOr = some ⟨ocOr, odOr, .func (PySem.W.fnOf "_law_ordered" "_law_ordered" (defArgs s_ordered) (defBody s_ordered) (defScope s_ordered) .none kVOr dcOr pmOr anOr cdOr ctOr), slOr⟩)
    (cOr : PySem.W.codeIn K cdOr "_law_ordered" = true)
    (kOr : PySem.W.keepIn K (.ref fOr) = true)
    (aPl : PySem.W.nsIn K mainGlobals "_law_plain" = some (some (.ref fPl)))
    (lPl : K.lookup fPl = some ⟨ocPl, odPl, .func (PySem.W.fnOf "_law_plain" "_law_plain" (defArgs s_plain) (defBody s_plain) (defScope s_plain) .none kVPl dcPl pmPl anPl cdPl ctPl), slPl⟩)
    (cPl : PySem.W.codeIn K cdPl "_law_plain" = true)
    (kPl : PySem.W.keepIn K (.ref fPl) = true)
    (aFl : PySem.W.nsIn K mainGlobals "_law_flipped" = some (some (.ref fFl)))
    (lFl : K.lookup fFl = some ⟨ocFl, odFl, .func (PySem.W.fnOf "_law_flipped" "_law_flipped" (defArgs s_flip) (defBody s_flip) (defScope s_flip) .none kVFl dcFl pmFl anFl cdFl ctFl), slFl⟩)
    (cFl : PySem.W.codeIn K cdFl "_law_flipped" = true)
    (kFl : PySem.W.keepIn K (.ref fFl) = true)
    (aFm : PySem.W.nsIn K mainGlobals "_law_font_made" = some (some (.ref fFm)))
    (lFm : K.lookup fFm = some ⟨ocFm, odFm, .func (PySem.W.fnOf "_law_font_made" "_law_font_made" (defArgs s_fmade) (defBody s_fmade) (defScope s_fmade) .none kVFm dcFm pmFm anFm cdFm ctFm), slFm⟩)
    (cFm : PySem.W.codeIn K cdFm "_law_font_made" = true)
    (kFm : PySem.W.keepIn K (.ref fFm) = true)
    (aMa : PySem.W.nsIn K mainGlobals "_law_made" = some (some (.ref fMa)))
    (lMa : K.lookup fMa = some ⟨ocMa, odMa, .func (PySem.W.fnOf "_law_made" "_law_made" (defArgs s_cmade) (defBody s_cmade) (defScope s_cmade) .none kVMa dcMa pmMa anMa cdMa ctMa), slMa⟩)
    (cMa : PySem.W.codeIn K cdMa "_law_made" = true)
    (kMa : PySem.W.keepIn K (.ref fMa) = true)
    (aLw : PySem.W.nsIn K mainGlobals "_law_wants" = some (some (.ref fLw)))
    (lLw : K.lookup fLw = some ⟨ocLw, odLw, .func (PySem.W.fnOf "_law_wants" "_law_wants" (defArgs s_lwants) (defBody s_lwants) (defScope s_lwants) .none kVLw dcLw pmLw anLw cdLw ctLw), slLw⟩)
    (cLw : PySem.W.codeIn K cdLw "_law_wants" = true)
    (kLw : PySem.W.keepIn K (.ref fLw) = true)
    (aFu : PySem.W.nsIn K mainGlobals "_law_full" = some (some (.ref fFu)))
    (lFu : K.lookup fFu = some ⟨ocFu, odFu, .func (PySem.W.fnOf "_law_full" "_law_full" (defArgs s_full) (defBody s_full) (defScope s_full) .none kVFu dcFu pmFu anFu cdFu ctFu), slFu⟩)
    (cFu : PySem.W.codeIn K cdFu "_law_full" = true)
    (kFu : PySem.W.keepIn K (.ref fFu) = true)
    (aPr : PySem.W.nsIn K mainGlobals "_law_pairs_right" = some (some (.ref fPr)))
    (lPr : K.lookup fPr = some ⟨ocPr, odPr, .func (PySem.W.fnOf "_law_pairs_right" "_law_pairs_right" (defArgs s_pairs) (defBody s_pairs) (defScope s_pairs) .none kVPr dcPr pmPr anPr cdPr ctPr), slPr⟩)
    (cPr : PySem.W.codeIn K cdPr "_law_pairs_right" = true)
    (kPr : PySem.W.keepIn K (.ref fPr) = true)
    (aOf : PySem.W.nsIn K mainGlobals "_law_other_fonts" = some (some (.ref fOf)))
    (lOf : K.lookup fOf = some ⟨ocOf, odOf, .func (PySem.W.fnOf "_law_other_fonts" "_law_other_fonts" (defArgs s_ofonts) (defBody s_ofonts) (defScope s_ofonts) .none kVOf dcOf pmOf anOf cdOf ctOf), slOf⟩)
    (cOf : PySem.W.codeIn K cdOf "_law_other_fonts" = true)
    (kOf : PySem.W.keepIn K (.ref fOf) = true)
    (aOc : PySem.W.nsIn K mainGlobals "_law_other_counts" = some (some (.ref fOc)))
    (lOc : K.lookup fOc = some ⟨ocOc, odOc, .func (PySem.W.fnOf "_law_other_counts" "_law_other_counts" (defArgs s_ocounts) (defBody s_ocounts) (defScope s_ocounts) .none kVOc dcOc pmOc anOc cdOc ctOc), slOc⟩)
    (cOc : PySem.W.codeIn K cdOc "_law_other_counts" = true)
    (kOc : PySem.W.keepIn K (.ref fOc) = true)
    (aInC : PySem.W.findIn K (.ref C) "__init__" = some (some (.ref fInC)))
    (iInC : PySem.W.isFn K (.ref fInC) = true)
    (lInC : K.lookup fInC = some ⟨ocInC, odInC, .func (PySem.W.fnOf "__init__" "Font.__init__" (defArgs s_init) (defBody s_init) (defScope s_init) (.ref tDInC) kVInC dcInC pmInC anInC cdInC ctInC), slInC⟩)
    (dInC : K.lookup tDInC = some ⟨oDInC, aDInC, .seq #[Value.ref tEInC0] nDInC, sDInC⟩)
    (eInC0 : K.lookup tEInC0 = some ⟨.type "tuple", aEInC0, .seq #[] nEInC0, sEInC0⟩)
    (cInC : PySem.W.codeIn K cdInC "Font.__init__" = true)
    (kInC : PySem.W.keepIn K (.ref fInC) = true)
    (mkC : PySem.W.makesIn K C = true)
    (kCC : PySem.W.keepIn K (.ref C) = true)
    (aFe : PySem.W.findIn K (.ref C) "__eq__" = some (some (.ref fFe)))
    (iFe : PySem.W.isFn K (.ref fFe) = true)
    (lFe : K.lookup fFe = some ⟨ocFe, odFe, .func (PySem.W.fnOf "__eq__" "Font.__eq__" (defArgs s_feq) (defBody s_feq) (defScope s_feq) .none kVFe dcFe pmFe anFe cdFe ctFe), slFe⟩)
    (cFe : PySem.W.codeIn K cdFe "Font.__eq__" = true)
    (kFe : PySem.W.keepIn K (.ref fFe) = true)
    (neC : PySem.W.findIn K (.ref C) "__ne__" = some (some (.builtin "object.__ne__")))
    (aKm : PySem.W.findIn K (.ref C) "kept" = some (some (.ref fKm)))
    (iKm : PySem.W.isFn K (.ref fKm) = true)
    (lKm : K.lookup fKm = some ⟨ocKm, odKm, .func (PySem.W.fnOf "kept" "Font.kept" (defArgs s_keptM) (defBody s_keptM) (defScope s_keptM) .none kVKm dcKm pmKm anKm cdKm ctKm), slKm⟩)
    (cKm : PySem.W.codeIn K cdKm "Font.kept" = true)
    (kKm : PySem.W.keepIn K (.ref fKm) = true)
    (aPs : PySem.W.findIn K (.ref C) "signs" = some (some (.ref pPs)))
    (gPs : PySem.W.specialIn K (.ref pPs) "__get__" = some (some (.builtin "property.__get__")))
    (tPs : PySem.W.takesIn K (.ref pPs) = some true)
    (rPs : PySem.W.recIn K pPs "property" = some (.ref fPs :: rrPs))
    (lPs : K.lookup fPs = some ⟨ocPs, odPs, .func (PySem.W.fnOf "signs" "Font.signs" (defArgs (inCls s_cls 4)) (defBody (inCls s_cls 4)) (defScope (inCls s_cls 4)) .none kVPs dcPs pmPs anPs cdPs ctPs), slPs⟩)
    (cPs : PySem.W.codeIn K cdPs "Font.signs" = true)
    (aInCC : PySem.W.findIn K (.ref CC) "__init__" = some (some (.ref fInCC)))
    (iInCC : PySem.W.isFn K (.ref fInCC) = true)
    (lInCC : K.lookup fInCC = some ⟨ocInCC, odInCC, .func (PySem.W.fnOf "__init__" "Case.__init__" (defArgs c_init) (defBody c_init) (defScope c_init) (.ref tDInCC) kVInCC dcInCC pmInCC anInCC cdInCC ctInCC), slInCC⟩)
    (dInCC : K.lookup tDInCC = some ⟨oDInCC, aDInCC, .seq #[Value.ref tEInCC0] nDInCC, sDInCC⟩)
    (eInCC0 : K.lookup tEInCC0 = some ⟨.type "tuple", aEInCC0, .seq #[] nEInCC0, sEInCC0⟩)
    (cInCC : PySem.W.codeIn K cdInCC "Case.__init__" = true)
    (kInCC : PySem.W.keepIn K (.ref fInCC) = true)
    (mkCC : PySem.W.makesIn K CC = true)
    (kCCC : PySem.W.keepIn K (.ref CC) = true)
    (aXp : PySem.W.findIn K (.ref CC) "plates" = some (some (.ref pXp)))
    (gXp : PySem.W.specialIn K (.ref pXp) "__get__" = some (some (.builtin "property.__get__")))
    (tXp : PySem.W.takesIn K (.ref pXp) = some true)
    (rXp : PySem.W.recIn K pXp "property" = some (.ref fXp :: rrXp))
    (lXp : K.lookup fXp = some ⟨ocXp, odXp, .func (PySem.W.fnOf "plates" "Case.plates" (defArgs (inCls c_cls 4)) (defBody (inCls c_cls 4)) (defScope (inCls c_cls 4)) .none kVXp dcXp pmXp anXp cdXp ctXp), slXp⟩)
    (cXp : PySem.W.codeIn K cdXp "Case.plates" = true)
    (aXe : PySem.W.findIn K (.ref CC) "__eq__" = some (some (.ref fXe)))
    (iXe : PySem.W.isFn K (.ref fXe) = true)
    (lXe : K.lookup fXe = some ⟨ocXe, odXe, .func (PySem.W.fnOf "__eq__" "Case.__eq__" (defArgs c_eq) (defBody c_eq) (defScope c_eq) .none kVXe dcXe pmXe anXe cdXe ctXe), slXe⟩)
    (cXe : PySem.W.codeIn K cdXe "Case.__eq__" = true)
    (kXe : PySem.W.keepIn K (.ref fXe) = true)
    (neCC : PySem.W.findIn K (.ref CC) "__ne__" = some (some (.builtin "object.__ne__")))
    (aInW : PySem.W.findIn K (.ref W) "__init__" = some (some (.ref fInW)))
    (iInW : PySem.W.isFn K (.ref fInW) = true)
    (lInW : K.lookup fInW = some ⟨ocInW, odInW, .func (PySem.W.fnOf "__init__" "Wants.__init__" (defArgs w_init) (defBody w_init) (defScope w_init) .none kVInW dcInW pmInW anInW cdInW ctInW), slInW⟩)
    (cInW : PySem.W.codeIn K cdInW "Wants.__init__" = true)
    (kInW : PySem.W.keepIn K (.ref fInW) = true)
    (mkW : PySem.W.makesIn K W = true)
    (kCW : PySem.W.keepIn K (.ref W) = true)
    (aWe : PySem.W.findIn K (.ref W) "__eq__" = some (some (.ref fWe)))
    (iWe : PySem.W.isFn K (.ref fWe) = true)
    (lWe : K.lookup fWe = some ⟨ocWe, odWe, .func (PySem.W.fnOf "__eq__" "Wants.__eq__" (defArgs w_eq) (defBody w_eq) (defScope w_eq) .none kVWe dcWe pmWe anWe cdWe ctWe), slWe⟩)
    (cWe : PySem.W.codeIn K cdWe "Wants.__eq__" = true)
    (kWe : PySem.W.keepIn K (.ref fWe) = true)
    (neW : PySem.W.findIn K (.ref W) "__ne__" = some (some (.builtin "object.__ne__")))
    (aPt : PySem.W.findIn K (.ref W) "total" = some (some (.ref pPt)))
    (gPt : PySem.W.specialIn K (.ref pPt) "__get__" = some (some (.builtin "property.__get__")))
    (tPt : PySem.W.takesIn K (.ref pPt) = some true)
    (rPt : PySem.W.recIn K pPt "property" = some (.ref fPt :: rrPt))
    (lPt : K.lookup fPt = some ⟨ocPt, odPt, .func (PySem.W.fnOf "total" "Wants.total" (defArgs w_total) (defBody w_total) (defScope w_total) .none kVPt dcPt pmPt anPt cdPt ctPt), slPt⟩)
    (cPt : PySem.W.codeIn K cdPt "Wants.total" = true)
    (kPt : PySem.W.keepIn K (.ref fPt) = true)
    (aIK : PySem.W.nsIn K mainGlobals "InvalidKind" = some (some (.ref IK)))
    (xIK : K.lookup IK = some (excClassObj nmIK qIK IK NIK bsIK bmValue true snIK subIK abIK colIK ddIK m0IK m1IK m2IK m3IK m5IK "ValueError.__new__"))
    (sIK : PySem.W.findIn K (.ref IK) "__setattr__" = some (some (.builtin "object.__setattr__")))
    (gIK : PySem.W.findIn K (.ref IK) "__getattribute__" = some (some (.builtin "BaseException.__getattribute__")))
    (hIK : PySem.W.findIn K (.ref IK) "__getattr__" = some none)
    (nIK : PySem.W.findIn K (.ref IK) "value" = some none)
    (iIK : PySem.W.findIn K (.ref IK) "__init__" = some (some (.ref fIK)))
    (tIK : PySem.W.typeIn K (.ref fIK) = some (.type "function"))
    (lIK : K.lookup fIK = some ⟨ocIK, odIK, .func (PySem.W.fnOf "__init__" "InvalidKind.__init__" (eArgs "value" ⟨34, 17, 34, 21⟩ ⟨34, 23, 34, 28⟩) (eBody "value" ⟨35, 8, 35, 12⟩ ⟨35, 8, 35, 18⟩ ⟨35, 21, 35, 26⟩ ⟨35, 8, 35, 26⟩) (eScope "value") .none .none dcIK pmIK anIK cdIK ctIK), slIK⟩)
    (cIK : PySem.W.codeIn K cdIK "InvalidKind.__init__" = true)
    (kIK : PySem.W.keepIn K (.ref IK) = true)
    (eIK : PySem.W.subIn K (.ref IK) (.type "BaseException") = some true)
    (yIK : PySem.W.typeIn K (.ref IK) = some (.type "type"))
    (dIK : PySem.W.hasDictIn K IK = true)
    (bIK : PySem.W.isClsIn K IK = true)
    (zIK : PySem.W.subIn K (.ref IK) (.ref IK) = some true)
    (aLa : PySem.W.nsIn K mainGlobals "law" = some (some (.ref fLa)))
    (lLa : K.lookup fLa = some ⟨ocLa, odLa, .func (PySem.W.fnOf "law" "law" (defArgs s_law) (defBody s_law) (defScope s_law) .none kVLa dcLa pmLa anLa (.ref cL) ctLa), slLa⟩)
    (cLa : PySem.W.codeIn K (.ref cL) "law" = true) :
    LawG l w K 13 63 "_law_script" mg fa h := by
  have e := hfa.symm.trans (PySem.W.mg_of X G aLa)
  cases e
  have T : TB mg := ⟨PySem.W.mg_none_of X G z_int, PySem.W.mg_none_of X G z_len, PySem.W.mg_none_of X G z_abs, PySem.W.mg_none_of X G z_list, PySem.W.mg_none_of X G z_tuple, PySem.W.mg_none_of X G z_str, PySem.W.mg_none_of X G z_set, PySem.W.mg_none_of X G z_all, PySem.W.mg_none_of X G z_isinstance, PySem.W.mg_none_of X G z_repr, PySem.W.mg_none_of X G z_range⟩
  have TD : TDraw mg := ⟨T.int, T.len, T.abs⟩
  have gA := PySem.W.mg_of X G aA
  have gB := PySem.W.mg_of X G aB
  have clC : Cls K C := ⟨pgC, hdC, poC, saC⟩
  have gC := PySem.W.mg_of X G aC
  have rCC : ClX.CRead K C (.type "type") := ⟨rdC, gaC⟩
  have IC : InsT K C := ⟨clC, caC, obG, obT, moC⟩
  have cM : ClX.CVal K C (.type "type") "MAX_SIGNS" (.int 10) (.int 10 tm) := ⟨mv, ⟨_, rfl⟩⟩
  have clCC : Cls K CC := ⟨pgCC, hdCC, poCC, saCC⟩
  have gCC := PySem.W.mg_of X G aCC
  have rCCC : ClX.CRead K CC (.type "type") := ⟨rdCC, gaCC⟩
  have ICC : InsT K CC := ⟨clCC, caCC, obG, obT, moCC⟩
  have cQ : ClX.CVal K CC (.type "type") "MAX_COUNT" (.int big30) (.int 1000000000000000000000000000000 tq) := ⟨mvQ, ⟨_, rfl⟩⟩
  have cc : CCls K CC := ⟨clCC, nCC_font, nCC_counts, nCC_plates⟩
  have clW : Cls K W := ⟨pgW, hdW, poW, saW⟩
  have gW := PySem.W.mg_of X G aW
  have IW : InsT K W := ⟨clW, caW, obG, obT, moW⟩
  have wc : WCls K W := ⟨clW, nW_font, nW_counts⟩
  have farC : ∀ T ∈ biNames, PySem.W.mroIn K C (.type T) = some false := bi_all mCNoneType mCstr mCint mCtuple mCdict
  have biC : FarB K C := bi_all (farB_mk sCNoneType bC yC) (farB_mk sCstr bC yC) (farB_mk sCint bC yC) (farB_mk sCtuple bC yC) (farB_mk sCdict bC yC)
  have farCC : ∀ T ∈ biNames, PySem.W.mroIn K CC (.type T) = some false := bi_all mCCNoneType mCCstr mCCint mCCtuple mCCdict
  have biCC : FarB K CC := bi_all (farB_mk sCCNoneType bCC yCC) (farB_mk sCCstr bCC yCC) (farB_mk sCCint bCC yCC) (farB_mk sCCtuple bCC yCC) (farB_mk sCCdict bCC yCC)
  have farW : ∀ T ∈ biNames, PySem.W.mroIn K W (.type T) = some false := bi_all mWNoneType mWstr mWint mWtuple mWdict
  have biW : FarB K W := bi_all (farB_mk sWNoneType bW yW) (farB_mk sWstr bW yW) (farB_mk sWint bW yW) (farB_mk sWtuple bW yW) (farB_mk sWdict bW yW)
  have fcCC_C : FarC K CC C := farC_mk wCC_C zCC bC yC
  have fcC_CC : FarC K C CC := farC_mk wC_CC zC bCC yCC
  have fcC_W : FarC K C W := farC_mk wC_W zC bW yW
  have fcW_C : FarC K W C := farC_mk wW_C zW bC yC
  have N : Fk K C CC W := ⟨biC, biCC, biW, fcCC_C, fcC_CC, fcC_W, fcW_C, IC, ICC, IW⟩
  have FLi := fun_mk (st := s_isListed) lLi cLi kLi
  have DLi : Def K mg "is_listed" fLi _ ["value"] := ⟨PySem.W.mg_of X G aLi, kLi, FLi.binds (ps := ["value"]) fun _ _ _ _ _ _ us hl => match us, hl with | [_], _ => rfl⟩
  have FFs := fun_mk (st := s_isFont) lFs cFs kFs
  have DFs : Def K mg "is_font_signs" fFs _ ["value"] := ⟨PySem.W.mg_of X G aFs, kFs, FFs.binds (ps := ["value"]) fun _ _ _ _ _ _ us hl => match us, hl with | [_], _ => rfl⟩
  have FSi := fun_mk (st := s_isSign) lSi cSi kSi
  have DSi : Def K mg "is_sign" fSi _ ["signs", "value"] := ⟨PySem.W.mg_of X G aSi, kSi, FSi.binds (ps := ["signs", "value"]) fun _ _ _ _ _ _ us hl => match us, hl with | [_, _], _ => rfl⟩
  have FSe := fun_mk (st := s_isSet) lSe cSe kSe
  have DSe : Def K mg "is_set" fSe _ ["signs", "value"] := ⟨PySem.W.mg_of X G aSe, kSe, FSe.binds (ps := ["signs", "value"]) fun _ _ _ _ _ _ us hl => match us, hl with | [_, _], _ => rfl⟩
  have FIk := fun_mk (st := s_isKind) lIk cIk kIk
  have DIk : Def K mg "is_kind" fIk _ ["signs", "value"] := ⟨PySem.W.mg_of X G aIk, kIk, FIk.binds (ps := ["signs", "value"]) fun _ _ _ _ _ _ us hl => match us, hl with | [_, _], _ => rfl⟩
  have FKt := fun_mk (st := s_kept) lKt cKt kKt
  have DKt : Def K mg "kept_turns" fKt _ ["signs", "turns"] := ⟨PySem.W.mg_of X G aKt, kKt, FKt.binds (ps := ["signs", "turns"]) fun _ _ _ _ _ _ us hl => match us, hl with | [_, _], _ => rfl⟩
  have FPa := fun_mk (st := s_isPair) lPa cPa kPa
  have DPa : Def K mg "_is_pair" fPa _ ["signs", "value"] := ⟨PySem.W.mg_of X G aPa, kPa, FPa.binds (ps := ["signs", "value"]) fun _ _ _ _ _ _ us hl => match us, hl with | [_, _], _ => rfl⟩
  have FIt := fun_mk (st := s_isInt) lIt cIt kIt
  have DIt : Def K mg "is_integer" fIt _ ["value"] := ⟨PySem.W.mg_of X G aIt, kIt, FIt.binds (ps := ["value"]) fun _ _ _ _ _ _ us hl => match us, hl with | [_], _ => rfl⟩
  have FNu : FunD K "is_number" "is_number" (defArgs s_isNum) (defBody s_isNum) (defScope s_isNum) [V.non] [] fNu (PySem.W.fnOf "is_number" "is_number" (defArgs s_isNum) (defBody s_isNum) (defScope s_isNum) (.ref tDNu) kVNu dcNu pmNu anNu cdNu ctNu) := ⟨⟨_, _, .ref tDNu, _, _, _, _, _, _, _, rfl, lNu, cNu, .inr ⟨(fun z => by cases z), tDNu, _, [Value.none], nDNu, rfl, dNu, rfl, .cons rfl .nil⟩, .inl rfl⟩, kNu⟩
  have bNu3 : Binds K (PySem.W.fnOf "is_number" "is_number" (defArgs s_isNum) (defBody s_isNum) (defScope s_isNum) (.ref tDNu) kVNu dcNu pmNu anNu cdNu ctNu) ["value", "least", "greatest"] [] := by
    obtain ⟨ds, hds, b⟩ := FNu.binds1 (ps := ["value", "least", "greatest"]) 3 1 (fun z => by cases z) rfl (fun _ _ _ _ _ _ _ us its hl hi => match us, its, hl, hi with | [_, _, _], [_], _, _ => ⟨_, rfl, rfl⟩)
    cases hds
    exact b
  have DNu : Def K mg "is_number" fNu _ ["value", "least", "greatest"] := ⟨PySem.W.mg_of X G aNu, kNu, bNu3⟩
  have FTa : FunD K "is_table" "is_table" (defArgs s_isTab) (defBody s_isTab) (defScope s_isTab) [V.non] [] fTa (PySem.W.fnOf "is_table" "is_table" (defArgs s_isTab) (defBody s_isTab) (defScope s_isTab) (.ref tDTa) kVTa dcTa pmTa anTa cdTa ctTa) := ⟨⟨_, _, .ref tDTa, _, _, _, _, _, _, _, rfl, lTa, cTa, .inr ⟨(fun z => by cases z), tDTa, _, [Value.none], nDTa, rfl, dTa, rfl, .cons rfl .nil⟩, .inl rfl⟩, kTa⟩
  have bTa2 : Binds K (PySem.W.fnOf "is_table" "is_table" (defArgs s_isTab) (defBody s_isTab) (defScope s_isTab) (.ref tDTa) kVTa dcTa pmTa anTa cdTa ctTa) ["value", "names", "greatest"] [Value.none] := by
    obtain ⟨ds, hds, b⟩ := FTa.binds1 (ps := ["value", "names", "greatest"]) 2 0 (fun z => by cases z) rfl (fun _ _ _ _ _ _ _ us its hl hi => match us, its, hl, hi with | [_, _], [_], _, _ => ⟨_, rfl, rfl⟩)
    obtain _ | ⟨r, hds⟩ := hds
    cases r
    cases hds
    exact b
  have bTa3 : Binds K (PySem.W.fnOf "is_table" "is_table" (defArgs s_isTab) (defBody s_isTab) (defScope s_isTab) (.ref tDTa) kVTa dcTa pmTa anTa cdTa ctTa) ["value", "names", "greatest"] [] := by
    obtain ⟨ds, hds, b⟩ := FTa.binds1 (ps := ["value", "names", "greatest"]) 3 1 (fun z => by cases z) rfl (fun _ _ _ _ _ _ _ us its hl hi => match us, its, hl, hi with | [_, _, _], [_], _, _ => ⟨_, rfl, rfl⟩)
    cases hds
    exact b
  have DTa : Def K mg "is_table" fTa _ ["value", "names", "greatest"] := ⟨PySem.W.mg_of X G aTa, kTa, bTa3⟩
  have FAk := fun_mk (st := s_allKinds) lAk cAk kAk
  have DAk : Def K mg "all_kinds" fAk _ ["font"] := ⟨PySem.W.mg_of X G aAk, kAk, FAk.binds (ps := ["font"]) fun _ _ _ _ _ _ us hl => match us, hl with | [_], _ => rfl⟩
  have FEn := fun_mk (st := s_isEntry) lEn cEn kEn
  have DEn : Def K mg "_is_entry" fEn _ ["font", "value"] := ⟨PySem.W.mg_of X G aEn, kEn, FEn.binds (ps := ["font", "value"]) fun _ _ _ _ _ _ us hl => match us, hl with | [_, _], _ => rfl⟩
  have FCo := fun_mk (st := s_counted) lCo cCo kCo
  have DCo : Def K mg "_counted" fCo _ ["font", "plates"] := ⟨PySem.W.mg_of X G aCo, kCo, FCo.binds (ps := ["font", "plates"]) fun _ _ _ _ _ _ us hl => match us, hl with | [_, _], _ => rfl⟩
  have FPe := fun_mk (st := s_pen) lPe cPe kPe
  have DPe : Def K mg "_law_pen" fPe _ ["_law_script"] := ⟨PySem.W.mg_of X G aPe, kPe, FPe.binds (ps := ["_law_script"]) fun _ _ _ _ _ _ us hl => match us, hl with | [_], _ => rfl⟩
  have FDr := fun_mk (st := s_draw) lDr cDr kDr
  have DDr : Def K mg "_law_draw" fDr _ ["_law_pen_here", "_law_many"] := ⟨PySem.W.mg_of X G aDr, kDr, FDr.binds (ps := ["_law_pen_here", "_law_many"]) fun _ _ _ _ _ _ us hl => match us, hl with | [_, _], _ => rfl⟩
  have FPi := fun_mk (st := s_pick) lPi cPi kPi
  have DPi : Def K mg "_law_pick" fPi _ ["_law_pen_here", "_law_options"] := ⟨PySem.W.mg_of X G aPi, kPi, FPi.binds (ps := ["_law_pen_here", "_law_options"]) fun _ _ _ _ _ _ us hl => match us, hl with | [_, _], _ => rfl⟩
  have FSh := fun_mk (st := s_shuf) lSh cSh kSh
  have DSh : Def K mg "_law_shuffled" fSh _ ["_law_pen_here", "_law_items"] := ⟨PySem.W.mg_of X G aSh, kSh, FSh.binds (ps := ["_law_pen_here", "_law_items"]) fun _ _ _ _ _ _ us hl => match us, hl with | [_, _], _ => rfl⟩
  have FFo := fun_mk (st := s_font) lFo cFo kFo
  have DFo : Def K mg "_law_font" fFo _ ["_law_pen_here", "_law_most"] := ⟨PySem.W.mg_of X G aFo, kFo, FFo.binds (ps := ["_law_pen_here", "_law_most"]) fun _ _ _ _ _ _ us hl => match us, hl with | [_, _], _ => rfl⟩
  have FHe := fun_mk (st := s_heads) lHe cHe kHe
  have DHe : Def K mg "_law_heads" fHe _ ["_law_turns"] := ⟨PySem.W.mg_of X G aHe, kHe, FHe.binds (ps := ["_law_turns"]) fun _ _ _ _ _ _ us hl => match us, hl with | [_], _ => rfl⟩
  have FKs := fun_mk (st := s_kinds) lKs cKs kKs
  have DKs : Def K mg "_law_kinds" fKs _ ["_law_signs"] := ⟨PySem.W.mg_of X G aKs, kKs, FKs.binds (ps := ["_law_signs"]) fun _ _ _ _ _ _ us hl => match us, hl with | [_], _ => rfl⟩
  have FOr := fun_mk (st := s_ordered) lOr cOr kOr
  have DOr : Def K mg "_law_ordered" fOr _ ["_law_font_here", "_law_counts"] := ⟨PySem.W.mg_of X G aOr, kOr, FOr.binds (ps := ["_law_font_here", "_law_counts"]) fun _ _ _ _ _ _ us hl => match us, hl with | [_, _], _ => rfl⟩
  have FPl := fun_mk (st := s_plain) lPl cPl kPl
  have DPl : Def K mg "_law_plain" fPl _ ["_law_pen_here", "_law_signs", "_law_most", "_law_bound"] := ⟨PySem.W.mg_of X G aPl, kPl, FPl.binds (ps := ["_law_pen_here", "_law_signs", "_law_most", "_law_bound"]) fun _ _ _ _ _ _ us hl => match us, hl with | [_, _, _, _], _ => rfl⟩
  have FFl := fun_mk (st := s_flip) lFl cFl kFl
  have DFl : Def K mg "_law_flipped" fFl _ ["_law_pen_here", "_law_pair"] := ⟨PySem.W.mg_of X G aFl, kFl, FFl.binds (ps := ["_law_pen_here", "_law_pair"]) fun _ _ _ _ _ _ us hl => match us, hl with | [_, _], _ => rfl⟩
  have FFm := fun_mk (st := s_fmade) lFm cFm kFm
  have DFm : Def K mg "_law_font_made" fFm _ ["_law_pen_here", "_law_font_here"] := ⟨PySem.W.mg_of X G aFm, kFm, FFm.binds (ps := ["_law_pen_here", "_law_font_here"]) fun _ _ _ _ _ _ us hl => match us, hl with | [_, _], _ => rfl⟩
  have FMa := fun_mk (st := s_cmade) lMa cMa kMa
  have DMa : Def K mg "_law_made" fMa _ ["_law_pen_here", "_law_plain_here"] := ⟨PySem.W.mg_of X G aMa, kMa, FMa.binds (ps := ["_law_pen_here", "_law_plain_here"]) fun _ _ _ _ _ _ us hl => match us, hl with | [_, _], _ => rfl⟩
  have FLw := fun_mk (st := s_lwants) lLw cLw kLw
  have DLw : Def K mg "_law_wants" fLw _ ["_law_pen_here", "_law_signs", "_law_bound"] := ⟨PySem.W.mg_of X G aLw, kLw, FLw.binds (ps := ["_law_pen_here", "_law_signs", "_law_bound"]) fun _ _ _ _ _ _ us hl => match us, hl with | [_, _, _], _ => rfl⟩
  have FFu := fun_mk (st := s_full) lFu cFu kFu
  have DFu : Def K mg "_law_full" fFu _ ["_law_signs", "_law_counts"] := ⟨PySem.W.mg_of X G aFu, kFu, FFu.binds (ps := ["_law_signs", "_law_counts"]) fun _ _ _ _ _ _ us hl => match us, hl with | [_, _], _ => rfl⟩
  have FPr := fun_mk (st := s_pairs) lPr cPr kPr
  have DPr : Def K mg "_law_pairs_right" fPr _ ["_law_one", "_law_others"] := ⟨PySem.W.mg_of X G aPr, kPr, FPr.binds (ps := ["_law_one", "_law_others"]) fun _ _ _ _ _ _ us hl => match us, hl with | [_, _], _ => rfl⟩
  have FOf := fun_mk (st := s_ofonts) lOf cOf kOf
  have DOf : Def K mg "_law_other_fonts" fOf _ ["_law_pen_here", "_law_font_here"] := ⟨PySem.W.mg_of X G aOf, kOf, FOf.binds (ps := ["_law_pen_here", "_law_font_here"]) fun _ _ _ _ _ _ us hl => match us, hl with | [_, _], _ => rfl⟩
  have FOc := fun_mk (st := s_ocounts) lOc cOc kOc
  have DOc : Def K mg "_law_other_counts" fOc _ ["_law_pen_here", "_law_font_here", "_law_counts"] := ⟨PySem.W.mg_of X G aOc, kOc, FOc.binds (ps := ["_law_pen_here", "_law_font_here", "_law_counts"]) fun _ _ _ _ _ _ us hl => match us, hl with | [_, _, _], _ => rfl⟩
  have FInC : FunD K "__init__" "Font.__init__" (defArgs s_init) (defBody s_init) (defScope s_init) [V.ref tEInC0] [] fInC (PySem.W.fnOf "__init__" "Font.__init__" (defArgs s_init) (defBody s_init) (defScope s_init) (.ref tDInC) kVInC dcInC pmInC anInC cdInC ctInC) := ⟨⟨_, _, .ref tDInC, _, _, _, _, _, _, _, rfl, lInC, cInC, .inr ⟨(fun z => by cases z), tDInC, _, [Value.ref tEInC0], nDInC, rfl, dInC, rfl, .cons rfl .nil⟩, .inl rfl⟩, kInC⟩
  have bInC3 : Binds K (PySem.W.fnOf "__init__" "Font.__init__" (defArgs s_init) (defBody s_init) (defScope s_init) (.ref tDInC) kVInC dcInC pmInC anInC cdInC ctInC) ["self", "signs", "turns"] [] := by
    obtain ⟨ds, hds, b⟩ := FInC.binds1 (ps := ["self", "signs", "turns"]) 3 1 (fun z => by cases z) rfl (fun _ _ _ _ _ _ _ us its hl hi => match us, its, hl, hi with | [_, _, _], [_], _, _ => ⟨_, rfl, rfl⟩)
    cases hds
    exact b
  have MC : Mk K C fInC := ⟨mkC, aInC, iInC, kCC⟩
  have FFe := fun_mk (st := s_feq) lFe cFe kFe
  have bFe : Binds K _ ["self", "other"] [] := FFe.binds (ps := ["self", "other"]) fun _ _ _ _ _ _ us hl => match us, hl with | [_, _], _ => rfl
  have EC : EqC K C fFe := ⟨aFe, iFe, neC, moC⟩
  have FKm := fun_mk (st := s_keptM) lKm cKm kKm
  have bKm : Binds K _ ["self", "kind"] [] := FKm.binds (ps := ["self", "kind"]) fun _ _ _ _ _ _ us hl => match us, hl with | [_, _], _ => rfl
  have pPs_ : PropOf K C "signs" pPs fPs := ⟨aPs, gPs, tPs, ⟨_, rPs⟩⟩
  have bPs : Binds K _ ["self"] [] := Binds.all (fd := PySem.W.fnOf "signs" "Font.signs" (defArgs (inCls s_cls 4)) (defBody (inCls s_cls 4)) (defScope (inCls s_cls 4)) .none kVPs dcPs pmPs anPs cdPs ctPs) fun us hl => match us, hl with | [_], _ => rfl
  have FInCC : FunD K "__init__" "Case.__init__" (defArgs c_init) (defBody c_init) (defScope c_init) [V.ref tEInCC0] [] fInCC (PySem.W.fnOf "__init__" "Case.__init__" (defArgs c_init) (defBody c_init) (defScope c_init) (.ref tDInCC) kVInCC dcInCC pmInCC anInCC cdInCC ctInCC) := ⟨⟨_, _, .ref tDInCC, _, _, _, _, _, _, _, rfl, lInCC, cInCC, .inr ⟨(fun z => by cases z), tDInCC, _, [Value.ref tEInCC0], nDInCC, rfl, dInCC, rfl, .cons rfl .nil⟩, .inl rfl⟩, kInCC⟩
  have bInCC2 : Binds K (PySem.W.fnOf "__init__" "Case.__init__" (defArgs c_init) (defBody c_init) (defScope c_init) (.ref tDInCC) kVInCC dcInCC pmInCC anInCC cdInCC ctInCC) ["self", "font", "plates"] [Value.ref tEInCC0] := by
    obtain ⟨ds, hds, b⟩ := FInCC.binds1 (ps := ["self", "font", "plates"]) 2 0 (fun z => by cases z) rfl (fun _ _ _ _ _ _ _ us its hl hi => match us, its, hl, hi with | [_, _], [_], _, _ => ⟨_, rfl, rfl⟩)
    obtain _ | ⟨r, hds⟩ := hds
    cases r
    cases hds
    exact b
  have bInCC3 : Binds K (PySem.W.fnOf "__init__" "Case.__init__" (defArgs c_init) (defBody c_init) (defScope c_init) (.ref tDInCC) kVInCC dcInCC pmInCC anInCC cdInCC ctInCC) ["self", "font", "plates"] [] := by
    obtain ⟨ds, hds, b⟩ := FInCC.binds1 (ps := ["self", "font", "plates"]) 3 1 (fun z => by cases z) rfl (fun _ _ _ _ _ _ _ us its hl hi => match us, its, hl, hi with | [_, _, _], [_], _, _ => ⟨_, rfl, rfl⟩)
    cases hds
    exact b
  have MCC : Mk K CC fInCC := ⟨mkCC, aInCC, iInCC, kCCC⟩
  have pXp_ : PropOf K CC "plates" pXp fXp := ⟨aXp, gXp, tXp, ⟨_, rXp⟩⟩
  have bXp : Binds K _ ["self"] [] := Binds.all (fd := PySem.W.fnOf "plates" "Case.plates" (defArgs (inCls c_cls 4)) (defBody (inCls c_cls 4)) (defScope (inCls c_cls 4)) .none kVXp dcXp pmXp anXp cdXp ctXp) fun us hl => match us, hl with | [_], _ => rfl
  have FXe := fun_mk (st := c_eq) lXe cXe kXe
  have bXe : Binds K _ ["self", "other"] [] := FXe.binds (ps := ["self", "other"]) fun _ _ _ _ _ _ us hl => match us, hl with | [_, _], _ => rfl
  have ECC : EqC K CC fXe := ⟨aXe, iXe, neCC, moCC⟩
  have FInW := fun_mk (st := w_init) lInW cInW kInW
  have bInW : Binds K _ ["self", "font", "counts"] [] := FInW.binds (ps := ["self", "font", "counts"]) fun _ _ _ _ _ _ us hl => match us, hl with | [_, _, _], _ => rfl
  have MW : Mk K W fInW := ⟨mkW, aInW, iInW, kCW⟩
  have FWe := fun_mk (st := w_eq) lWe cWe kWe
  have bWe : Binds K _ ["self", "other"] [] := FWe.binds (ps := ["self", "other"]) fun _ _ _ _ _ _ us hl => match us, hl with | [_, _], _ => rfl
  have EW : EqC K W fWe := ⟨aWe, iWe, neW, moW⟩
  have FPt := fun_mk (st := w_total) lPt cPt kPt
  have pPt_ : PropOf K W "total" pPt fPt := ⟨aPt, gPt, tPt, ⟨_, rPt⟩⟩
  have bPt : Binds K _ ["self"] [] := Binds.all (fd := PySem.W.fnOf "total" "Wants.total" (defArgs w_total) (defBody w_total) (defScope w_total) .none kVPt dcPt pmPt anPt cdPt ctPt) fun us hl => match us, hl with | [_], _ => rfl
  have TIK : VErr K mg "InvalidKind" "InvalidKind.__init__" IK fIK :=
    { facts := PySem.F.excBase_ValueError, chain := chain_Value, gC := PySem.W.mg_of X G aIK, cls := ⟨nmIK, qIK, NIK, bsIK, snIK, subIK, abIK, colIK, ddIK, m0IK, m1IK, m2IK, m3IK, m5IK, xIK⟩, sa := sIK, ga := gIK, gg := hIK, noN := nIK, iC := iIK, tC := tIK, kC := kIK, exC := eIK, tyC := yIK, hdC := dIK, te := caught_self eIK bIK yIK zIK,
      fn := ⟨_, _, _, _, _, _, _, _, _, _, _, _, _, _, lIK, cIK⟩ }
  refine ⟨PySem.W.fnOf "law" "law" (defArgs s_law) (defBody s_law) (defScope s_law) .none kVLa dcLa pmLa anLa (.ref cL) ctLa, [], sp_law0 K, fun p hp => ?_, fun p hp => ?_, fun p hp => ?_, fun s u => .of_eq rfl, fun H a ns hl _ hH hS => ?_, fun base KB GB TBs => ?_⟩
  · cases hp
  · cases hp
  · cases hp
  · exact ⟨a, ns, rfl, hS, hl, fun H' => rfl⟩
  · have tbl0 : True := True.intro
    have GPs := fn_getter (CX := CX0) (P := l.prog) (w := w) (mg := mg) (base := base) (k := 1) (N := ["self"]) lPs cPs ⟨rfl, rfl, rfl, by decide +kernel, rfl, by decide +kernel, by decide +kernel⟩ rfl rfl clC nC_signs
    have GXp := fn_getter (CX := CX0) (P := l.prog) (w := w) (mg := mg) (base := base) (k := 1) (N := ["self"]) lXp cXp ⟨rfl, rfl, rfl, by decide +kernel, rfl, by decide +kernel, by decide +kernel⟩ rfl rfl clCC nCC_plates
    have GLi := ok_isListed (P := l.prog) (w := w) (base := base) FLi T
    have GSi := ok_isSign (P := l.prog) (w := w) (base := base) FSi T
    have GSe := ok_isSet (P := l.prog) (w := w) (base := base) FSe T
    have GFs := ok_isFont (P := l.prog) (w := w) (base := base) FFs T DSe GSe gC ⟨⟨_, _, rCC, cM⟩⟩ gA
    have GIk := ok_isKind (P := l.prog) (w := w) (base := base) FIk T gB
    have GPa := ok_isPair (P := l.prog) (w := w) (base := base) FPa T DSi GSi
    have GKt := ok_kept (P := l.prog) (w := w) (base := base) FKt T DLi GLi DPa GPa
    have GIt := ok_isInt (P := l.prog) (w := w) (base := base) FIt T (PySem.W.mg_none_of X G z_bool)
    have GNu := ok_isNum (P := l.prog) (w := w) (base := base) FNu DIt GIt
    have GTa := ok_isTab (P := l.prog) (w := w) (base := base) FTa T (PySem.W.mg_none_of X G z_dict) DNu GNu
    have GPe := ok_pen (P := l.prog) (w := w) (base := base) FPe T.list
    have GDr := ok_draw (P := l.prog) (w := w) (base := base) FDr TD
    have GDrB := ok_drawB4 (P := l.prog) (w := w) (base := base) FDr TD DDr
    have GPi := ok_pick (P := l.prog) (w := w) (base := base) FPi TD DDr GDr
    have GPiS := ok_pickS (P := l.prog) (w := w) (base := base) FPi TD DDr GDr
    have GSh := ok_shuf (P := l.prog) (w := w) (base := base) FSh TD T.list DDr GDr
    have GShD := ok_shufD (P := l.prog) (w := w) (base := base) FSh TD T.list DDr GDr
    have GFo := ok_font (P := l.prog) (w := w) (base := base) FFo DDr GDr DPi GPi DSh GSh
    have GFl := ok_flip (P := l.prog) (w := w) (base := base) FFl DPi GPi
    have GFlS := ok_flipS (P := l.prog) (w := w) (base := base) FFl DPi GPi
    have GHe := ok_heads (P := l.prog) (w := w) (base := base) (mg := mg) FHe
    have GKs := ok_kinds (P := l.prog) (w := w) (base := base) FKs T
    have GOr := ok_ordered (P := l.prog) (w := w) (base := base) FOr (PySem.W.mg_none_of X G z_dict) DKs GKs
    have GPl := ok_plain (P := l.prog) (w := w) (base := base) FPl T DDr GDr GDrB DPi GPi DFo GFo DKs GKs DOr GOr
    have GInC := ok_init (P := l.prog) (w := w) (base := base) FInC clC nC_signs nC_turns DFs GFs DKt GKt
    have GFm := ok_fmade (P := l.prog) (w := w) (base := base) FFm MC GInC bInC3 gC DSh GSh DFl GFl
    have GFe := ok_feq (P := l.prog) (w := w) (base := base) FFe T IC gC nC_signs nC_turns
    have GFeA := ok_feqA (P := l.prog) (w := w) (base := base) FFe T IC gC nC_signs nC_turns
    have GKm := ok_keptM (P := l.prog) (w := w) (base := base) FKm clC nC_signs gB DIk GIk TIK
    have GLw := ok_lwants (P := l.prog) (w := w) (base := base) FLw (by decide) (by decide) DDr GDr GDrB DPi GPi DSh GSh
    have GFu := ok_full (P := l.prog) (w := w) (base := base) FFu (PySem.W.mg_none_of X G z_dict)
    have GOf := ok_ofonts (P := l.prog) (w := w) (base := base) FOf DHe GHe
    have GOc := ok_ocounts (P := l.prog) (w := w) (base := base) FOc T (PySem.W.mg_none_of X G z_dict) DPi GPi DKs GKs DOr GOr
    have sgC : SgnC l.prog w K mg base C := ⟨clC, nC_signs, ⟨_, _, _, pPs_, GPs, bPs⟩⟩
    have GAk := ok_allKinds (P := l.prog) (w := w) (base := base) FAk sgC (PySem.W.mg_none_of X G z_enumerate) gB
    have GEn := ok_isEntry (P := l.prog) (w := w) (base := base) FEn T sgC DIk GIk DNu GNu gCC ⟨⟨_, _, rCCC, cQ⟩⟩
    have GCo := ok_counted (P := l.prog) (w := w) (base := base) FCo T clC DLi GLi DEn GEn DAk GAk ⟨aKm, iKm, kKm⟩ GKm bKm
    have GInCC := ok_cinit (P := l.prog) (w := w) (base := base) FInCC T cc DCo GCo
    have GXeA := ok_ceqA (P := l.prog) (w := w) (base := base) FXe T cc ICC gCC EC GFe bFe
    have GMa := ok_cmade (P := l.prog) (w := w) (base := base) FMa T MCC GInCC bInCC3 gCC DFm GFm DSh GShD DFl GFlS DPi GPi
    have GInW := ok_winit (P := l.prog) (w := w) (base := base) FInW T wc sgC (PySem.W.mg_of X G aTa) kTa bTa2 GTa
    have GPt := ok_wtotal (P := l.prog) (w := w) (base := base) (C := C) FPt (PySem.W.mg_none_of X G z_sum) wc
    have GWeA := ok_weqA (P := l.prog) (w := w) (base := base) FWe T wc IW gW EC GFe bFe
    have OP : PltA l.prog w K mg base CC := ⟨⟨_, _, _, pXp_, GXp, bXp⟩⟩
    have OT : TotA l.prog w K mg base W C := ⟨⟨_, _, _, pPt_, GPt, bPt⟩⟩
    have kE : KEmp K tEInCC0 := ⟨⟨_, _, eInCC0, rfl, rfl⟩⟩
    have kF : CmpK l.prog w K mg base C fFe _ (sp_feqA K C) := ⟨EC, GFeA.mono (by decide), bFe, farC⟩
    have kC : CmpK l.prog w K mg base CC fXe _ (sp_ceqA K CC C) := ⟨ECC, GXeA, bXe, farCC⟩
    have kW : CmpK l.prog w K mg base W fWe _ (sp_weqA K W C) := ⟨EW, GWeA, bWe, farW⟩
    have GPr := ok_pairs (P := l.prog) (w := w) (base := base) FPr T kF kC kW
    exact ok_law lLa cLa T (PySem.W.mg_none_of X G z_dict) N cc wc OP OT DPe GPe DPl GPl DMa GMa DFm GFm DOf GOf DOc GOc DPr GPr MCC GInCC bInCC2 kE gCC DLw GLw MW GInW bInW gW DPi GPiS DFu GFu
end My
end
section
set_option Elab.async false
set_option linter.all false
set_option maxRecDepth 100000
set_option maxHeartbeats 0
namespace My
open PySem PySem.Spec PyProof.Rows L2
def v_C (K : PySem.W.Frag) : Addr := He.ga K "Font"
def v_CC (K : PySem.W.Frag) : Addr := He.ga K "Case"
def v_W (K : PySem.W.Frag) : Addr := He.ga K "Wants"
def v_fLi (K : PySem.W.Frag) : Addr := He.ga K "is_listed"
def v_fFs (K : PySem.W.Frag) : Addr := He.ga K "is_font_signs"
def v_fSi (K : PySem.W.Frag) : Addr := He.ga K "is_sign"
def v_fSe (K : PySem.W.Frag) : Addr := He.ga K "is_set"
def v_fIk (K : PySem.W.Frag) : Addr := He.ga K "is_kind"
def v_fKt (K : PySem.W.Frag) : Addr := He.ga K "kept_turns"
def v_fPa (K : PySem.W.Frag) : Addr := He.ga K "_is_pair"
def v_fIt (K : PySem.W.Frag) : Addr := He.ga K "is_integer"
def v_fNu (K : PySem.W.Frag) : Addr := He.ga K "is_number"
def v_tDNu (K : PySem.W.Frag) : Addr := refOf (fnD K (v_fNu K)).defaults
def v_fTa (K : PySem.W.Frag) : Addr := He.ga K "is_table"
def v_tDTa (K : PySem.W.Frag) : Addr := refOf (fnD K (v_fTa K)).defaults
def v_fAk (K : PySem.W.Frag) : Addr := He.ga K "all_kinds"
def v_fEn (K : PySem.W.Frag) : Addr := He.ga K "_is_entry"
def v_fCo (K : PySem.W.Frag) : Addr := He.ga K "_counted"
def v_fPe (K : PySem.W.Frag) : Addr := He.ga K "_law_pen"
def v_fDr (K : PySem.W.Frag) : Addr := He.ga K "_law_draw"
def v_fPi (K : PySem.W.Frag) : Addr := He.ga K "_law_pick"
def v_fSh (K : PySem.W.Frag) : Addr := He.ga K "_law_shuffled"
def v_fFo (K : PySem.W.Frag) : Addr := He.ga K "_law_font"
def v_fHe (K : PySem.W.Frag) : Addr := He.ga K "_law_heads"
def v_fKs (K : PySem.W.Frag) : Addr := He.ga K "_law_kinds"
def v_fOr (K : PySem.W.Frag) : Addr := He.ga K "_law_ordered"
def v_fPl (K : PySem.W.Frag) : Addr := He.ga K "_law_plain"
def v_fFl (K : PySem.W.Frag) : Addr := He.ga K "_law_flipped"
def v_fFm (K : PySem.W.Frag) : Addr := He.ga K "_law_font_made"
def v_fMa (K : PySem.W.Frag) : Addr := He.ga K "_law_made"
def v_fLw (K : PySem.W.Frag) : Addr := He.ga K "_law_wants"
def v_fFu (K : PySem.W.Frag) : Addr := He.ga K "_law_full"
def v_fPr (K : PySem.W.Frag) : Addr := He.ga K "_law_pairs_right"
def v_fOf (K : PySem.W.Frag) : Addr := He.ga K "_law_other_fonts"
def v_fOc (K : PySem.W.Frag) : Addr := He.ga K "_law_other_counts"
def v_fInC (K : PySem.W.Frag) : Addr := He.ma K (v_C K) "__init__"
def v_tDInC (K : PySem.W.Frag) : Addr := refOf (fnD K (v_fInC K)).defaults
def v_tEInC0 (K : PySem.W.Frag) : Addr := itA K (v_tDInC K) 0
def v_fFe (K : PySem.W.Frag) : Addr := He.ma K (v_C K) "__eq__"
def v_fKm (K : PySem.W.Frag) : Addr := He.ma K (v_C K) "kept"
def v_pPs (K : PySem.W.Frag) : Addr := He.ma K (v_C K) "signs"
def v_fPs (K : PySem.W.Frag) : Addr := recF K (v_pPs K) "property"
def v_fInCC (K : PySem.W.Frag) : Addr := He.ma K (v_CC K) "__init__"
def v_tDInCC (K : PySem.W.Frag) : Addr := refOf (fnD K (v_fInCC K)).defaults
def v_tEInCC0 (K : PySem.W.Frag) : Addr := itA K (v_tDInCC K) 0
def v_pXp (K : PySem.W.Frag) : Addr := He.ma K (v_CC K) "plates"
def v_fXp (K : PySem.W.Frag) : Addr := recF K (v_pXp K) "property"
def v_fXe (K : PySem.W.Frag) : Addr := He.ma K (v_CC K) "__eq__"
def v_fInW (K : PySem.W.Frag) : Addr := He.ma K (v_W K) "__init__"
def v_fWe (K : PySem.W.Frag) : Addr := He.ma K (v_W K) "__eq__"
def v_pPt (K : PySem.W.Frag) : Addr := He.ma K (v_W K) "total"
def v_fPt (K : PySem.W.Frag) : Addr := recF K (v_pPt K) "property"
def v_IK (K : PySem.W.Frag) : Addr := He.ga K "InvalidKind"
def v_fIK (K : PySem.W.Frag) : Addr := He.ma K (v_IK K) "__init__"
def v_fLa (K : PySem.W.Frag) : Addr := He.ga K "law"
def v_cL (K : PySem.W.Frag) : Addr := refOf (fnD K (v_fLa K)).code
def chk0 (K : PySem.W.Frag) : Bool :=
  decide (PySem.W.nsIn K mainGlobals "int" = some none) &&
  (decide (PySem.W.nsIn K mainGlobals "len" = some none) &&
  (decide (PySem.W.nsIn K mainGlobals "abs" = some none) &&
  (decide (PySem.W.nsIn K mainGlobals "list" = some none) &&
  (decide (PySem.W.nsIn K mainGlobals "tuple" = some none) &&
  (decide (PySem.W.nsIn K mainGlobals "str" = some none) &&
  (decide (PySem.W.nsIn K mainGlobals "set" = some none) &&
  (decide (PySem.W.nsIn K mainGlobals "all" = some none) &&
  (decide (PySem.W.nsIn K mainGlobals "isinstance" = some none) &&
  (decide (PySem.W.nsIn K mainGlobals "repr" = some none) &&
  (decide (PySem.W.nsIn K mainGlobals "range" = some none) &&
  (decide (PySem.W.nsIn K mainGlobals "bool" = some none) &&
  (decide (PySem.W.nsIn K mainGlobals "dict" = some none) &&
  (decide (PySem.W.nsIn K mainGlobals "sum" = some none) &&
  (decide (PySem.W.nsIn K mainGlobals "enumerate" = some none) &&
  (tokB K "ALPHABET" (.str alphabet) &&
  (tokB K "BLANK" (.str "-") &&
  (decide (PySem.W.nsIn K mainGlobals "Font" = some (some (.ref (v_C K)))) &&
  ((PySem.W.plainGet K (v_C K) Str.empty) &&
  ((PySem.W.hasDictIn K (v_C K)))))))))))))))))))))
def chk1 (K : PySem.W.Frag) : Bool :=
  (PySem.W.plainOver K (v_C K)) &&
  (decide (PySem.W.findIn K (.ref (v_C K)) "__setattr__" = some (some (.builtin "object.__setattr__"))) &&
  (decide (PySem.W.findIn K (.ref (v_C K)) "_signs" = some none) &&
  (decide (PySem.W.findIn K (.ref (v_C K)) "_turns" = some none) &&
  ((PySem.W.readsIn K (v_C K) (.type "type")) &&
  (decide (PySem.W.specialIn K (.ref (v_C K)) "__getattribute__" = some (some (.builtin "type.__getattribute__"))) &&
  (decide (PySem.W.findIn K (.ref (v_C K)) "__class__" = some (some (.builtin "object.__class__"))) &&
  (decide (PySem.W.specialIn K (.builtin "object.__class__") "__get__" = some (some (.builtin "getset_descriptor.__get__"))) &&
  (decide (PySem.W.takesIn K (.builtin "object.__class__") = some true) &&
  (decide (PySem.W.mroIn K (v_C K) (.type "object") = some true) &&
  (valB K (v_C K) "MAX_SIGNS" 10 &&
  (decide (PySem.W.nsIn K mainGlobals "Case" = some (some (.ref (v_CC K)))) &&
  ((PySem.W.plainGet K (v_CC K) Str.empty) &&
  ((PySem.W.hasDictIn K (v_CC K)) &&
  ((PySem.W.plainOver K (v_CC K)) &&
  (decide (PySem.W.findIn K (.ref (v_CC K)) "__setattr__" = some (some (.builtin "object.__setattr__"))) &&
  (decide (PySem.W.findIn K (.ref (v_CC K)) "_font" = some none) &&
  (decide (PySem.W.findIn K (.ref (v_CC K)) "_counts" = some none) &&
  (decide (PySem.W.findIn K (.ref (v_CC K)) "_plates" = some none) &&
  ((PySem.W.readsIn K (v_CC K) (.type "type")))))))))))))))))))))
def chk2 (K : PySem.W.Frag) : Bool :=
  decide (PySem.W.specialIn K (.ref (v_CC K)) "__getattribute__" = some (some (.builtin "type.__getattribute__"))) &&
  (decide (PySem.W.findIn K (.ref (v_CC K)) "__class__" = some (some (.builtin "object.__class__"))) &&
  (decide (PySem.W.mroIn K (v_CC K) (.type "object") = some true) &&
  (valB K (v_CC K) "MAX_COUNT" 1000000000000000000000000000000 &&
  (decide (PySem.W.nsIn K mainGlobals "Wants" = some (some (.ref (v_W K)))) &&
  ((PySem.W.plainGet K (v_W K) Str.empty) &&
  ((PySem.W.hasDictIn K (v_W K)) &&
  ((PySem.W.plainOver K (v_W K)) &&
  (decide (PySem.W.findIn K (.ref (v_W K)) "__setattr__" = some (some (.builtin "object.__setattr__"))) &&
  (decide (PySem.W.findIn K (.ref (v_W K)) "_font" = some none) &&
  (decide (PySem.W.findIn K (.ref (v_W K)) "_counts" = some none) &&
  (decide (PySem.W.findIn K (.ref (v_W K)) "__class__" = some (some (.builtin "object.__class__"))) &&
  (decide (PySem.W.mroIn K (v_W K) (.type "object") = some true) &&
  ((PySem.W.isClsIn K (v_C K)) &&
  (decide (PySem.W.typeIn K (.ref (v_C K)) = some (.type "type")) &&
  (decide (PySem.W.subIn K (.ref (v_C K)) (.ref (v_C K)) = some true) &&
  (decide (PySem.W.mroIn K (v_C K) (.type "NoneType") = some false) &&
  (decide (PySem.W.subIn K (.type "NoneType") (.ref (v_C K)) = some false) &&
  (decide (PySem.W.mroIn K (v_C K) (.type "str") = some false) &&
  (decide (PySem.W.subIn K (.type "str") (.ref (v_C K)) = some false))))))))))))))))))))
def chk3 (K : PySem.W.Frag) : Bool :=
  decide (PySem.W.mroIn K (v_C K) (.type "int") = some false) &&
  (decide (PySem.W.subIn K (.type "int") (.ref (v_C K)) = some false) &&
  (decide (PySem.W.mroIn K (v_C K) (.type "tuple") = some false) &&
  (decide (PySem.W.subIn K (.type "tuple") (.ref (v_C K)) = some false) &&
  (decide (PySem.W.mroIn K (v_C K) (.type "dict") = some false) &&
  (decide (PySem.W.subIn K (.type "dict") (.ref (v_C K)) = some false) &&
  ((PySem.W.isClsIn K (v_CC K)) &&
  (decide (PySem.W.typeIn K (.ref (v_CC K)) = some (.type "type")) &&
  (decide (PySem.W.subIn K (.ref (v_CC K)) (.ref (v_CC K)) = some true) &&
  (decide (PySem.W.mroIn K (v_CC K) (.type "NoneType") = some false) &&
  (decide (PySem.W.subIn K (.type "NoneType") (.ref (v_CC K)) = some false) &&
  (decide (PySem.W.mroIn K (v_CC K) (.type "str") = some false) &&
  (decide (PySem.W.subIn K (.type "str") (.ref (v_CC K)) = some false) &&
  (decide (PySem.W.mroIn K (v_CC K) (.type "int") = some false) &&
  (decide (PySem.W.subIn K (.type "int") (.ref (v_CC K)) = some false) &&
  (decide (PySem.W.mroIn K (v_CC K) (.type "tuple") = some false) &&
  (decide (PySem.W.subIn K (.type "tuple") (.ref (v_CC K)) = some false) &&
  (decide (PySem.W.mroIn K (v_CC K) (.type "dict") = some false) &&
  (decide (PySem.W.subIn K (.type "dict") (.ref (v_CC K)) = some false) &&
  ((PySem.W.isClsIn K (v_W K)))))))))))))))))))))
def chk4 (K : PySem.W.Frag) : Bool :=
  decide (PySem.W.typeIn K (.ref (v_W K)) = some (.type "type")) &&
  (decide (PySem.W.subIn K (.ref (v_W K)) (.ref (v_W K)) = some true) &&
  (decide (PySem.W.mroIn K (v_W K) (.type "NoneType") = some false) &&
  (decide (PySem.W.subIn K (.type "NoneType") (.ref (v_W K)) = some false) &&
  (decide (PySem.W.mroIn K (v_W K) (.type "str") = some false) &&
  (decide (PySem.W.subIn K (.type "str") (.ref (v_W K)) = some false) &&
  (decide (PySem.W.mroIn K (v_W K) (.type "int") = some false) &&
  (decide (PySem.W.subIn K (.type "int") (.ref (v_W K)) = some false) &&
  (decide (PySem.W.mroIn K (v_W K) (.type "tuple") = some false) &&
  (decide (PySem.W.subIn K (.type "tuple") (.ref (v_W K)) = some false) &&
  (decide (PySem.W.mroIn K (v_W K) (.type "dict") = some false) &&
  (decide (PySem.W.subIn K (.type "dict") (.ref (v_W K)) = some false) &&
  (decide (PySem.W.subIn K (.ref (v_CC K)) (.ref (v_C K)) = some false) &&
  (decide (PySem.W.subIn K (.ref (v_C K)) (.ref (v_CC K)) = some false) &&
  (decide (PySem.W.subIn K (.ref (v_C K)) (.ref (v_W K)) = some false) &&
  (decide (PySem.W.subIn K (.ref (v_W K)) (.ref (v_C K)) = some false) &&
  (decide (PySem.W.nsIn K mainGlobals "is_listed" = some (some (.ref (v_fLi K)))) &&
  (decide ((fnD K (v_fLi K)).defaults = .none) &&
  ((PySem.W.codeIn K ((fnD K (v_fLi K)).code) "is_listed") &&
  ((PySem.W.keepIn K (.ref (v_fLi K))))))))))))))))))))))
def chk5 (K : PySem.W.Frag) : Bool :=
  decide (PySem.W.nsIn K mainGlobals "is_font_signs" = some (some (.ref (v_fFs K)))) &&
  (decide ((fnD K (v_fFs K)).defaults = .none) &&
  ((PySem.W.codeIn K ((fnD K (v_fFs K)).code) "is_font_signs") &&
  ((PySem.W.keepIn K (.ref (v_fFs K))) &&
  (decide (PySem.W.nsIn K mainGlobals "is_sign" = some (some (.ref (v_fSi K)))) &&
  (decide ((fnD K (v_fSi K)).defaults = .none) &&
  ((PySem.W.codeIn K ((fnD K (v_fSi K)).code) "is_sign") &&
  ((PySem.W.keepIn K (.ref (v_fSi K))) &&
  (decide (PySem.W.nsIn K mainGlobals "is_set" = some (some (.ref (v_fSe K)))) &&
  (decide ((fnD K (v_fSe K)).defaults = .none) &&
  ((PySem.W.codeIn K ((fnD K (v_fSe K)).code) "is_set") &&
  ((PySem.W.keepIn K (.ref (v_fSe K))) &&
  (decide (PySem.W.nsIn K mainGlobals "is_kind" = some (some (.ref (v_fIk K)))) &&
  (decide ((fnD K (v_fIk K)).defaults = .none) &&
  ((PySem.W.codeIn K ((fnD K (v_fIk K)).code) "is_kind") &&
  ((PySem.W.keepIn K (.ref (v_fIk K))) &&
  (decide (PySem.W.nsIn K mainGlobals "kept_turns" = some (some (.ref (v_fKt K)))) &&
  (decide ((fnD K (v_fKt K)).defaults = .none) &&
  ((PySem.W.codeIn K ((fnD K (v_fKt K)).code) "kept_turns") &&
  ((PySem.W.keepIn K (.ref (v_fKt K))))))))))))))))))))))
def chk6 (K : PySem.W.Frag) : Bool :=
  decide (PySem.W.nsIn K mainGlobals "_is_pair" = some (some (.ref (v_fPa K)))) &&
  (decide ((fnD K (v_fPa K)).defaults = .none) &&
  ((PySem.W.codeIn K ((fnD K (v_fPa K)).code) "_is_pair") &&
  ((PySem.W.keepIn K (.ref (v_fPa K))) &&
  (decide (PySem.W.nsIn K mainGlobals "is_integer" = some (some (.ref (v_fIt K)))) &&
  (decide ((fnD K (v_fIt K)).defaults = .none) &&
  ((PySem.W.codeIn K ((fnD K (v_fIt K)).code) "is_integer") &&
  ((PySem.W.keepIn K (.ref (v_fIt K))) &&
  (decide (PySem.W.nsIn K mainGlobals "is_number" = some (some (.ref (v_fNu K)))) &&
  (decide ((fnD K (v_fNu K)).defaults = (.ref (v_tDNu K))) &&
  (decide (seqV K (v_tDNu K) = some [Value.none]) &&
  ((PySem.W.codeIn K ((fnD K (v_fNu K)).code) "is_number") &&
  ((PySem.W.keepIn K (.ref (v_fNu K))) &&
  (decide (PySem.W.nsIn K mainGlobals "is_table" = some (some (.ref (v_fTa K)))) &&
  (decide ((fnD K (v_fTa K)).defaults = (.ref (v_tDTa K))) &&
  (decide (seqV K (v_tDTa K) = some [Value.none]) &&
  ((PySem.W.codeIn K ((fnD K (v_fTa K)).code) "is_table") &&
  ((PySem.W.keepIn K (.ref (v_fTa K))) &&
  (decide (PySem.W.nsIn K mainGlobals "all_kinds" = some (some (.ref (v_fAk K)))) &&
  (decide ((fnD K (v_fAk K)).defaults = .none))))))))))))))))))))
def chk7 (K : PySem.W.Frag) : Bool :=
  (PySem.W.codeIn K ((fnD K (v_fAk K)).code) "all_kinds") &&
  ((PySem.W.keepIn K (.ref (v_fAk K))) &&
  (decide (PySem.W.nsIn K mainGlobals "_is_entry" = some (some (.ref (v_fEn K)))) &&
  (decide ((fnD K (v_fEn K)).defaults = .none) &&
  ((PySem.W.codeIn K ((fnD K (v_fEn K)).code) "_is_entry") &&
  ((PySem.W.keepIn K (.ref (v_fEn K))) &&
  (decide (PySem.W.nsIn K mainGlobals "_counted" = some (some (.ref (v_fCo K)))) &&
  (decide ((fnD K (v_fCo K)).defaults = .none) &&
  ((PySem.W.codeIn K ((fnD K (v_fCo K)).code) "_counted") &&
  ((PySem.W.keepIn K (.ref (v_fCo K))) &&
  (decide (PySem.W.nsIn K mainGlobals "_law_pen" = some (some (.ref (v_fPe K)))) &&
  (decide ((fnD K (v_fPe K)).defaults = .none) &&
  ((PySem.W.codeIn K ((fnD K (v_fPe K)).code) "_law_pen") &&
  ((PySem.W.keepIn K (.ref (v_fPe K))) &&
  (decide (PySem.W.nsIn K mainGlobals "_law_draw" = some (some (.ref (v_fDr K)))) &&
  (decide ((fnD K (v_fDr K)).defaults = .none) &&
  ((PySem.W.codeIn K ((fnD K (v_fDr K)).code) "_law_draw") &&
  ((PySem.W.keepIn K (.ref (v_fDr K))) &&
  (decide (PySem.W.nsIn K mainGlobals "_law_pick" = some (some (.ref (v_fPi K)))) &&
  (decide ((fnD K (v_fPi K)).defaults = .none))))))))))))))))))))
def chk8 (K : PySem.W.Frag) : Bool :=
  (PySem.W.codeIn K ((fnD K (v_fPi K)).code) "_law_pick") &&
  ((PySem.W.keepIn K (.ref (v_fPi K))) &&
  (decide (PySem.W.nsIn K mainGlobals "_law_shuffled" = some (some (.ref (v_fSh K)))) &&
  (decide ((fnD K (v_fSh K)).defaults = .none) &&
  ((PySem.W.codeIn K ((fnD K (v_fSh K)).code) "_law_shuffled") &&
  ((PySem.W.keepIn K (.ref (v_fSh K))) &&
  (decide (PySem.W.nsIn K mainGlobals "_law_font" = some (some (.ref (v_fFo K)))) &&
  (decide ((fnD K (v_fFo K)).defaults = .none) &&
  ((PySem.W.codeIn K ((fnD K (v_fFo K)).code) "_law_font") &&
  ((PySem.W.keepIn K (.ref (v_fFo K))) &&
  (decide (PySem.W.nsIn K mainGlobals "_law_heads" = some (some (.ref (v_fHe K)))) &&
  (decide ((fnD K (v_fHe K)).defaults = .none) &&
  ((PySem.W.codeIn K ((fnD K (v_fHe K)).code) "_law_heads") &&
  ((PySem.W.keepIn K (.ref (v_fHe K))) &&
  (decide (PySem.W.nsIn K mainGlobals "_law_kinds" = some (some (.ref (v_fKs K)))) &&
  (decide ((fnD K (v_fKs K)).defaults = .none) &&
  ((PySem.W.codeIn K ((fnD K (v_fKs K)).code) "_law_kinds") &&
  ((PySem.W.keepIn K (.ref (v_fKs K))) &&
  (decide (PySem.W.nsIn K mainGlobals "_law_ordered" = some (some (.ref (v_fOr K)))) &&
  (decide ((fnD K (v_fOr K)).defaults = .none))))))))))))))))))))
def chk9 (K : PySem.W.Frag) : Bool :=
  (PySem.W.codeIn K ((fnD K (v_fOr K)).code) "_law_ordered") &&
  ((PySem.W.keepIn K (.ref (v_fOr K))) &&
  (decide (PySem.W.nsIn K mainGlobals "_law_plain" = some (some (.ref (v_fPl K)))) &&
  (decide ((fnD K (v_fPl K)).defaults = .none) &&
  ((PySem.W.codeIn K ((fnD K (v_fPl K)).code) "_law_plain") &&
  ((PySem.W.keepIn K (.ref (v_fPl K))) &&
  (decide (PySem.W.nsIn K mainGlobals "_law_flipped" = some (some (.ref (v_fFl K)))) &&
  (decide ((fnD K (v_fFl K)).defaults = .none) &&
  ((PySem.W.codeIn K ((fnD K (v_fFl K)).code) "_law_flipped") &&
  ((PySem.W.keepIn K (.ref (v_fFl K))) &&
  (decide (PySem.W.nsIn K mainGlobals "_law_font_made" = some (some (.ref (v_fFm K)))) &&
  (decide ((fnD K (v_fFm K)).defaults = .none) &&
  ((PySem.W.codeIn K ((fnD K (v_fFm K)).code) "_law_font_made") &&
  ((PySem.W.keepIn K (.ref (v_fFm K))) &&
  (decide (PySem.W.nsIn K mainGlobals "_law_made" = some (some (.ref (v_fMa K)))) &&
  (decide ((fnD K (v_fMa K)).defaults = .none) &&
  ((PySem.W.codeIn K ((fnD K (v_fMa K)).code) "_law_made") &&
  ((PySem.W.keepIn K (.ref (v_fMa K))) &&
  (decide (PySem.W.nsIn K mainGlobals "_law_wants" = some (some (.ref (v_fLw K)))) &&
  (decide ((fnD K (v_fLw K)).defaults = .none))))))))))))))))))))
def chk10 (K : PySem.W.Frag) : Bool :=
  (PySem.W.codeIn K ((fnD K (v_fLw K)).code) "_law_wants") &&
  ((PySem.W.keepIn K (.ref (v_fLw K))) &&
  (decide (PySem.W.nsIn K mainGlobals "_law_full" = some (some (.ref (v_fFu K)))) &&
  (decide ((fnD K (v_fFu K)).defaults = .none) &&
  ((PySem.W.codeIn K ((fnD K (v_fFu K)).code) "_law_full") &&
  ((PySem.W.keepIn K (.ref (v_fFu K))) &&
  (decide (PySem.W.nsIn K mainGlobals "_law_pairs_right" = some (some (.ref (v_fPr K)))) &&
  (decide ((fnD K (v_fPr K)).defaults = .none) &&
  ((PySem.W.codeIn K ((fnD K (v_fPr K)).code) "_law_pairs_right") &&
  ((PySem.W.keepIn K (.ref (v_fPr K))) &&
  (decide (PySem.W.nsIn K mainGlobals "_law_other_fonts" = some (some (.ref (v_fOf K)))) &&
  (decide ((fnD K (v_fOf K)).defaults = .none) &&
  ((PySem.W.codeIn K ((fnD K (v_fOf K)).code) "_law_other_fonts") &&
  ((PySem.W.keepIn K (.ref (v_fOf K))) &&
  (decide (PySem.W.nsIn K mainGlobals "_law_other_counts" = some (some (.ref (v_fOc K)))) &&
  (decide ((fnD K (v_fOc K)).defaults = .none) &&
  ((PySem.W.codeIn K ((fnD K (v_fOc K)).code) "_law_other_counts") &&
  ((PySem.W.keepIn K (.ref (v_fOc K))) &&
  (decide (PySem.W.findIn K (.ref (v_C K)) "__init__" = some (some (.ref (v_fInC K)))) &&
  ((PySem.W.isFn K (.ref (v_fInC K))))))))))))))))))))))
def chk11 (K : PySem.W.Frag) : Bool :=
  decide ((fnD K (v_fInC K)).defaults = (.ref (v_tDInC K))) &&
  (decide (seqV K (v_tDInC K) = some [Value.ref (v_tEInC0 K)]) &&
  (decide (seqV K (v_tEInC0 K) = some []) &&
  (decide ((oOf K (v_tEInC0 K)).cls = .type "tuple") &&
  ((PySem.W.codeIn K ((fnD K (v_fInC K)).code) "Font.__init__") &&
  ((PySem.W.keepIn K (.ref (v_fInC K))) &&
  ((PySem.W.makesIn K (v_C K)) &&
  ((PySem.W.keepIn K (.ref (v_C K))) &&
  (decide (PySem.W.findIn K (.ref (v_C K)) "__eq__" = some (some (.ref (v_fFe K)))) &&
  ((PySem.W.isFn K (.ref (v_fFe K))) &&
  (decide ((fnD K (v_fFe K)).defaults = .none) &&
  ((PySem.W.codeIn K ((fnD K (v_fFe K)).code) "Font.__eq__") &&
  ((PySem.W.keepIn K (.ref (v_fFe K))) &&
  (decide (PySem.W.findIn K (.ref (v_C K)) "__ne__" = some (some (.builtin "object.__ne__"))) &&
  (decide (PySem.W.findIn K (.ref (v_C K)) "kept" = some (some (.ref (v_fKm K)))) &&
  ((PySem.W.isFn K (.ref (v_fKm K))) &&
  (decide ((fnD K (v_fKm K)).defaults = .none) &&
  ((PySem.W.codeIn K ((fnD K (v_fKm K)).code) "Font.kept") &&
  ((PySem.W.keepIn K (.ref (v_fKm K))) &&
  (decide (PySem.W.findIn K (.ref (v_C K)) "signs" = some (some (.ref (v_pPs K)))))))))))))))))))))))
def chk12 (K : PySem.W.Frag) : Bool :=
  decide (PySem.W.specialIn K (.ref (v_pPs K)) "__get__" = some (some (.builtin "property.__get__"))) &&
  (decide (PySem.W.takesIn K (.ref (v_pPs K)) = some true) &&
  (recB K (v_pPs K) "property" &&
  (decide ((fnD K (v_fPs K)).defaults = .none) &&
  ((PySem.W.codeIn K ((fnD K (v_fPs K)).code) "Font.signs") &&
  (decide (PySem.W.findIn K (.ref (v_CC K)) "__init__" = some (some (.ref (v_fInCC K)))) &&
  ((PySem.W.isFn K (.ref (v_fInCC K))) &&
  (decide ((fnD K (v_fInCC K)).defaults = (.ref (v_tDInCC K))) &&
  (decide (seqV K (v_tDInCC K) = some [Value.ref (v_tEInCC0 K)]) &&
  (decide (seqV K (v_tEInCC0 K) = some []) &&
  (decide ((oOf K (v_tEInCC0 K)).cls = .type "tuple") &&
  ((PySem.W.codeIn K ((fnD K (v_fInCC K)).code) "Case.__init__") &&
  ((PySem.W.keepIn K (.ref (v_fInCC K))) &&
  ((PySem.W.makesIn K (v_CC K)) &&
  ((PySem.W.keepIn K (.ref (v_CC K))) &&
  (decide (PySem.W.findIn K (.ref (v_CC K)) "plates" = some (some (.ref (v_pXp K)))) &&
  (decide (PySem.W.specialIn K (.ref (v_pXp K)) "__get__" = some (some (.builtin "property.__get__"))) &&
  (decide (PySem.W.takesIn K (.ref (v_pXp K)) = some true) &&
  (recB K (v_pXp K) "property" &&
  (decide ((fnD K (v_fXp K)).defaults = .none))))))))))))))))))))
def chk13 (K : PySem.W.Frag) : Bool :=
  (PySem.W.codeIn K ((fnD K (v_fXp K)).code) "Case.plates") &&
  (decide (PySem.W.findIn K (.ref (v_CC K)) "__eq__" = some (some (.ref (v_fXe K)))) &&
  ((PySem.W.isFn K (.ref (v_fXe K))) &&
  (decide ((fnD K (v_fXe K)).defaults = .none) &&
  ((PySem.W.codeIn K ((fnD K (v_fXe K)).code) "Case.__eq__") &&
  ((PySem.W.keepIn K (.ref (v_fXe K))) &&
  (decide (PySem.W.findIn K (.ref (v_CC K)) "__ne__" = some (some (.builtin "object.__ne__"))) &&
  (decide (PySem.W.findIn K (.ref (v_W K)) "__init__" = some (some (.ref (v_fInW K)))) &&
  ((PySem.W.isFn K (.ref (v_fInW K))) &&
  (decide ((fnD K (v_fInW K)).defaults = .none) &&
  ((PySem.W.codeIn K ((fnD K (v_fInW K)).code) "Wants.__init__") &&
  ((PySem.W.keepIn K (.ref (v_fInW K))) &&
  ((PySem.W.makesIn K (v_W K)) &&
  ((PySem.W.keepIn K (.ref (v_W K))) &&
  (decide (PySem.W.findIn K (.ref (v_W K)) "__eq__" = some (some (.ref (v_fWe K)))) &&
  ((PySem.W.isFn K (.ref (v_fWe K))) &&
  (decide ((fnD K (v_fWe K)).defaults = .none) &&
  ((PySem.W.codeIn K ((fnD K (v_fWe K)).code) "Wants.__eq__") &&
  ((PySem.W.keepIn K (.ref (v_fWe K))) &&
  (decide (PySem.W.findIn K (.ref (v_W K)) "__ne__" = some (some (.builtin "object.__ne__"))))))))))))))))))))))
def chk14 (K : PySem.W.Frag) : Bool :=
  decide (PySem.W.findIn K (.ref (v_W K)) "total" = some (some (.ref (v_pPt K)))) &&
  (decide (PySem.W.specialIn K (.ref (v_pPt K)) "__get__" = some (some (.builtin "property.__get__"))) &&
  (decide (PySem.W.takesIn K (.ref (v_pPt K)) = some true) &&
  (recB K (v_pPt K) "property" &&
  (decide ((fnD K (v_fPt K)).defaults = .none) &&
  ((PySem.W.codeIn K ((fnD K (v_fPt K)).code) "Wants.total") &&
  ((PySem.W.keepIn K (.ref (v_fPt K))) &&
  (decide (PySem.W.nsIn K mainGlobals "InvalidKind" = some (some (.ref (v_IK K)))) &&
  (excB K (v_IK K) bmValue "ValueError.__new__" &&
  (decide (PySem.W.findIn K (.ref (v_IK K)) "__setattr__" = some (some (.builtin "object.__setattr__"))) &&
  (decide (PySem.W.findIn K (.ref (v_IK K)) "__getattribute__" = some (some (.builtin "BaseException.__getattribute__"))) &&
  (decide (PySem.W.findIn K (.ref (v_IK K)) "__getattr__" = some none) &&
  (decide (PySem.W.findIn K (.ref (v_IK K)) "value" = some none) &&
  (decide (PySem.W.findIn K (.ref (v_IK K)) "__init__" = some (some (.ref (v_fIK K)))) &&
  (decide (PySem.W.typeIn K (.ref (v_fIK K)) = some (.type "function")) &&
  (decide ((fnD K (v_fIK K)).defaults = .none) &&
  (decide ((fnD K (v_fIK K)).kwdefaults = .none) &&
  ((PySem.W.codeIn K ((fnD K (v_fIK K)).code) "InvalidKind.__init__") &&
  ((PySem.W.keepIn K (.ref (v_IK K))) &&
  (decide (PySem.W.subIn K (.ref (v_IK K)) (.type "BaseException") = some true))))))))))))))))))))
def chk15 (K : PySem.W.Frag) : Bool :=
  decide (PySem.W.typeIn K (.ref (v_IK K)) = some (.type "type")) &&
  ((PySem.W.hasDictIn K (v_IK K)) &&
  ((PySem.W.isClsIn K (v_IK K)) &&
  (decide (PySem.W.subIn K (.ref (v_IK K)) (.ref (v_IK K)) = some true) &&
  (decide (PySem.W.nsIn K mainGlobals "law" = some (some (.ref (v_fLa K)))) &&
  (decide ((fnD K (v_fLa K)).defaults = .none) &&
  (decide ((fnD K (v_fLa K)).code = (.ref (v_cL K))) &&
  ((PySem.W.codeIn K (.ref (v_cL K)) "law"))))))))
def chkA (K : PySem.W.Frag) : Bool := chk0 K && (chk1 K && (chk2 K && (chk3 K && (chk4 K && (chk5 K && (chk6 K && (chk7 K && (chk8 K && (chk9 K && (chk10 K && (chk11 K && (chk12 K && (chk13 K && (chk14 K && (chk15 K)))))))))))))))
def fnL0 (K : PySem.W.Frag) : List FnV := [
  fnV K (v_fLi K),
  fnV K (v_fFs K),
  fnV K (v_fSi K),
  fnV K (v_fSe K),
  fnV K (v_fIk K),
  fnV K (v_fKt K),
  fnV K (v_fPa K),
  fnV K (v_fIt K),
  fnV K (v_fNu K),
  fnV K (v_fTa K),
  fnV K (v_fAk K),
  fnV K (v_fEn K),
  fnV K (v_fCo K),
  fnV K (v_fPe K),
  fnV K (v_fDr K),
  fnV K (v_fPi K),
  fnV K (v_fSh K),
  fnV K (v_fFo K),
  fnV K (v_fHe K),
  fnV K (v_fKs K)]
def fnR0 : List FnV := [
  fnW "is_listed" "is_listed" (defArgs s_isListed) (defBody s_isListed) (defScope s_isListed),
  fnW "is_font_signs" "is_font_signs" (defArgs s_isFont) (defBody s_isFont) (defScope s_isFont),
  fnW "is_sign" "is_sign" (defArgs s_isSign) (defBody s_isSign) (defScope s_isSign),
  fnW "is_set" "is_set" (defArgs s_isSet) (defBody s_isSet) (defScope s_isSet),
  fnW "is_kind" "is_kind" (defArgs s_isKind) (defBody s_isKind) (defScope s_isKind),
  fnW "kept_turns" "kept_turns" (defArgs s_kept) (defBody s_kept) (defScope s_kept),
  fnW "_is_pair" "_is_pair" (defArgs s_isPair) (defBody s_isPair) (defScope s_isPair),
  fnW "is_integer" "is_integer" (defArgs s_isInt) (defBody s_isInt) (defScope s_isInt),
  fnW "is_number" "is_number" (defArgs s_isNum) (defBody s_isNum) (defScope s_isNum),
  fnW "is_table" "is_table" (defArgs s_isTab) (defBody s_isTab) (defScope s_isTab),
  fnW "all_kinds" "all_kinds" (defArgs s_allKinds) (defBody s_allKinds) (defScope s_allKinds),
  fnW "_is_entry" "_is_entry" (defArgs s_isEntry) (defBody s_isEntry) (defScope s_isEntry),
  fnW "_counted" "_counted" (defArgs s_counted) (defBody s_counted) (defScope s_counted),
  fnW "_law_pen" "_law_pen" (defArgs s_pen) (defBody s_pen) (defScope s_pen),
  fnW "_law_draw" "_law_draw" (defArgs s_draw) (defBody s_draw) (defScope s_draw),
  fnW "_law_pick" "_law_pick" (defArgs s_pick) (defBody s_pick) (defScope s_pick),
  fnW "_law_shuffled" "_law_shuffled" (defArgs s_shuf) (defBody s_shuf) (defScope s_shuf),
  fnW "_law_font" "_law_font" (defArgs s_font) (defBody s_font) (defScope s_font),
  fnW "_law_heads" "_law_heads" (defArgs s_heads) (defBody s_heads) (defScope s_heads),
  fnW "_law_kinds" "_law_kinds" (defArgs s_kinds) (defBody s_kinds) (defScope s_kinds)]
def fnL1 (K : PySem.W.Frag) : List FnV := [
  fnV K (v_fOr K),
  fnV K (v_fPl K),
  fnV K (v_fFl K),
  fnV K (v_fFm K),
  fnV K (v_fMa K),
  fnV K (v_fLw K),
  fnV K (v_fFu K),
  fnV K (v_fPr K),
  fnV K (v_fOf K),
  fnV K (v_fOc K),
  fnV K (v_fInC K),
  fnV K (v_fFe K),
  fnV K (v_fKm K),
  fnV K (v_fPs K),
  fnV K (v_fInCC K),
  fnV K (v_fXp K),
  fnV K (v_fXe K),
  fnV K (v_fInW K),
  fnV K (v_fWe K),
  fnV K (v_fPt K)]
def fnR1 : List FnV := [
  fnW "_law_ordered" "_law_ordered" (defArgs s_ordered) (defBody s_ordered) (defScope s_ordered),
  fnW "_law_plain" "_law_plain" (defArgs s_plain) (defBody s_plain) (defScope s_plain),
  fnW "_law_flipped" "_law_flipped" (defArgs s_flip) (defBody s_flip) (defScope s_flip),
  fnW "_law_font_made" "_law_font_made" (defArgs s_fmade) (defBody s_fmade) (defScope s_fmade),
  fnW "_law_made" "_law_made" (defArgs s_cmade) (defBody s_cmade) (defScope s_cmade),
  fnW "_law_wants" "_law_wants" (defArgs s_lwants) (defBody s_lwants) (defScope s_lwants),
  fnW "_law_full" "_law_full" (defArgs s_full) (defBody s_full) (defScope s_full),
  fnW "_law_pairs_right" "_law_pairs_right" (defArgs s_pairs) (defBody s_pairs) (defScope s_pairs),
  fnW "_law_other_fonts" "_law_other_fonts" (defArgs s_ofonts) (defBody s_ofonts) (defScope s_ofonts),
  fnW "_law_other_counts" "_law_other_counts" (defArgs s_ocounts) (defBody s_ocounts) (defScope s_ocounts),
  fnW "__init__" "Font.__init__" (defArgs s_init) (defBody s_init) (defScope s_init),
  fnW "__eq__" "Font.__eq__" (defArgs s_feq) (defBody s_feq) (defScope s_feq),
  fnW "kept" "Font.kept" (defArgs s_keptM) (defBody s_keptM) (defScope s_keptM),
  fnW "signs" "Font.signs" (defArgs (inCls s_cls 4)) (defBody (inCls s_cls 4)) (defScope (inCls s_cls 4)),
  fnW "__init__" "Case.__init__" (defArgs c_init) (defBody c_init) (defScope c_init),
  fnW "plates" "Case.plates" (defArgs (inCls c_cls 4)) (defBody (inCls c_cls 4)) (defScope (inCls c_cls 4)),
  fnW "__eq__" "Case.__eq__" (defArgs c_eq) (defBody c_eq) (defScope c_eq),
  fnW "__init__" "Wants.__init__" (defArgs w_init) (defBody w_init) (defScope w_init),
  fnW "__eq__" "Wants.__eq__" (defArgs w_eq) (defBody w_eq) (defScope w_eq),
  fnW "total" "Wants.total" (defArgs w_total) (defBody w_total) (defScope w_total)]
def fnL2 (K : PySem.W.Frag) : List FnV := [
  fnV K (v_fIK K),
  fnV K (v_fLa K)]
def fnR2 : List FnV := [
  fnW "__init__" "InvalidKind.__init__" (eArgs "value" ⟨34, 17, 34, 21⟩ ⟨34, 23, 34, 28⟩) (eBody "value" ⟨35, 8, 35, 12⟩ ⟨35, 8, 35, 18⟩ ⟨35, 21, 35, 26⟩ ⟨35, 8, 35, 26⟩) (eScope "value"),
  fnW "law" "law" (defArgs s_law) (defBody s_law) (defScope s_law)]
def fnLA (K : PySem.W.Frag) : List FnV := fnL0 K ++ fnL1 K ++ fnL2 K
def fnRA : List FnV := fnR0 ++ fnR1 ++ fnR2
def tabsA (K : PySem.W.Frag) : List Addr := []
def as0 : List Addr := [2, 3, 15, 17, 18, 20, 21, 22, 24, 25, 27, 28, 29, 30, 32, 33, 35, 36, 37, 39, 40, 42, 43, 44, 45]
def as1 : List Addr := [48, 49, 50, 53, 54, 55, 62, 64, 65, 67, 68, 69, 70, 71, 72, 75, 82, 84, 85, 87, 88, 89, 90, 91, 92]
def as2 : List Addr := [95, 102, 104, 105, 107, 108, 109, 110, 111, 112, 115, 122, 124, 125, 127, 128, 129, 130, 131, 132, 135, 142, 144, 145, 147]
def as3 : List Addr := [148, 149, 150, 151, 152, 155, 162, 164, 165, 167, 168, 169, 170, 171, 172, 175, 182, 184, 185, 187, 188, 189, 190, 191, 192]
def as4 : List Addr := [195, 202, 204, 205, 207, 208, 209, 210, 211, 212, 215, 222, 223, 224, 225, 228, 235, 237, 238, 240, 241, 242, 243, 244, 245]
def as5 : List Addr := [248, 255, 257, 258, 260, 261, 262, 263, 264, 265, 268, 275, 277, 278, 280, 281, 282, 283, 284, 285, 295, 296, 297, 299, 300]
def as6 : List Addr := [302, 303, 304, 306, 307, 309, 310, 311, 312, 313, 314, 317, 318, 319, 320, 321, 322, 324, 325, 327, 328, 329, 330, 332, 333]
def as7 : List Addr := [335, 336, 337, 338, 340, 341, 343, 344, 345, 347, 348, 350, 351, 352, 354, 355, 357, 358, 359, 361, 362, 364, 365, 366, 368]
def as8 : List Addr := [369, 371, 372, 373, 375, 376, 378, 379, 380, 381, 382, 383, 384, 387, 389, 390, 392, 393, 394, 396, 397, 399, 400, 401, 404]
def as9 : List Addr := [405, 406, 409, 410, 411, 414, 415, 416, 419, 420, 421, 424, 425, 426, 428, 429, 431, 432, 433, 436, 437, 445, 446, 447, 450]
def as10 : List Addr := [451, 452, 455, 456, 457, 458, 459, 460, 462, 463, 465, 466, 467, 468, 470, 471, 473, 474, 475, 476, 479, 480, 481, 482, 484]
def as11 : List Addr := [485, 487, 488, 489, 490, 493, 494, 495, 496, 498, 499, 501, 502, 503, 505, 506, 508, 509, 510, 512, 513, 515, 516, 517, 519]
def as12 : List Addr := [520, 522, 523, 524, 527, 528, 529, 532, 533, 534, 536, 537, 539, 540, 541, 542, 543, 544, 545, 548, 551, 552, 553, 555, 556]
def as13 : List Addr := [558, 559, 560, 562, 563, 565, 566, 567, 569, 570, 572, 573, 574, 577, 578, 579, 581, 582, 584, 585, 593, 596, 597, 598, 601]
def as14 : List Addr := [602, 603, 604, 605, 606, 608, 609, 611, 612, 613, 614, 615, 616, 618, 619, 621, 622, 623, 624, 627, 628, 629, 630, 633, 634]
def as15 : List Addr := [635, 636, 638, 639, 641, 642, 643, 645, 646, 648, 649, 650, 652, 653, 655, 656, 657, 659, 660, 662, 663, 664, 667, 668, 669]
def as16 : List Addr := [672, 673, 674, 676, 677, 679, 680, 681, 683, 684, 686, 687, 688, 689, 690, 691, 692, 695, 697, 698, 700, 701, 702, 704, 705]
def as17 : List Addr := [707, 708, 709, 711, 712, 714, 715, 716, 718, 719, 721, 722, 723, 725, 726, 728, 729, 730, 732, 733, 735, 736, 737, 740, 741]
def as18 : List Addr := [742, 745, 746, 747, 749, 750, 752, 753, 754, 756, 757, 759, 760, 761, 764, 765, 766, 769, 770, 771, 773, 774, 776, 777, 778]
def as19 : List Addr := [781, 782, 783, 785, 786, 788, 789, 790, 793, 794, 795, 798, 799, 800, 803, 804]
def asA : List Addr := as0 ++ (as1 ++ (as2 ++ (as3 ++ (as4 ++ (as5 ++ (as6 ++ (as7 ++ (as8 ++ (as9 ++ (as10 ++ (as11 ++ (as12 ++ (as13 ++ (as14 ++ (as15 ++ (as16 ++ (as17 ++ (as18 ++ (as19)))))))))))))))))))
def nam0 : List Str := ["_wall", "DIGITS", "GREATEST", "is_integer", "is_number", "is_listed", "is_table", "is_numeral", "InvalidFont", "InvalidTurns", "InvalidKind", "InvalidPlates", "InvalidWants", "InvalidRow", "InvalidNumber", "InvalidText", "OtherFont", "UnknownSign", "TooMany", "TooFew"]
def nam1 : List Str := ["ALPHABET", "BLANK", "Font", "is_font_signs", "is_sign", "is_set", "is_row", "is_kind", "kept_turns", "_is_pair", "check_fonts", "all_kinds", "Case", "_counted", "_is_entry", "_is_signs_line", "_read_turns", "_read_plates", "_is_plates_line", "Wants"]
def nam2 : List Str := ["_law_pen", "_law_draw", "_law_pick", "_law_shuffled", "_law_font", "_law_heads", "_law_kinds", "_law_ordered", "_law_plain", "_law_flipped", "_law_font_made", "_law_made", "_law_wants", "_law_full", "_law_pairs_right", "_law_other_fonts", "_law_other_counts"]
def namA : List Str := nam0 ++ (nam1 ++ (nam2))
abbrev hR : PySem.W.OpenRow := PySem.W.OpenLaw.row PySem.Challenge.rw_hymnplates_k11_whole_fonts_and_cases_equ
abbrev hV : Program := PySem.W.view hR.prog [63]
abbrev hH : PySem.W.Hook := hkX asA tabsA chkA fnLA fnRA
def hO (s : PySem.W.SharedT) : Bool × List FnV := obX asA tabsA chkA fnLA (HandSHeadRun.getT s)
theorem hO_eq (s : PySem.W.SharedT) : hO s = hH.obs s.abs := obX_eq s
theorem hrun (w : World) : HandSHeadRun.RunEq hR hV hH hO 20000 namA w := by
  intro os
  kernel_rfl
theorem facts_mk {l : PySem.W.OpenLaw} {w : World} {K : PySem.W.Frag} {h : Heap} {mg : Str → Option Value} {fa : Addr} (X : K.In h) (G : h.Ns mainGlobals mg) (hfa : mg "law" = some (.ref fa)) (S : SaysH tabsA chkA fnLA fnRA h K) :
    LawG l w K 13 63 "_law_script" mg fa h := by
  have c0 : chkA K = true := S.chk
  unfold chkA at c0
  obtain ⟨g0, c1⟩ := Bool.and_eq_true_iff.mp c0
  obtain ⟨g1, c2⟩ := Bool.and_eq_true_iff.mp c1
  obtain ⟨g2, c3⟩ := Bool.and_eq_true_iff.mp c2
  obtain ⟨g3, c4⟩ := Bool.and_eq_true_iff.mp c3
  obtain ⟨g4, c5⟩ := Bool.and_eq_true_iff.mp c4
  obtain ⟨g5, c6⟩ := Bool.and_eq_true_iff.mp c5
  obtain ⟨g6, c7⟩ := Bool.and_eq_true_iff.mp c6
  obtain ⟨g7, c8⟩ := Bool.and_eq_true_iff.mp c7
  obtain ⟨g8, c9⟩ := Bool.and_eq_true_iff.mp c8
  obtain ⟨g9, c10⟩ := Bool.and_eq_true_iff.mp c9
  obtain ⟨g10, c11⟩ := Bool.and_eq_true_iff.mp c10
  obtain ⟨g11, c12⟩ := Bool.and_eq_true_iff.mp c11
  obtain ⟨g12, c13⟩ := Bool.and_eq_true_iff.mp c12
  obtain ⟨g13, c14⟩ := Bool.and_eq_true_iff.mp c13
  obtain ⟨g14, c15⟩ := Bool.and_eq_true_iff.mp c14
  have g15 := c15
  unfold chk0 at g0
  obtain ⟨k_z_int, g0⟩ := Bool.and_eq_true_iff.mp g0
  obtain ⟨k_z_len, g0⟩ := Bool.and_eq_true_iff.mp g0
  obtain ⟨k_z_abs, g0⟩ := Bool.and_eq_true_iff.mp g0
  obtain ⟨k_z_list, g0⟩ := Bool.and_eq_true_iff.mp g0
  obtain ⟨k_z_tuple, g0⟩ := Bool.and_eq_true_iff.mp g0
  obtain ⟨k_z_str, g0⟩ := Bool.and_eq_true_iff.mp g0
  obtain ⟨k_z_set, g0⟩ := Bool.and_eq_true_iff.mp g0
  obtain ⟨k_z_all, g0⟩ := Bool.and_eq_true_iff.mp g0
  obtain ⟨k_z_isinstance, g0⟩ := Bool.and_eq_true_iff.mp g0
  obtain ⟨k_z_repr, g0⟩ := Bool.and_eq_true_iff.mp g0
  obtain ⟨k_z_range, g0⟩ := Bool.and_eq_true_iff.mp g0
  obtain ⟨k_z_bool, g0⟩ := Bool.and_eq_true_iff.mp g0
  obtain ⟨k_z_dict, g0⟩ := Bool.and_eq_true_iff.mp g0
  obtain ⟨k_z_sum, g0⟩ := Bool.and_eq_true_iff.mp g0
  obtain ⟨k_z_enumerate, g0⟩ := Bool.and_eq_true_iff.mp g0
  obtain ⟨k_aA, g0⟩ := Bool.and_eq_true_iff.mp g0
  obtain ⟨k_aB, g0⟩ := Bool.and_eq_true_iff.mp g0
  obtain ⟨k_aC, g0⟩ := Bool.and_eq_true_iff.mp g0
  obtain ⟨k_pgC, g0⟩ := Bool.and_eq_true_iff.mp g0
  have k_hdC := g0
  unfold chk1 at g1
  obtain ⟨k_poC, g1⟩ := Bool.and_eq_true_iff.mp g1
  obtain ⟨k_saC, g1⟩ := Bool.and_eq_true_iff.mp g1
  obtain ⟨k_nC_signs, g1⟩ := Bool.and_eq_true_iff.mp g1
  obtain ⟨k_nC_turns, g1⟩ := Bool.and_eq_true_iff.mp g1
  obtain ⟨k_rdC, g1⟩ := Bool.and_eq_true_iff.mp g1
  obtain ⟨k_gaC, g1⟩ := Bool.and_eq_true_iff.mp g1
  obtain ⟨k_caC, g1⟩ := Bool.and_eq_true_iff.mp g1
  obtain ⟨k_obG, g1⟩ := Bool.and_eq_true_iff.mp g1
  obtain ⟨k_obT, g1⟩ := Bool.and_eq_true_iff.mp g1
  obtain ⟨k_moC, g1⟩ := Bool.and_eq_true_iff.mp g1
  obtain ⟨k_mv, g1⟩ := Bool.and_eq_true_iff.mp g1
  obtain ⟨k_aCC, g1⟩ := Bool.and_eq_true_iff.mp g1
  obtain ⟨k_pgCC, g1⟩ := Bool.and_eq_true_iff.mp g1
  obtain ⟨k_hdCC, g1⟩ := Bool.and_eq_true_iff.mp g1
  obtain ⟨k_poCC, g1⟩ := Bool.and_eq_true_iff.mp g1
  obtain ⟨k_saCC, g1⟩ := Bool.and_eq_true_iff.mp g1
  obtain ⟨k_nCC_font, g1⟩ := Bool.and_eq_true_iff.mp g1
  obtain ⟨k_nCC_counts, g1⟩ := Bool.and_eq_true_iff.mp g1
  obtain ⟨k_nCC_plates, g1⟩ := Bool.and_eq_true_iff.mp g1
  have k_rdCC := g1
  unfold chk2 at g2
  obtain ⟨k_gaCC, g2⟩ := Bool.and_eq_true_iff.mp g2
  obtain ⟨k_caCC, g2⟩ := Bool.and_eq_true_iff.mp g2
  obtain ⟨k_moCC, g2⟩ := Bool.and_eq_true_iff.mp g2
  obtain ⟨k_mvQ, g2⟩ := Bool.and_eq_true_iff.mp g2
  obtain ⟨k_aW, g2⟩ := Bool.and_eq_true_iff.mp g2
  obtain ⟨k_pgW, g2⟩ := Bool.and_eq_true_iff.mp g2
  obtain ⟨k_hdW, g2⟩ := Bool.and_eq_true_iff.mp g2
  obtain ⟨k_poW, g2⟩ := Bool.and_eq_true_iff.mp g2
  obtain ⟨k_saW, g2⟩ := Bool.and_eq_true_iff.mp g2
  obtain ⟨k_nW_font, g2⟩ := Bool.and_eq_true_iff.mp g2
  obtain ⟨k_nW_counts, g2⟩ := Bool.and_eq_true_iff.mp g2
  obtain ⟨k_caW, g2⟩ := Bool.and_eq_true_iff.mp g2
  obtain ⟨k_moW, g2⟩ := Bool.and_eq_true_iff.mp g2
  obtain ⟨k_bC, g2⟩ := Bool.and_eq_true_iff.mp g2
  obtain ⟨k_yC, g2⟩ := Bool.and_eq_true_iff.mp g2
  obtain ⟨k_zC, g2⟩ := Bool.and_eq_true_iff.mp g2
  obtain ⟨k_mCNoneType, g2⟩ := Bool.and_eq_true_iff.mp g2
  obtain ⟨k_sCNoneType, g2⟩ := Bool.and_eq_true_iff.mp g2
  obtain ⟨k_mCstr, g2⟩ := Bool.and_eq_true_iff.mp g2
  have k_sCstr := g2
  unfold chk3 at g3
  obtain ⟨k_mCint, g3⟩ := Bool.and_eq_true_iff.mp g3
  obtain ⟨k_sCint, g3⟩ := Bool.and_eq_true_iff.mp g3
  obtain ⟨k_mCtuple, g3⟩ := Bool.and_eq_true_iff.mp g3
  obtain ⟨k_sCtuple, g3⟩ := Bool.and_eq_true_iff.mp g3
  obtain ⟨k_mCdict, g3⟩ := Bool.and_eq_true_iff.mp g3
  obtain ⟨k_sCdict, g3⟩ := Bool.and_eq_true_iff.mp g3
  obtain ⟨k_bCC, g3⟩ := Bool.and_eq_true_iff.mp g3
  obtain ⟨k_yCC, g3⟩ := Bool.and_eq_true_iff.mp g3
  obtain ⟨k_zCC, g3⟩ := Bool.and_eq_true_iff.mp g3
  obtain ⟨k_mCCNoneType, g3⟩ := Bool.and_eq_true_iff.mp g3
  obtain ⟨k_sCCNoneType, g3⟩ := Bool.and_eq_true_iff.mp g3
  obtain ⟨k_mCCstr, g3⟩ := Bool.and_eq_true_iff.mp g3
  obtain ⟨k_sCCstr, g3⟩ := Bool.and_eq_true_iff.mp g3
  obtain ⟨k_mCCint, g3⟩ := Bool.and_eq_true_iff.mp g3
  obtain ⟨k_sCCint, g3⟩ := Bool.and_eq_true_iff.mp g3
  obtain ⟨k_mCCtuple, g3⟩ := Bool.and_eq_true_iff.mp g3
  obtain ⟨k_sCCtuple, g3⟩ := Bool.and_eq_true_iff.mp g3
  obtain ⟨k_mCCdict, g3⟩ := Bool.and_eq_true_iff.mp g3
  obtain ⟨k_sCCdict, g3⟩ := Bool.and_eq_true_iff.mp g3
  have k_bW := g3
  unfold chk4 at g4
  obtain ⟨k_yW, g4⟩ := Bool.and_eq_true_iff.mp g4
  obtain ⟨k_zW, g4⟩ := Bool.and_eq_true_iff.mp g4
  obtain ⟨k_mWNoneType, g4⟩ := Bool.and_eq_true_iff.mp g4
  obtain ⟨k_sWNoneType, g4⟩ := Bool.and_eq_true_iff.mp g4
  obtain ⟨k_mWstr, g4⟩ := Bool.and_eq_true_iff.mp g4
  obtain ⟨k_sWstr, g4⟩ := Bool.and_eq_true_iff.mp g4
  obtain ⟨k_mWint, g4⟩ := Bool.and_eq_true_iff.mp g4
  obtain ⟨k_sWint, g4⟩ := Bool.and_eq_true_iff.mp g4
  obtain ⟨k_mWtuple, g4⟩ := Bool.and_eq_true_iff.mp g4
  obtain ⟨k_sWtuple, g4⟩ := Bool.and_eq_true_iff.mp g4
  obtain ⟨k_mWdict, g4⟩ := Bool.and_eq_true_iff.mp g4
  obtain ⟨k_sWdict, g4⟩ := Bool.and_eq_true_iff.mp g4
  obtain ⟨k_wCC_C, g4⟩ := Bool.and_eq_true_iff.mp g4
  obtain ⟨k_wC_CC, g4⟩ := Bool.and_eq_true_iff.mp g4
  obtain ⟨k_wC_W, g4⟩ := Bool.and_eq_true_iff.mp g4
  obtain ⟨k_wW_C, g4⟩ := Bool.and_eq_true_iff.mp g4
  obtain ⟨k_aLi, g4⟩ := Bool.and_eq_true_iff.mp g4
  obtain ⟨k_lLi_d, g4⟩ := Bool.and_eq_true_iff.mp g4
  obtain ⟨k_cLi, g4⟩ := Bool.and_eq_true_iff.mp g4
  have k_kLi := g4
  unfold chk5 at g5
  obtain ⟨k_aFs, g5⟩ := Bool.and_eq_true_iff.mp g5
  obtain ⟨k_lFs_d, g5⟩ := Bool.and_eq_true_iff.mp g5
  obtain ⟨k_cFs, g5⟩ := Bool.and_eq_true_iff.mp g5
  obtain ⟨k_kFs, g5⟩ := Bool.and_eq_true_iff.mp g5
  obtain ⟨k_aSi, g5⟩ := Bool.and_eq_true_iff.mp g5
  obtain ⟨k_lSi_d, g5⟩ := Bool.and_eq_true_iff.mp g5
  obtain ⟨k_cSi, g5⟩ := Bool.and_eq_true_iff.mp g5
  obtain ⟨k_kSi, g5⟩ := Bool.and_eq_true_iff.mp g5
  obtain ⟨k_aSe, g5⟩ := Bool.and_eq_true_iff.mp g5
  obtain ⟨k_lSe_d, g5⟩ := Bool.and_eq_true_iff.mp g5
  obtain ⟨k_cSe, g5⟩ := Bool.and_eq_true_iff.mp g5
  obtain ⟨k_kSe, g5⟩ := Bool.and_eq_true_iff.mp g5
  obtain ⟨k_aIk, g5⟩ := Bool.and_eq_true_iff.mp g5
  obtain ⟨k_lIk_d, g5⟩ := Bool.and_eq_true_iff.mp g5
  obtain ⟨k_cIk, g5⟩ := Bool.and_eq_true_iff.mp g5
  obtain ⟨k_kIk, g5⟩ := Bool.and_eq_true_iff.mp g5
  obtain ⟨k_aKt, g5⟩ := Bool.and_eq_true_iff.mp g5
  obtain ⟨k_lKt_d, g5⟩ := Bool.and_eq_true_iff.mp g5
  obtain ⟨k_cKt, g5⟩ := Bool.and_eq_true_iff.mp g5
  have k_kKt := g5
  unfold chk6 at g6
  obtain ⟨k_aPa, g6⟩ := Bool.and_eq_true_iff.mp g6
  obtain ⟨k_lPa_d, g6⟩ := Bool.and_eq_true_iff.mp g6
  obtain ⟨k_cPa, g6⟩ := Bool.and_eq_true_iff.mp g6
  obtain ⟨k_kPa, g6⟩ := Bool.and_eq_true_iff.mp g6
  obtain ⟨k_aIt, g6⟩ := Bool.and_eq_true_iff.mp g6
  obtain ⟨k_lIt_d, g6⟩ := Bool.and_eq_true_iff.mp g6
  obtain ⟨k_cIt, g6⟩ := Bool.and_eq_true_iff.mp g6
  obtain ⟨k_kIt, g6⟩ := Bool.and_eq_true_iff.mp g6
  obtain ⟨k_aNu, g6⟩ := Bool.and_eq_true_iff.mp g6
  obtain ⟨k_lNu_d, g6⟩ := Bool.and_eq_true_iff.mp g6
  obtain ⟨k_dNu, g6⟩ := Bool.and_eq_true_iff.mp g6
  obtain ⟨k_cNu, g6⟩ := Bool.and_eq_true_iff.mp g6
  obtain ⟨k_kNu, g6⟩ := Bool.and_eq_true_iff.mp g6
  obtain ⟨k_aTa, g6⟩ := Bool.and_eq_true_iff.mp g6
  obtain ⟨k_lTa_d, g6⟩ := Bool.and_eq_true_iff.mp g6
  obtain ⟨k_dTa, g6⟩ := Bool.and_eq_true_iff.mp g6
  obtain ⟨k_cTa, g6⟩ := Bool.and_eq_true_iff.mp g6
  obtain ⟨k_kTa, g6⟩ := Bool.and_eq_true_iff.mp g6
  obtain ⟨k_aAk, g6⟩ := Bool.and_eq_true_iff.mp g6
  have k_lAk_d := g6
  unfold chk7 at g7
  obtain ⟨k_cAk, g7⟩ := Bool.and_eq_true_iff.mp g7
  obtain ⟨k_kAk, g7⟩ := Bool.and_eq_true_iff.mp g7
  obtain ⟨k_aEn, g7⟩ := Bool.and_eq_true_iff.mp g7
  obtain ⟨k_lEn_d, g7⟩ := Bool.and_eq_true_iff.mp g7
  obtain ⟨k_cEn, g7⟩ := Bool.and_eq_true_iff.mp g7
  obtain ⟨k_kEn, g7⟩ := Bool.and_eq_true_iff.mp g7
  obtain ⟨k_aCo, g7⟩ := Bool.and_eq_true_iff.mp g7
  obtain ⟨k_lCo_d, g7⟩ := Bool.and_eq_true_iff.mp g7
  obtain ⟨k_cCo, g7⟩ := Bool.and_eq_true_iff.mp g7
  obtain ⟨k_kCo, g7⟩ := Bool.and_eq_true_iff.mp g7
  obtain ⟨k_aPe, g7⟩ := Bool.and_eq_true_iff.mp g7
  obtain ⟨k_lPe_d, g7⟩ := Bool.and_eq_true_iff.mp g7
  obtain ⟨k_cPe, g7⟩ := Bool.and_eq_true_iff.mp g7
  obtain ⟨k_kPe, g7⟩ := Bool.and_eq_true_iff.mp g7
  obtain ⟨k_aDr, g7⟩ := Bool.and_eq_true_iff.mp g7
  obtain ⟨k_lDr_d, g7⟩ := Bool.and_eq_true_iff.mp g7
  obtain ⟨k_cDr, g7⟩ := Bool.and_eq_true_iff.mp g7
  obtain ⟨k_kDr, g7⟩ := Bool.and_eq_true_iff.mp g7
  obtain ⟨k_aPi, g7⟩ := Bool.and_eq_true_iff.mp g7
  have k_lPi_d := g7
  unfold chk8 at g8
  obtain ⟨k_cPi, g8⟩ := Bool.and_eq_true_iff.mp g8
  obtain ⟨k_kPi, g8⟩ := Bool.and_eq_true_iff.mp g8
  obtain ⟨k_aSh, g8⟩ := Bool.and_eq_true_iff.mp g8
  obtain ⟨k_lSh_d, g8⟩ := Bool.and_eq_true_iff.mp g8
  obtain ⟨k_cSh, g8⟩ := Bool.and_eq_true_iff.mp g8
  obtain ⟨k_kSh, g8⟩ := Bool.and_eq_true_iff.mp g8
  obtain ⟨k_aFo, g8⟩ := Bool.and_eq_true_iff.mp g8
  obtain ⟨k_lFo_d, g8⟩ := Bool.and_eq_true_iff.mp g8
  obtain ⟨k_cFo, g8⟩ := Bool.and_eq_true_iff.mp g8
  obtain ⟨k_kFo, g8⟩ := Bool.and_eq_true_iff.mp g8
  obtain ⟨k_aHe, g8⟩ := Bool.and_eq_true_iff.mp g8
  obtain ⟨k_lHe_d, g8⟩ := Bool.and_eq_true_iff.mp g8
  obtain ⟨k_cHe, g8⟩ := Bool.and_eq_true_iff.mp g8
  obtain ⟨k_kHe, g8⟩ := Bool.and_eq_true_iff.mp g8
  obtain ⟨k_aKs, g8⟩ := Bool.and_eq_true_iff.mp g8
  obtain ⟨k_lKs_d, g8⟩ := Bool.and_eq_true_iff.mp g8
  obtain ⟨k_cKs, g8⟩ := Bool.and_eq_true_iff.mp g8
  obtain ⟨k_kKs, g8⟩ := Bool.and_eq_true_iff.mp g8
  obtain ⟨k_aOr, g8⟩ := Bool.and_eq_true_iff.mp g8
  have k_lOr_d := g8
  unfold chk9 at g9
  obtain ⟨k_cOr, g9⟩ := Bool.and_eq_true_iff.mp g9
  obtain ⟨k_kOr, g9⟩ := Bool.and_eq_true_iff.mp g9
  obtain ⟨k_aPl, g9⟩ := Bool.and_eq_true_iff.mp g9
  obtain ⟨k_lPl_d, g9⟩ := Bool.and_eq_true_iff.mp g9
  obtain ⟨k_cPl, g9⟩ := Bool.and_eq_true_iff.mp g9
  obtain ⟨k_kPl, g9⟩ := Bool.and_eq_true_iff.mp g9
  obtain ⟨k_aFl, g9⟩ := Bool.and_eq_true_iff.mp g9
  obtain ⟨k_lFl_d, g9⟩ := Bool.and_eq_true_iff.mp g9
  obtain ⟨k_cFl, g9⟩ := Bool.and_eq_true_iff.mp g9
  obtain ⟨k_kFl, g9⟩ := Bool.and_eq_true_iff.mp g9
  obtain ⟨k_aFm, g9⟩ := Bool.and_eq_true_iff.mp g9
  obtain ⟨k_lFm_d, g9⟩ := Bool.and_eq_true_iff.mp g9
  obtain ⟨k_cFm, g9⟩ := Bool.and_eq_true_iff.mp g9
  obtain ⟨k_kFm, g9⟩ := Bool.and_eq_true_iff.mp g9
  obtain ⟨k_aMa, g9⟩ := Bool.and_eq_true_iff.mp g9
  obtain ⟨k_lMa_d, g9⟩ := Bool.and_eq_true_iff.mp g9
  obtain ⟨k_cMa, g9⟩ := Bool.and_eq_true_iff.mp g9
  obtain ⟨k_kMa, g9⟩ := Bool.and_eq_true_iff.mp g9
  obtain ⟨k_aLw, g9⟩ := Bool.and_eq_true_iff.mp g9
  have k_lLw_d := g9
  unfold chk10 at g10
  obtain ⟨k_cLw, g10⟩ := Bool.and_eq_true_iff.mp g10
  obtain ⟨k_kLw, g10⟩ := Bool.and_eq_true_iff.mp g10
  obtain ⟨k_aFu, g10⟩ := Bool.and_eq_true_iff.mp g10
  obtain ⟨k_lFu_d, g10⟩ := Bool.and_eq_true_iff.mp g10
  obtain ⟨k_cFu, g10⟩ := Bool.and_eq_true_iff.mp g10
  obtain ⟨k_kFu, g10⟩ := Bool.and_eq_true_iff.mp g10
  obtain ⟨k_aPr, g10⟩ := Bool.and_eq_true_iff.mp g10
  obtain ⟨k_lPr_d, g10⟩ := Bool.and_eq_true_iff.mp g10
  obtain ⟨k_cPr, g10⟩ := Bool.and_eq_true_iff.mp g10
  obtain ⟨k_kPr, g10⟩ := Bool.and_eq_true_iff.mp g10
  obtain ⟨k_aOf, g10⟩ := Bool.and_eq_true_iff.mp g10
  obtain ⟨k_lOf_d, g10⟩ := Bool.and_eq_true_iff.mp g10
  obtain ⟨k_cOf, g10⟩ := Bool.and_eq_true_iff.mp g10
  obtain ⟨k_kOf, g10⟩ := Bool.and_eq_true_iff.mp g10
  obtain ⟨k_aOc, g10⟩ := Bool.and_eq_true_iff.mp g10
  obtain ⟨k_lOc_d, g10⟩ := Bool.and_eq_true_iff.mp g10
  obtain ⟨k_cOc, g10⟩ := Bool.and_eq_true_iff.mp g10
  obtain ⟨k_kOc, g10⟩ := Bool.and_eq_true_iff.mp g10
  obtain ⟨k_aInC, g10⟩ := Bool.and_eq_true_iff.mp g10
  have k_iInC := g10
  unfold chk11 at g11
  obtain ⟨k_lInC_d, g11⟩ := Bool.and_eq_true_iff.mp g11
  obtain ⟨k_dInC, g11⟩ := Bool.and_eq_true_iff.mp g11
  obtain ⟨k_eInC0, g11⟩ := Bool.and_eq_true_iff.mp g11
  obtain ⟨k_eInC0_t, g11⟩ := Bool.and_eq_true_iff.mp g11
  obtain ⟨k_cInC, g11⟩ := Bool.and_eq_true_iff.mp g11
  obtain ⟨k_kInC, g11⟩ := Bool.and_eq_true_iff.mp g11
  obtain ⟨k_mkC, g11⟩ := Bool.and_eq_true_iff.mp g11
  obtain ⟨k_kCC, g11⟩ := Bool.and_eq_true_iff.mp g11
  obtain ⟨k_aFe, g11⟩ := Bool.and_eq_true_iff.mp g11
  obtain ⟨k_iFe, g11⟩ := Bool.and_eq_true_iff.mp g11
  obtain ⟨k_lFe_d, g11⟩ := Bool.and_eq_true_iff.mp g11
  obtain ⟨k_cFe, g11⟩ := Bool.and_eq_true_iff.mp g11
  obtain ⟨k_kFe, g11⟩ := Bool.and_eq_true_iff.mp g11
  obtain ⟨k_neC, g11⟩ := Bool.and_eq_true_iff.mp g11
  obtain ⟨k_aKm, g11⟩ := Bool.and_eq_true_iff.mp g11
  obtain ⟨k_iKm, g11⟩ := Bool.and_eq_true_iff.mp g11
  obtain ⟨k_lKm_d, g11⟩ := Bool.and_eq_true_iff.mp g11
  obtain ⟨k_cKm, g11⟩ := Bool.and_eq_true_iff.mp g11
  obtain ⟨k_kKm, g11⟩ := Bool.and_eq_true_iff.mp g11
  have k_aPs := g11
  unfold chk12 at g12
  obtain ⟨k_gPs, g12⟩ := Bool.and_eq_true_iff.mp g12
  obtain ⟨k_tPs, g12⟩ := Bool.and_eq_true_iff.mp g12
  obtain ⟨k_rPs, g12⟩ := Bool.and_eq_true_iff.mp g12
  obtain ⟨k_lPs_d, g12⟩ := Bool.and_eq_true_iff.mp g12
  obtain ⟨k_cPs, g12⟩ := Bool.and_eq_true_iff.mp g12
  obtain ⟨k_aInCC, g12⟩ := Bool.and_eq_true_iff.mp g12
  obtain ⟨k_iInCC, g12⟩ := Bool.and_eq_true_iff.mp g12
  obtain ⟨k_lInCC_d, g12⟩ := Bool.and_eq_true_iff.mp g12
  obtain ⟨k_dInCC, g12⟩ := Bool.and_eq_true_iff.mp g12
  obtain ⟨k_eInCC0, g12⟩ := Bool.and_eq_true_iff.mp g12
  obtain ⟨k_eInCC0_t, g12⟩ := Bool.and_eq_true_iff.mp g12
  obtain ⟨k_cInCC, g12⟩ := Bool.and_eq_true_iff.mp g12
  obtain ⟨k_kInCC, g12⟩ := Bool.and_eq_true_iff.mp g12
  obtain ⟨k_mkCC, g12⟩ := Bool.and_eq_true_iff.mp g12
  obtain ⟨k_kCCC, g12⟩ := Bool.and_eq_true_iff.mp g12
  obtain ⟨k_aXp, g12⟩ := Bool.and_eq_true_iff.mp g12
  obtain ⟨k_gXp, g12⟩ := Bool.and_eq_true_iff.mp g12
  obtain ⟨k_tXp, g12⟩ := Bool.and_eq_true_iff.mp g12
  obtain ⟨k_rXp, g12⟩ := Bool.and_eq_true_iff.mp g12
  have k_lXp_d := g12
  unfold chk13 at g13
  obtain ⟨k_cXp, g13⟩ := Bool.and_eq_true_iff.mp g13
  obtain ⟨k_aXe, g13⟩ := Bool.and_eq_true_iff.mp g13
  obtain ⟨k_iXe, g13⟩ := Bool.and_eq_true_iff.mp g13
  obtain ⟨k_lXe_d, g13⟩ := Bool.and_eq_true_iff.mp g13
  obtain ⟨k_cXe, g13⟩ := Bool.and_eq_true_iff.mp g13
  obtain ⟨k_kXe, g13⟩ := Bool.and_eq_true_iff.mp g13
  obtain ⟨k_neCC, g13⟩ := Bool.and_eq_true_iff.mp g13
  obtain ⟨k_aInW, g13⟩ := Bool.and_eq_true_iff.mp g13
  obtain ⟨k_iInW, g13⟩ := Bool.and_eq_true_iff.mp g13
  obtain ⟨k_lInW_d, g13⟩ := Bool.and_eq_true_iff.mp g13
  obtain ⟨k_cInW, g13⟩ := Bool.and_eq_true_iff.mp g13
  obtain ⟨k_kInW, g13⟩ := Bool.and_eq_true_iff.mp g13
  obtain ⟨k_mkW, g13⟩ := Bool.and_eq_true_iff.mp g13
  obtain ⟨k_kCW, g13⟩ := Bool.and_eq_true_iff.mp g13
  obtain ⟨k_aWe, g13⟩ := Bool.and_eq_true_iff.mp g13
  obtain ⟨k_iWe, g13⟩ := Bool.and_eq_true_iff.mp g13
  obtain ⟨k_lWe_d, g13⟩ := Bool.and_eq_true_iff.mp g13
  obtain ⟨k_cWe, g13⟩ := Bool.and_eq_true_iff.mp g13
  obtain ⟨k_kWe, g13⟩ := Bool.and_eq_true_iff.mp g13
  have k_neW := g13
  unfold chk14 at g14
  obtain ⟨k_aPt, g14⟩ := Bool.and_eq_true_iff.mp g14
  obtain ⟨k_gPt, g14⟩ := Bool.and_eq_true_iff.mp g14
  obtain ⟨k_tPt, g14⟩ := Bool.and_eq_true_iff.mp g14
  obtain ⟨k_rPt, g14⟩ := Bool.and_eq_true_iff.mp g14
  obtain ⟨k_lPt_d, g14⟩ := Bool.and_eq_true_iff.mp g14
  obtain ⟨k_cPt, g14⟩ := Bool.and_eq_true_iff.mp g14
  obtain ⟨k_kPt, g14⟩ := Bool.and_eq_true_iff.mp g14
  obtain ⟨k_aIK, g14⟩ := Bool.and_eq_true_iff.mp g14
  obtain ⟨k_xIK, g14⟩ := Bool.and_eq_true_iff.mp g14
  obtain ⟨k_sIK, g14⟩ := Bool.and_eq_true_iff.mp g14
  obtain ⟨k_gIK, g14⟩ := Bool.and_eq_true_iff.mp g14
  obtain ⟨k_hIK, g14⟩ := Bool.and_eq_true_iff.mp g14
  obtain ⟨k_nIK, g14⟩ := Bool.and_eq_true_iff.mp g14
  obtain ⟨k_iIK, g14⟩ := Bool.and_eq_true_iff.mp g14
  obtain ⟨k_tIK, g14⟩ := Bool.and_eq_true_iff.mp g14
  obtain ⟨k_lIK_d, g14⟩ := Bool.and_eq_true_iff.mp g14
  obtain ⟨k_lIK_k, g14⟩ := Bool.and_eq_true_iff.mp g14
  obtain ⟨k_cIK, g14⟩ := Bool.and_eq_true_iff.mp g14
  obtain ⟨k_kIK, g14⟩ := Bool.and_eq_true_iff.mp g14
  have k_eIK := g14
  unfold chk15 at g15
  obtain ⟨k_yIK, g15⟩ := Bool.and_eq_true_iff.mp g15
  obtain ⟨k_dIK, g15⟩ := Bool.and_eq_true_iff.mp g15
  obtain ⟨k_bIK, g15⟩ := Bool.and_eq_true_iff.mp g15
  obtain ⟨k_zIK, g15⟩ := Bool.and_eq_true_iff.mp g15
  obtain ⟨k_aLa, g15⟩ := Bool.and_eq_true_iff.mp g15
  obtain ⟨k_lLa_d, g15⟩ := Bool.and_eq_true_iff.mp g15
  obtain ⟨k_lLa_c, g15⟩ := Bool.and_eq_true_iff.mp g15
  have k_cLa := g15
  have e0 : fnLA K = fnRA := S.fn
  have e1 : ([fnV K (v_fLi K),
    fnV K (v_fFs K),
    fnV K (v_fSi K),
    fnV K (v_fSe K),
    fnV K (v_fIk K),
    fnV K (v_fKt K),
    fnV K (v_fPa K),
    fnV K (v_fIt K),
    fnV K (v_fNu K),
    fnV K (v_fTa K),
    fnV K (v_fAk K),
    fnV K (v_fEn K),
    fnV K (v_fCo K),
    fnV K (v_fPe K),
    fnV K (v_fDr K),
    fnV K (v_fPi K),
    fnV K (v_fSh K),
    fnV K (v_fFo K),
    fnV K (v_fHe K),
    fnV K (v_fKs K),
    fnV K (v_fOr K),
    fnV K (v_fPl K),
    fnV K (v_fFl K),
    fnV K (v_fFm K),
    fnV K (v_fMa K),
    fnV K (v_fLw K),
    fnV K (v_fFu K),
    fnV K (v_fPr K),
    fnV K (v_fOf K),
    fnV K (v_fOc K),
    fnV K (v_fInC K),
    fnV K (v_fFe K),
    fnV K (v_fKm K),
    fnV K (v_fPs K),
    fnV K (v_fInCC K),
    fnV K (v_fXp K),
    fnV K (v_fXe K),
    fnV K (v_fInW K),
    fnV K (v_fWe K),
    fnV K (v_fPt K),
    fnV K (v_fIK K),
    fnV K (v_fLa K)] : List FnV) = [fnW "is_listed" "is_listed" (defArgs s_isListed) (defBody s_isListed) (defScope s_isListed),
    fnW "is_font_signs" "is_font_signs" (defArgs s_isFont) (defBody s_isFont) (defScope s_isFont),
    fnW "is_sign" "is_sign" (defArgs s_isSign) (defBody s_isSign) (defScope s_isSign),
    fnW "is_set" "is_set" (defArgs s_isSet) (defBody s_isSet) (defScope s_isSet),
    fnW "is_kind" "is_kind" (defArgs s_isKind) (defBody s_isKind) (defScope s_isKind),
    fnW "kept_turns" "kept_turns" (defArgs s_kept) (defBody s_kept) (defScope s_kept),
    fnW "_is_pair" "_is_pair" (defArgs s_isPair) (defBody s_isPair) (defScope s_isPair),
    fnW "is_integer" "is_integer" (defArgs s_isInt) (defBody s_isInt) (defScope s_isInt),
    fnW "is_number" "is_number" (defArgs s_isNum) (defBody s_isNum) (defScope s_isNum),
    fnW "is_table" "is_table" (defArgs s_isTab) (defBody s_isTab) (defScope s_isTab),
    fnW "all_kinds" "all_kinds" (defArgs s_allKinds) (defBody s_allKinds) (defScope s_allKinds),
    fnW "_is_entry" "_is_entry" (defArgs s_isEntry) (defBody s_isEntry) (defScope s_isEntry),
    fnW "_counted" "_counted" (defArgs s_counted) (defBody s_counted) (defScope s_counted),
    fnW "_law_pen" "_law_pen" (defArgs s_pen) (defBody s_pen) (defScope s_pen),
    fnW "_law_draw" "_law_draw" (defArgs s_draw) (defBody s_draw) (defScope s_draw),
    fnW "_law_pick" "_law_pick" (defArgs s_pick) (defBody s_pick) (defScope s_pick),
    fnW "_law_shuffled" "_law_shuffled" (defArgs s_shuf) (defBody s_shuf) (defScope s_shuf),
    fnW "_law_font" "_law_font" (defArgs s_font) (defBody s_font) (defScope s_font),
    fnW "_law_heads" "_law_heads" (defArgs s_heads) (defBody s_heads) (defScope s_heads),
    fnW "_law_kinds" "_law_kinds" (defArgs s_kinds) (defBody s_kinds) (defScope s_kinds),
    fnW "_law_ordered" "_law_ordered" (defArgs s_ordered) (defBody s_ordered) (defScope s_ordered),
    fnW "_law_plain" "_law_plain" (defArgs s_plain) (defBody s_plain) (defScope s_plain),
    fnW "_law_flipped" "_law_flipped" (defArgs s_flip) (defBody s_flip) (defScope s_flip),
    fnW "_law_font_made" "_law_font_made" (defArgs s_fmade) (defBody s_fmade) (defScope s_fmade),
    fnW "_law_made" "_law_made" (defArgs s_cmade) (defBody s_cmade) (defScope s_cmade),
    fnW "_law_wants" "_law_wants" (defArgs s_lwants) (defBody s_lwants) (defScope s_lwants),
    fnW "_law_full" "_law_full" (defArgs s_full) (defBody s_full) (defScope s_full),
    fnW "_law_pairs_right" "_law_pairs_right" (defArgs s_pairs) (defBody s_pairs) (defScope s_pairs),
    fnW "_law_other_fonts" "_law_other_fonts" (defArgs s_ofonts) (defBody s_ofonts) (defScope s_ofonts),
    fnW "_law_other_counts" "_law_other_counts" (defArgs s_ocounts) (defBody s_ocounts) (defScope s_ocounts),
    fnW "__init__" "Font.__init__" (defArgs s_init) (defBody s_init) (defScope s_init),
    fnW "__eq__" "Font.__eq__" (defArgs s_feq) (defBody s_feq) (defScope s_feq),
    fnW "kept" "Font.kept" (defArgs s_keptM) (defBody s_keptM) (defScope s_keptM),
    fnW "signs" "Font.signs" (defArgs (inCls s_cls 4)) (defBody (inCls s_cls 4)) (defScope (inCls s_cls 4)),
    fnW "__init__" "Case.__init__" (defArgs c_init) (defBody c_init) (defScope c_init),
    fnW "plates" "Case.plates" (defArgs (inCls c_cls 4)) (defBody (inCls c_cls 4)) (defScope (inCls c_cls 4)),
    fnW "__eq__" "Case.__eq__" (defArgs c_eq) (defBody c_eq) (defScope c_eq),
    fnW "__init__" "Wants.__init__" (defArgs w_init) (defBody w_init) (defScope w_init),
    fnW "__eq__" "Wants.__eq__" (defArgs w_eq) (defBody w_eq) (defScope w_eq),
    fnW "total" "Wants.total" (defArgs w_total) (defBody w_total) (defScope w_total),
    fnW "__init__" "InvalidKind.__init__" (eArgs "value" ⟨34, 17, 34, 21⟩ ⟨34, 23, 34, 28⟩) (eBody "value" ⟨35, 8, 35, 12⟩ ⟨35, 8, 35, 18⟩ ⟨35, 21, 35, 26⟩ ⟨35, 8, 35, 26⟩) (eScope "value"),
    fnW "law" "law" (defArgs s_law) (defBody s_law) (defScope s_law)] := e0
  clear e0
  obtain ⟨n_lLi, e1⟩ := List.cons.inj e1
  obtain ⟨n_lFs, e1⟩ := List.cons.inj e1
  obtain ⟨n_lSi, e1⟩ := List.cons.inj e1
  obtain ⟨n_lSe, e1⟩ := List.cons.inj e1
  obtain ⟨n_lIk, e1⟩ := List.cons.inj e1
  obtain ⟨n_lKt, e1⟩ := List.cons.inj e1
  obtain ⟨n_lPa, e1⟩ := List.cons.inj e1
  obtain ⟨n_lIt, e1⟩ := List.cons.inj e1
  obtain ⟨n_lNu, e1⟩ := List.cons.inj e1
  obtain ⟨n_lTa, e1⟩ := List.cons.inj e1
  obtain ⟨n_lAk, e1⟩ := List.cons.inj e1
  obtain ⟨n_lEn, e1⟩ := List.cons.inj e1
  obtain ⟨n_lCo, e1⟩ := List.cons.inj e1
  obtain ⟨n_lPe, e1⟩ := List.cons.inj e1
  obtain ⟨n_lDr, e1⟩ := List.cons.inj e1
  obtain ⟨n_lPi, e1⟩ := List.cons.inj e1
  obtain ⟨n_lSh, e1⟩ := List.cons.inj e1
  obtain ⟨n_lFo, e1⟩ := List.cons.inj e1
  obtain ⟨n_lHe, e1⟩ := List.cons.inj e1
  obtain ⟨n_lKs, e1⟩ := List.cons.inj e1
  obtain ⟨n_lOr, e1⟩ := List.cons.inj e1
  obtain ⟨n_lPl, e1⟩ := List.cons.inj e1
  obtain ⟨n_lFl, e1⟩ := List.cons.inj e1
  obtain ⟨n_lFm, e1⟩ := List.cons.inj e1
  obtain ⟨n_lMa, e1⟩ := List.cons.inj e1
  obtain ⟨n_lLw, e1⟩ := List.cons.inj e1
  obtain ⟨n_lFu, e1⟩ := List.cons.inj e1
  obtain ⟨n_lPr, e1⟩ := List.cons.inj e1
  obtain ⟨n_lOf, e1⟩ := List.cons.inj e1
  obtain ⟨n_lOc, e1⟩ := List.cons.inj e1
  obtain ⟨n_lInC, e1⟩ := List.cons.inj e1
  obtain ⟨n_lFe, e1⟩ := List.cons.inj e1
  obtain ⟨n_lKm, e1⟩ := List.cons.inj e1
  obtain ⟨n_lPs, e1⟩ := List.cons.inj e1
  obtain ⟨n_lInCC, e1⟩ := List.cons.inj e1
  obtain ⟨n_lXp, e1⟩ := List.cons.inj e1
  obtain ⟨n_lXe, e1⟩ := List.cons.inj e1
  obtain ⟨n_lInW, e1⟩ := List.cons.inj e1
  obtain ⟨n_lWe, e1⟩ := List.cons.inj e1
  obtain ⟨n_lPt, e1⟩ := List.cons.inj e1
  obtain ⟨n_lIK, e1⟩ := List.cons.inj e1
  obtain ⟨n_lLa, e1⟩ := List.cons.inj e1
  clear e1
  have z_int : PySem.W.nsIn K mainGlobals "int" = some none := of_decide_eq_true k_z_int
  have z_len : PySem.W.nsIn K mainGlobals "len" = some none := of_decide_eq_true k_z_len
  have z_abs : PySem.W.nsIn K mainGlobals "abs" = some none := of_decide_eq_true k_z_abs
  have z_list : PySem.W.nsIn K mainGlobals "list" = some none := of_decide_eq_true k_z_list
  have z_tuple : PySem.W.nsIn K mainGlobals "tuple" = some none := of_decide_eq_true k_z_tuple
  have z_str : PySem.W.nsIn K mainGlobals "str" = some none := of_decide_eq_true k_z_str
  have z_set : PySem.W.nsIn K mainGlobals "set" = some none := of_decide_eq_true k_z_set
  have z_all : PySem.W.nsIn K mainGlobals "all" = some none := of_decide_eq_true k_z_all
  have z_isinstance : PySem.W.nsIn K mainGlobals "isinstance" = some none := of_decide_eq_true k_z_isinstance
  have z_repr : PySem.W.nsIn K mainGlobals "repr" = some none := of_decide_eq_true k_z_repr
  have z_range : PySem.W.nsIn K mainGlobals "range" = some none := of_decide_eq_true k_z_range
  have z_bool : PySem.W.nsIn K mainGlobals "bool" = some none := of_decide_eq_true k_z_bool
  have z_dict : PySem.W.nsIn K mainGlobals "dict" = some none := of_decide_eq_true k_z_dict
  have z_sum : PySem.W.nsIn K mainGlobals "sum" = some none := of_decide_eq_true k_z_sum
  have z_enumerate : PySem.W.nsIn K mainGlobals "enumerate" = some none := of_decide_eq_true k_z_enumerate
  obtain ⟨tA, aA⟩ := look_str (x := "ALPHABET") k_aA
  obtain ⟨tB, aB⟩ := look_str (x := "BLANK") k_aB
  have aC : PySem.W.nsIn K mainGlobals "Font" = some (some (.ref (v_C K))) := of_decide_eq_true k_aC
  have pgC : PySem.W.plainGet K (v_C K) Str.empty = true := k_pgC
  have hdC : PySem.W.hasDictIn K (v_C K) = true := k_hdC
  have poC : PySem.W.plainOver K (v_C K) = true := k_poC
  have saC : PySem.W.findIn K (.ref (v_C K)) "__setattr__" = some (some (.builtin "object.__setattr__")) := of_decide_eq_true k_saC
  have nC_signs : PySem.W.findIn K (.ref (v_C K)) "_signs" = some none := of_decide_eq_true k_nC_signs
  have nC_turns : PySem.W.findIn K (.ref (v_C K)) "_turns" = some none := of_decide_eq_true k_nC_turns
  have rdC : PySem.W.readsIn K (v_C K) (.type "type") = true := k_rdC
  have gaC : PySem.W.specialIn K (.ref (v_C K)) "__getattribute__" = some (some (.builtin "type.__getattribute__")) := of_decide_eq_true k_gaC
  have caC : PySem.W.findIn K (.ref (v_C K)) "__class__" = some (some (.builtin "object.__class__")) := of_decide_eq_true k_caC
  have obG : PySem.W.specialIn K (.builtin "object.__class__") "__get__" = some (some (.builtin "getset_descriptor.__get__")) := of_decide_eq_true k_obG
  have obT : PySem.W.takesIn K (.builtin "object.__class__") = some true := of_decide_eq_true k_obT
  have moC : PySem.W.mroIn K (v_C K) (.type "object") = some true := of_decide_eq_true k_moC
  obtain ⟨tm, mv⟩ := look_val k_mv
  have aCC : PySem.W.nsIn K mainGlobals "Case" = some (some (.ref (v_CC K))) := of_decide_eq_true k_aCC
  have pgCC : PySem.W.plainGet K (v_CC K) Str.empty = true := k_pgCC
  have hdCC : PySem.W.hasDictIn K (v_CC K) = true := k_hdCC
  have poCC : PySem.W.plainOver K (v_CC K) = true := k_poCC
  have saCC : PySem.W.findIn K (.ref (v_CC K)) "__setattr__" = some (some (.builtin "object.__setattr__")) := of_decide_eq_true k_saCC
  have nCC_font : PySem.W.findIn K (.ref (v_CC K)) "_font" = some none := of_decide_eq_true k_nCC_font
  have nCC_counts : PySem.W.findIn K (.ref (v_CC K)) "_counts" = some none := of_decide_eq_true k_nCC_counts
  have nCC_plates : PySem.W.findIn K (.ref (v_CC K)) "_plates" = some none := of_decide_eq_true k_nCC_plates
  have rdCC : PySem.W.readsIn K (v_CC K) (.type "type") = true := k_rdCC
  have gaCC : PySem.W.specialIn K (.ref (v_CC K)) "__getattribute__" = some (some (.builtin "type.__getattribute__")) := of_decide_eq_true k_gaCC
  have caCC : PySem.W.findIn K (.ref (v_CC K)) "__class__" = some (some (.builtin "object.__class__")) := of_decide_eq_true k_caCC
  have moCC : PySem.W.mroIn K (v_CC K) (.type "object") = some true := of_decide_eq_true k_moCC
  obtain ⟨tq, mvQ⟩ := look_val k_mvQ
  have aW : PySem.W.nsIn K mainGlobals "Wants" = some (some (.ref (v_W K))) := of_decide_eq_true k_aW
  have pgW : PySem.W.plainGet K (v_W K) Str.empty = true := k_pgW
  have hdW : PySem.W.hasDictIn K (v_W K) = true := k_hdW
  have poW : PySem.W.plainOver K (v_W K) = true := k_poW
  have saW : PySem.W.findIn K (.ref (v_W K)) "__setattr__" = some (some (.builtin "object.__setattr__")) := of_decide_eq_true k_saW
  have nW_font : PySem.W.findIn K (.ref (v_W K)) "_font" = some none := of_decide_eq_true k_nW_font
  have nW_counts : PySem.W.findIn K (.ref (v_W K)) "_counts" = some none := of_decide_eq_true k_nW_counts
  have caW : PySem.W.findIn K (.ref (v_W K)) "__class__" = some (some (.builtin "object.__class__")) := of_decide_eq_true k_caW
  have moW : PySem.W.mroIn K (v_W K) (.type "object") = some true := of_decide_eq_true k_moW
  have bC : PySem.W.isClsIn K (v_C K) = true := k_bC
  have yC : PySem.W.typeIn K (.ref (v_C K)) = some (.type "type") := of_decide_eq_true k_yC
  have zC : PySem.W.subIn K (.ref (v_C K)) (.ref (v_C K)) = some true := of_decide_eq_true k_zC
  have mCNoneType : PySem.W.mroIn K (v_C K) (.type "NoneType") = some false := of_decide_eq_true k_mCNoneType
  have sCNoneType : PySem.W.subIn K (.type "NoneType") (.ref (v_C K)) = some false := of_decide_eq_true k_sCNoneType
  have mCstr : PySem.W.mroIn K (v_C K) (.type "str") = some false := of_decide_eq_true k_mCstr
  have sCstr : PySem.W.subIn K (.type "str") (.ref (v_C K)) = some false := of_decide_eq_true k_sCstr
  have mCint : PySem.W.mroIn K (v_C K) (.type "int") = some false := of_decide_eq_true k_mCint
  have sCint : PySem.W.subIn K (.type "int") (.ref (v_C K)) = some false := of_decide_eq_true k_sCint
  have mCtuple : PySem.W.mroIn K (v_C K) (.type "tuple") = some false := of_decide_eq_true k_mCtuple
  have sCtuple : PySem.W.subIn K (.type "tuple") (.ref (v_C K)) = some false := of_decide_eq_true k_sCtuple
  have mCdict : PySem.W.mroIn K (v_C K) (.type "dict") = some false := of_decide_eq_true k_mCdict
  have sCdict : PySem.W.subIn K (.type "dict") (.ref (v_C K)) = some false := of_decide_eq_true k_sCdict
  have bCC : PySem.W.isClsIn K (v_CC K) = true := k_bCC
  have yCC : PySem.W.typeIn K (.ref (v_CC K)) = some (.type "type") := of_decide_eq_true k_yCC
  have zCC : PySem.W.subIn K (.ref (v_CC K)) (.ref (v_CC K)) = some true := of_decide_eq_true k_zCC
  have mCCNoneType : PySem.W.mroIn K (v_CC K) (.type "NoneType") = some false := of_decide_eq_true k_mCCNoneType
  have sCCNoneType : PySem.W.subIn K (.type "NoneType") (.ref (v_CC K)) = some false := of_decide_eq_true k_sCCNoneType
  have mCCstr : PySem.W.mroIn K (v_CC K) (.type "str") = some false := of_decide_eq_true k_mCCstr
  have sCCstr : PySem.W.subIn K (.type "str") (.ref (v_CC K)) = some false := of_decide_eq_true k_sCCstr
  have mCCint : PySem.W.mroIn K (v_CC K) (.type "int") = some false := of_decide_eq_true k_mCCint
  have sCCint : PySem.W.subIn K (.type "int") (.ref (v_CC K)) = some false := of_decide_eq_true k_sCCint
  have mCCtuple : PySem.W.mroIn K (v_CC K) (.type "tuple") = some false := of_decide_eq_true k_mCCtuple
  have sCCtuple : PySem.W.subIn K (.type "tuple") (.ref (v_CC K)) = some false := of_decide_eq_true k_sCCtuple
  have mCCdict : PySem.W.mroIn K (v_CC K) (.type "dict") = some false := of_decide_eq_true k_mCCdict
  have sCCdict : PySem.W.subIn K (.type "dict") (.ref (v_CC K)) = some false := of_decide_eq_true k_sCCdict
  have bW : PySem.W.isClsIn K (v_W K) = true := k_bW
  have yW : PySem.W.typeIn K (.ref (v_W K)) = some (.type "type") := of_decide_eq_true k_yW
  have zW : PySem.W.subIn K (.ref (v_W K)) (.ref (v_W K)) = some true := of_decide_eq_true k_zW
  have mWNoneType : PySem.W.mroIn K (v_W K) (.type "NoneType") = some false := of_decide_eq_true k_mWNoneType
  have sWNoneType : PySem.W.subIn K (.type "NoneType") (.ref (v_W K)) = some false := of_decide_eq_true k_sWNoneType
  have mWstr : PySem.W.mroIn K (v_W K) (.type "str") = some false := of_decide_eq_true k_mWstr
  have sWstr : PySem.W.subIn K (.type "str") (.ref (v_W K)) = some false := of_decide_eq_true k_sWstr
  have mWint : PySem.W.mroIn K (v_W K) (.type "int") = some false := of_decide_eq_true k_mWint
  have sWint : PySem.W.subIn K (.type "int") (.ref (v_W K)) = some false := of_decide_eq_true k_sWint
  have mWtuple : PySem.W.mroIn K (v_W K) (.type "tuple") = some false := of_decide_eq_true k_mWtuple
  have sWtuple : PySem.W.subIn K (.type "tuple") (.ref (v_W K)) = some false := of_decide_eq_true k_sWtuple
  have mWdict : PySem.W.mroIn K (v_W K) (.type "dict") = some false := of_decide_eq_true k_mWdict
  have sWdict : PySem.W.subIn K (.type "dict") (.ref (v_W K)) = some false := of_decide_eq_true k_sWdict
  have wCC_C : PySem.W.subIn K (.ref (v_CC K)) (.ref (v_C K)) = some false := of_decide_eq_true k_wCC_C
  have wC_CC : PySem.W.subIn K (.ref (v_C K)) (.ref (v_CC K)) = some false := of_decide_eq_true k_wC_CC
  have wC_W : PySem.W.subIn K (.ref (v_C K)) (.ref (v_W K)) = some false := of_decide_eq_true k_wC_W
  have wW_C : PySem.W.subIn K (.ref (v_W K)) (.ref (v_C K)) = some false := of_decide_eq_true k_wW_C
  have aLi : PySem.W.nsIn K mainGlobals "is_listed" = some (some (.ref (v_fLi K))) := of_decide_eq_true k_aLi
  have lLi : K.lookup (v_fLi K) = some ⟨((oOf K (v_fLi K)).cls), ((oOf K (v_fLi K)).dict), .func (PySem.W.fnOf "is_listed" "is_listed" (defArgs s_isListed) (defBody s_isListed) (defScope s_isListed) .none ((fnD K (v_fLi K)).kwdefaults) ((fnD K (v_fLi K)).doc) ((fnD K (v_fLi K)).pyModule) ((fnD K (v_fLi K)).annotations) ((fnD K (v_fLi K)).code) ((fnD K (v_fLi K)).closureTuple)), ((oOf K (v_fLi K)).slots)⟩ := look_fn n_lLi (of_decide_eq_true k_lLi_d) rfl rfl
  have cLi : PySem.W.codeIn K ((fnD K (v_fLi K)).code) "is_listed" = true := k_cLi
  have kLi : PySem.W.keepIn K (.ref (v_fLi K)) = true := k_kLi
  have aFs : PySem.W.nsIn K mainGlobals "is_font_signs" = some (some (.ref (v_fFs K))) := of_decide_eq_true k_aFs
  have lFs : K.lookup (v_fFs K) = some ⟨((oOf K (v_fFs K)).cls), ((oOf K (v_fFs K)).dict), .func (PySem.W.fnOf "is_font_signs" "is_font_signs" (defArgs s_isFont) (defBody s_isFont) (defScope s_isFont) .none ((fnD K (v_fFs K)).kwdefaults) ((fnD K (v_fFs K)).doc) ((fnD K (v_fFs K)).pyModule) ((fnD K (v_fFs K)).annotations) ((fnD K (v_fFs K)).code) ((fnD K (v_fFs K)).closureTuple)), ((oOf K (v_fFs K)).slots)⟩ := look_fn n_lFs (of_decide_eq_true k_lFs_d) rfl rfl
  have cFs : PySem.W.codeIn K ((fnD K (v_fFs K)).code) "is_font_signs" = true := k_cFs
  have kFs : PySem.W.keepIn K (.ref (v_fFs K)) = true := k_kFs
  have aSi : PySem.W.nsIn K mainGlobals "is_sign" = some (some (.ref (v_fSi K))) := of_decide_eq_true k_aSi
  have lSi : K.lookup (v_fSi K) = some ⟨((oOf K (v_fSi K)).cls), ((oOf K (v_fSi K)).dict), .func (PySem.W.fnOf "is_sign" "is_sign" (defArgs s_isSign) (defBody s_isSign) (defScope s_isSign) .none ((fnD K (v_fSi K)).kwdefaults) ((fnD K (v_fSi K)).doc) ((fnD K (v_fSi K)).pyModule) ((fnD K (v_fSi K)).annotations) ((fnD K (v_fSi K)).code) ((fnD K (v_fSi K)).closureTuple)), ((oOf K (v_fSi K)).slots)⟩ := look_fn n_lSi (of_decide_eq_true k_lSi_d) rfl rfl
  have cSi : PySem.W.codeIn K ((fnD K (v_fSi K)).code) "is_sign" = true := k_cSi
  have kSi : PySem.W.keepIn K (.ref (v_fSi K)) = true := k_kSi
  have aSe : PySem.W.nsIn K mainGlobals "is_set" = some (some (.ref (v_fSe K))) := of_decide_eq_true k_aSe
  have lSe : K.lookup (v_fSe K) = some ⟨((oOf K (v_fSe K)).cls), ((oOf K (v_fSe K)).dict), .func (PySem.W.fnOf "is_set" "is_set" (defArgs s_isSet) (defBody s_isSet) (defScope s_isSet) .none ((fnD K (v_fSe K)).kwdefaults) ((fnD K (v_fSe K)).doc) ((fnD K (v_fSe K)).pyModule) ((fnD K (v_fSe K)).annotations) ((fnD K (v_fSe K)).code) ((fnD K (v_fSe K)).closureTuple)), ((oOf K (v_fSe K)).slots)⟩ := look_fn n_lSe (of_decide_eq_true k_lSe_d) rfl rfl
  have cSe : PySem.W.codeIn K ((fnD K (v_fSe K)).code) "is_set" = true := k_cSe
  have kSe : PySem.W.keepIn K (.ref (v_fSe K)) = true := k_kSe
  have aIk : PySem.W.nsIn K mainGlobals "is_kind" = some (some (.ref (v_fIk K))) := of_decide_eq_true k_aIk
  have lIk : K.lookup (v_fIk K) = some ⟨((oOf K (v_fIk K)).cls), ((oOf K (v_fIk K)).dict), .func (PySem.W.fnOf "is_kind" "is_kind" (defArgs s_isKind) (defBody s_isKind) (defScope s_isKind) .none ((fnD K (v_fIk K)).kwdefaults) ((fnD K (v_fIk K)).doc) ((fnD K (v_fIk K)).pyModule) ((fnD K (v_fIk K)).annotations) ((fnD K (v_fIk K)).code) ((fnD K (v_fIk K)).closureTuple)), ((oOf K (v_fIk K)).slots)⟩ := look_fn n_lIk (of_decide_eq_true k_lIk_d) rfl rfl
  have cIk : PySem.W.codeIn K ((fnD K (v_fIk K)).code) "is_kind" = true := k_cIk
  have kIk : PySem.W.keepIn K (.ref (v_fIk K)) = true := k_kIk
  have aKt : PySem.W.nsIn K mainGlobals "kept_turns" = some (some (.ref (v_fKt K))) := of_decide_eq_true k_aKt
  have lKt : K.lookup (v_fKt K) = some ⟨((oOf K (v_fKt K)).cls), ((oOf K (v_fKt K)).dict), .func (PySem.W.fnOf "kept_turns" "kept_turns" (defArgs s_kept) (defBody s_kept) (defScope s_kept) .none ((fnD K (v_fKt K)).kwdefaults) ((fnD K (v_fKt K)).doc) ((fnD K (v_fKt K)).pyModule) ((fnD K (v_fKt K)).annotations) ((fnD K (v_fKt K)).code) ((fnD K (v_fKt K)).closureTuple)), ((oOf K (v_fKt K)).slots)⟩ := look_fn n_lKt (of_decide_eq_true k_lKt_d) rfl rfl
  have cKt : PySem.W.codeIn K ((fnD K (v_fKt K)).code) "kept_turns" = true := k_cKt
  have kKt : PySem.W.keepIn K (.ref (v_fKt K)) = true := k_kKt
  have aPa : PySem.W.nsIn K mainGlobals "_is_pair" = some (some (.ref (v_fPa K))) := of_decide_eq_true k_aPa
  have lPa : K.lookup (v_fPa K) = some ⟨((oOf K (v_fPa K)).cls), ((oOf K (v_fPa K)).dict), .func (PySem.W.fnOf "_is_pair" "_is_pair" (defArgs s_isPair) (defBody s_isPair) (defScope s_isPair) .none ((fnD K (v_fPa K)).kwdefaults) ((fnD K (v_fPa K)).doc) ((fnD K (v_fPa K)).pyModule) ((fnD K (v_fPa K)).annotations) ((fnD K (v_fPa K)).code) ((fnD K (v_fPa K)).closureTuple)), ((oOf K (v_fPa K)).slots)⟩ := look_fn n_lPa (of_decide_eq_true k_lPa_d) rfl rfl
  have cPa : PySem.W.codeIn K ((fnD K (v_fPa K)).code) "_is_pair" = true := k_cPa
  have kPa : PySem.W.keepIn K (.ref (v_fPa K)) = true := k_kPa
  have aIt : PySem.W.nsIn K mainGlobals "is_integer" = some (some (.ref (v_fIt K))) := of_decide_eq_true k_aIt
  have lIt : K.lookup (v_fIt K) = some ⟨((oOf K (v_fIt K)).cls), ((oOf K (v_fIt K)).dict), .func (PySem.W.fnOf "is_integer" "is_integer" (defArgs s_isInt) (defBody s_isInt) (defScope s_isInt) .none ((fnD K (v_fIt K)).kwdefaults) ((fnD K (v_fIt K)).doc) ((fnD K (v_fIt K)).pyModule) ((fnD K (v_fIt K)).annotations) ((fnD K (v_fIt K)).code) ((fnD K (v_fIt K)).closureTuple)), ((oOf K (v_fIt K)).slots)⟩ := look_fn n_lIt (of_decide_eq_true k_lIt_d) rfl rfl
  have cIt : PySem.W.codeIn K ((fnD K (v_fIt K)).code) "is_integer" = true := k_cIt
  have kIt : PySem.W.keepIn K (.ref (v_fIt K)) = true := k_kIt
  have aNu : PySem.W.nsIn K mainGlobals "is_number" = some (some (.ref (v_fNu K))) := of_decide_eq_true k_aNu
  have lNu : K.lookup (v_fNu K) = some ⟨((oOf K (v_fNu K)).cls), ((oOf K (v_fNu K)).dict), .func (PySem.W.fnOf "is_number" "is_number" (defArgs s_isNum) (defBody s_isNum) (defScope s_isNum) (.ref (v_tDNu K)) ((fnD K (v_fNu K)).kwdefaults) ((fnD K (v_fNu K)).doc) ((fnD K (v_fNu K)).pyModule) ((fnD K (v_fNu K)).annotations) ((fnD K (v_fNu K)).code) ((fnD K (v_fNu K)).closureTuple)), ((oOf K (v_fNu K)).slots)⟩ := look_fn n_lNu (of_decide_eq_true k_lNu_d) rfl rfl
  have dNu : K.lookup (v_tDNu K) = some ⟨((oOf K (v_tDNu K)).cls), ((oOf K (v_tDNu K)).dict), .seq #[Value.none] (seqN K (v_tDNu K)), ((oOf K (v_tDNu K)).slots)⟩ := look_seq (of_decide_eq_true k_dNu)
  have cNu : PySem.W.codeIn K ((fnD K (v_fNu K)).code) "is_number" = true := k_cNu
  have kNu : PySem.W.keepIn K (.ref (v_fNu K)) = true := k_kNu
  have aTa : PySem.W.nsIn K mainGlobals "is_table" = some (some (.ref (v_fTa K))) := of_decide_eq_true k_aTa
  have lTa : K.lookup (v_fTa K) = some ⟨((oOf K (v_fTa K)).cls), ((oOf K (v_fTa K)).dict), .func (PySem.W.fnOf "is_table" "is_table" (defArgs s_isTab) (defBody s_isTab) (defScope s_isTab) (.ref (v_tDTa K)) ((fnD K (v_fTa K)).kwdefaults) ((fnD K (v_fTa K)).doc) ((fnD K (v_fTa K)).pyModule) ((fnD K (v_fTa K)).annotations) ((fnD K (v_fTa K)).code) ((fnD K (v_fTa K)).closureTuple)), ((oOf K (v_fTa K)).slots)⟩ := look_fn n_lTa (of_decide_eq_true k_lTa_d) rfl rfl
  have dTa : K.lookup (v_tDTa K) = some ⟨((oOf K (v_tDTa K)).cls), ((oOf K (v_tDTa K)).dict), .seq #[Value.none] (seqN K (v_tDTa K)), ((oOf K (v_tDTa K)).slots)⟩ := look_seq (of_decide_eq_true k_dTa)
  have cTa : PySem.W.codeIn K ((fnD K (v_fTa K)).code) "is_table" = true := k_cTa
  have kTa : PySem.W.keepIn K (.ref (v_fTa K)) = true := k_kTa
  have aAk : PySem.W.nsIn K mainGlobals "all_kinds" = some (some (.ref (v_fAk K))) := of_decide_eq_true k_aAk
  have lAk : K.lookup (v_fAk K) = some ⟨((oOf K (v_fAk K)).cls), ((oOf K (v_fAk K)).dict), .func (PySem.W.fnOf "all_kinds" "all_kinds" (defArgs s_allKinds) (defBody s_allKinds) (defScope s_allKinds) .none ((fnD K (v_fAk K)).kwdefaults) ((fnD K (v_fAk K)).doc) ((fnD K (v_fAk K)).pyModule) ((fnD K (v_fAk K)).annotations) ((fnD K (v_fAk K)).code) ((fnD K (v_fAk K)).closureTuple)), ((oOf K (v_fAk K)).slots)⟩ := look_fn n_lAk (of_decide_eq_true k_lAk_d) rfl rfl
  have cAk : PySem.W.codeIn K ((fnD K (v_fAk K)).code) "all_kinds" = true := k_cAk
  have kAk : PySem.W.keepIn K (.ref (v_fAk K)) = true := k_kAk
  have aEn : PySem.W.nsIn K mainGlobals "_is_entry" = some (some (.ref (v_fEn K))) := of_decide_eq_true k_aEn
  have lEn : K.lookup (v_fEn K) = some ⟨((oOf K (v_fEn K)).cls), ((oOf K (v_fEn K)).dict), .func (PySem.W.fnOf "_is_entry" "_is_entry" (defArgs s_isEntry) (defBody s_isEntry) (defScope s_isEntry) .none ((fnD K (v_fEn K)).kwdefaults) ((fnD K (v_fEn K)).doc) ((fnD K (v_fEn K)).pyModule) ((fnD K (v_fEn K)).annotations) ((fnD K (v_fEn K)).code) ((fnD K (v_fEn K)).closureTuple)), ((oOf K (v_fEn K)).slots)⟩ := look_fn n_lEn (of_decide_eq_true k_lEn_d) rfl rfl
  have cEn : PySem.W.codeIn K ((fnD K (v_fEn K)).code) "_is_entry" = true := k_cEn
  have kEn : PySem.W.keepIn K (.ref (v_fEn K)) = true := k_kEn
  have aCo : PySem.W.nsIn K mainGlobals "_counted" = some (some (.ref (v_fCo K))) := of_decide_eq_true k_aCo
  have lCo : K.lookup (v_fCo K) = some ⟨((oOf K (v_fCo K)).cls), ((oOf K (v_fCo K)).dict), .func (PySem.W.fnOf "_counted" "_counted" (defArgs s_counted) (defBody s_counted) (defScope s_counted) .none ((fnD K (v_fCo K)).kwdefaults) ((fnD K (v_fCo K)).doc) ((fnD K (v_fCo K)).pyModule) ((fnD K (v_fCo K)).annotations) ((fnD K (v_fCo K)).code) ((fnD K (v_fCo K)).closureTuple)), ((oOf K (v_fCo K)).slots)⟩ := look_fn n_lCo (of_decide_eq_true k_lCo_d) rfl rfl
  have cCo : PySem.W.codeIn K ((fnD K (v_fCo K)).code) "_counted" = true := k_cCo
  have kCo : PySem.W.keepIn K (.ref (v_fCo K)) = true := k_kCo
  have aPe : PySem.W.nsIn K mainGlobals "_law_pen" = some (some (.ref (v_fPe K))) := of_decide_eq_true k_aPe
  have lPe : K.lookup (v_fPe K) = some ⟨((oOf K (v_fPe K)).cls), ((oOf K (v_fPe K)).dict), .func (PySem.W.fnOf "_law_pen" "_law_pen" (defArgs s_pen) (defBody s_pen) (defScope s_pen) .none ((fnD K (v_fPe K)).kwdefaults) ((fnD K (v_fPe K)).doc) ((fnD K (v_fPe K)).pyModule) ((fnD K (v_fPe K)).annotations) ((fnD K (v_fPe K)).code) ((fnD K (v_fPe K)).closureTuple)), ((oOf K (v_fPe K)).slots)⟩ := look_fn n_lPe (of_decide_eq_true k_lPe_d) rfl rfl
  have cPe : PySem.W.codeIn K ((fnD K (v_fPe K)).code) "_law_pen" = true := k_cPe
  have kPe : PySem.W.keepIn K (.ref (v_fPe K)) = true := k_kPe
  have aDr : PySem.W.nsIn K mainGlobals "_law_draw" = some (some (.ref (v_fDr K))) := of_decide_eq_true k_aDr
  have lDr : K.lookup (v_fDr K) = some ⟨((oOf K (v_fDr K)).cls), ((oOf K (v_fDr K)).dict), .func (PySem.W.fnOf "_law_draw" "_law_draw" (defArgs s_draw) (defBody s_draw) (defScope s_draw) .none ((fnD K (v_fDr K)).kwdefaults) ((fnD K (v_fDr K)).doc) ((fnD K (v_fDr K)).pyModule) ((fnD K (v_fDr K)).annotations) ((fnD K (v_fDr K)).code) ((fnD K (v_fDr K)).closureTuple)), ((oOf K (v_fDr K)).slots)⟩ := look_fn n_lDr (of_decide_eq_true k_lDr_d) rfl rfl
  have cDr : PySem.W.codeIn K ((fnD K (v_fDr K)).code) "_law_draw" = true := k_cDr
  have kDr : PySem.W.keepIn K (.ref (v_fDr K)) = true := k_kDr
  have aPi : PySem.W.nsIn K mainGlobals "_law_pick" = some (some (.ref (v_fPi K))) := of_decide_eq_true k_aPi
  have lPi : K.lookup (v_fPi K) = some ⟨((oOf K (v_fPi K)).cls), ((oOf K (v_fPi K)).dict), .func (PySem.W.fnOf "_law_pick" "_law_pick" (defArgs s_pick) (defBody s_pick) (defScope s_pick) .none ((fnD K (v_fPi K)).kwdefaults) ((fnD K (v_fPi K)).doc) ((fnD K (v_fPi K)).pyModule) ((fnD K (v_fPi K)).annotations) ((fnD K (v_fPi K)).code) ((fnD K (v_fPi K)).closureTuple)), ((oOf K (v_fPi K)).slots)⟩ := look_fn n_lPi (of_decide_eq_true k_lPi_d) rfl rfl
  have cPi : PySem.W.codeIn K ((fnD K (v_fPi K)).code) "_law_pick" = true := k_cPi
  have kPi : PySem.W.keepIn K (.ref (v_fPi K)) = true := k_kPi
  have aSh : PySem.W.nsIn K mainGlobals "_law_shuffled" = some (some (.ref (v_fSh K))) := of_decide_eq_true k_aSh
  have lSh : K.lookup (v_fSh K) = some ⟨((oOf K (v_fSh K)).cls), ((oOf K (v_fSh K)).dict), .func (PySem.W.fnOf "_law_shuffled" "_law_shuffled" (defArgs s_shuf) (defBody s_shuf) (defScope s_shuf) .none ((fnD K (v_fSh K)).kwdefaults) ((fnD K (v_fSh K)).doc) ((fnD K (v_fSh K)).pyModule) ((fnD K (v_fSh K)).annotations) ((fnD K (v_fSh K)).code) ((fnD K (v_fSh K)).closureTuple)), ((oOf K (v_fSh K)).slots)⟩ := look_fn n_lSh (of_decide_eq_true k_lSh_d) rfl rfl
  have cSh : PySem.W.codeIn K ((fnD K (v_fSh K)).code) "_law_shuffled" = true := k_cSh
  have kSh : PySem.W.keepIn K (.ref (v_fSh K)) = true := k_kSh
  have aFo : PySem.W.nsIn K mainGlobals "_law_font" = some (some (.ref (v_fFo K))) := of_decide_eq_true k_aFo
  have lFo : K.lookup (v_fFo K) = some ⟨((oOf K (v_fFo K)).cls), ((oOf K (v_fFo K)).dict), .func (PySem.W.fnOf "_law_font" "_law_font" (defArgs s_font) (defBody s_font) (defScope s_font) .none ((fnD K (v_fFo K)).kwdefaults) ((fnD K (v_fFo K)).doc) ((fnD K (v_fFo K)).pyModule) ((fnD K (v_fFo K)).annotations) ((fnD K (v_fFo K)).code) ((fnD K (v_fFo K)).closureTuple)), ((oOf K (v_fFo K)).slots)⟩ := look_fn n_lFo (of_decide_eq_true k_lFo_d) rfl rfl
  have cFo : PySem.W.codeIn K ((fnD K (v_fFo K)).code) "_law_font" = true := k_cFo
  have kFo : PySem.W.keepIn K (.ref (v_fFo K)) = true := k_kFo
  have aHe : PySem.W.nsIn K mainGlobals "_law_heads" = some (some (.ref (v_fHe K))) := of_decide_eq_true k_aHe
  have lHe : K.lookup (v_fHe K) = some ⟨((oOf K (v_fHe K)).cls), ((oOf K (v_fHe K)).dict), .func (PySem.W.fnOf "_law_heads" "_law_heads" (defArgs s_heads) (defBody s_heads) (defScope s_heads) .none ((fnD K (v_fHe K)).kwdefaults) ((fnD K (v_fHe K)).doc) ((fnD K (v_fHe K)).pyModule) ((fnD K (v_fHe K)).annotations) ((fnD K (v_fHe K)).code) ((fnD K (v_fHe K)).closureTuple)), ((oOf K (v_fHe K)).slots)⟩ := look_fn n_lHe (of_decide_eq_true k_lHe_d) rfl rfl
  have cHe : PySem.W.codeIn K ((fnD K (v_fHe K)).code) "_law_heads" = true := k_cHe
  have kHe : PySem.W.keepIn K (.ref (v_fHe K)) = true := k_kHe
  have aKs : PySem.W.nsIn K mainGlobals "_law_kinds" = some (some (.ref (v_fKs K))) := of_decide_eq_true k_aKs
  have lKs : K.lookup (v_fKs K) = some ⟨((oOf K (v_fKs K)).cls), ((oOf K (v_fKs K)).dict), .func (PySem.W.fnOf "_law_kinds" "_law_kinds" (defArgs s_kinds) (defBody s_kinds) (defScope s_kinds) .none ((fnD K (v_fKs K)).kwdefaults) ((fnD K (v_fKs K)).doc) ((fnD K (v_fKs K)).pyModule) ((fnD K (v_fKs K)).annotations) ((fnD K (v_fKs K)).code) ((fnD K (v_fKs K)).closureTuple)), ((oOf K (v_fKs K)).slots)⟩ := look_fn n_lKs (of_decide_eq_true k_lKs_d) rfl rfl
  have cKs : PySem.W.codeIn K ((fnD K (v_fKs K)).code) "_law_kinds" = true := k_cKs
  have kKs : PySem.W.keepIn K (.ref (v_fKs K)) = true := k_kKs
  have aOr : PySem.W.nsIn K mainGlobals "_law_ordered" = some (some (.ref (v_fOr K))) := of_decide_eq_true k_aOr
  have lOr : K.lookup (v_fOr K) = some ⟨((oOf K (v_fOr K)).cls), ((oOf K (v_fOr K)).dict), .func (PySem.W.fnOf "_law_ordered" "_law_ordered" (defArgs s_ordered) (defBody s_ordered) (defScope s_ordered) .none ((fnD K (v_fOr K)).kwdefaults) ((fnD K (v_fOr K)).doc) ((fnD K (v_fOr K)).pyModule) ((fnD K (v_fOr K)).annotations) ((fnD K (v_fOr K)).code) ((fnD K (v_fOr K)).closureTuple)), ((oOf K (v_fOr K)).slots)⟩ := look_fn n_lOr (of_decide_eq_true k_lOr_d) rfl rfl
  have cOr : PySem.W.codeIn K ((fnD K (v_fOr K)).code) "_law_ordered" = true := k_cOr
  have kOr : PySem.W.keepIn K (.ref (v_fOr K)) = true := k_kOr
  have aPl : PySem.W.nsIn K mainGlobals "_law_plain" = some (some (.ref (v_fPl K))) := of_decide_eq_true k_aPl
  have lPl : K.lookup (v_fPl K) = some ⟨((oOf K (v_fPl K)).cls), ((oOf K (v_fPl K)).dict), .func (PySem.W.fnOf "_law_plain" "_law_plain" (defArgs s_plain) (defBody s_plain) (defScope s_plain) .none ((fnD K (v_fPl K)).kwdefaults) ((fnD K (v_fPl K)).doc) ((fnD K (v_fPl K)).pyModule) ((fnD K (v_fPl K)).annotations) ((fnD K (v_fPl K)).code) ((fnD K (v_fPl K)).closureTuple)), ((oOf K (v_fPl K)).slots)⟩ := look_fn n_lPl (of_decide_eq_true k_lPl_d) rfl rfl
  have cPl : PySem.W.codeIn K ((fnD K (v_fPl K)).code) "_law_plain" = true := k_cPl
  have kPl : PySem.W.keepIn K (.ref (v_fPl K)) = true := k_kPl
  have aFl : PySem.W.nsIn K mainGlobals "_law_flipped" = some (some (.ref (v_fFl K))) := of_decide_eq_true k_aFl
  have lFl : K.lookup (v_fFl K) = some ⟨((oOf K (v_fFl K)).cls), ((oOf K (v_fFl K)).dict), .func (PySem.W.fnOf "_law_flipped" "_law_flipped" (defArgs s_flip) (defBody s_flip) (defScope s_flip) .none ((fnD K (v_fFl K)).kwdefaults) ((fnD K (v_fFl K)).doc) ((fnD K (v_fFl K)).pyModule) ((fnD K (v_fFl K)).annotations) ((fnD K (v_fFl K)).code) ((fnD K (v_fFl K)).closureTuple)), ((oOf K (v_fFl K)).slots)⟩ := look_fn n_lFl (of_decide_eq_true k_lFl_d) rfl rfl
  have cFl : PySem.W.codeIn K ((fnD K (v_fFl K)).code) "_law_flipped" = true := k_cFl
  have kFl : PySem.W.keepIn K (.ref (v_fFl K)) = true := k_kFl
  have aFm : PySem.W.nsIn K mainGlobals "_law_font_made" = some (some (.ref (v_fFm K))) := of_decide_eq_true k_aFm
  have lFm : K.lookup (v_fFm K) = some ⟨((oOf K (v_fFm K)).cls), ((oOf K (v_fFm K)).dict), .func (PySem.W.fnOf "_law_font_made" "_law_font_made" (defArgs s_fmade) (defBody s_fmade) (defScope s_fmade) .none ((fnD K (v_fFm K)).kwdefaults) ((fnD K (v_fFm K)).doc) ((fnD K (v_fFm K)).pyModule) ((fnD K (v_fFm K)).annotations) ((fnD K (v_fFm K)).code) ((fnD K (v_fFm K)).closureTuple)), ((oOf K (v_fFm K)).slots)⟩ := look_fn n_lFm (of_decide_eq_true k_lFm_d) rfl rfl
  have cFm : PySem.W.codeIn K ((fnD K (v_fFm K)).code) "_law_font_made" = true := k_cFm
  have kFm : PySem.W.keepIn K (.ref (v_fFm K)) = true := k_kFm
  have aMa : PySem.W.nsIn K mainGlobals "_law_made" = some (some (.ref (v_fMa K))) := of_decide_eq_true k_aMa
  have lMa : K.lookup (v_fMa K) = some ⟨((oOf K (v_fMa K)).cls), ((oOf K (v_fMa K)).dict), .func (PySem.W.fnOf "_law_made" "_law_made" (defArgs s_cmade) (defBody s_cmade) (defScope s_cmade) .none ((fnD K (v_fMa K)).kwdefaults) ((fnD K (v_fMa K)).doc) ((fnD K (v_fMa K)).pyModule) ((fnD K (v_fMa K)).annotations) ((fnD K (v_fMa K)).code) ((fnD K (v_fMa K)).closureTuple)), ((oOf K (v_fMa K)).slots)⟩ := look_fn n_lMa (of_decide_eq_true k_lMa_d) rfl rfl
  have cMa : PySem.W.codeIn K ((fnD K (v_fMa K)).code) "_law_made" = true := k_cMa
  have kMa : PySem.W.keepIn K (.ref (v_fMa K)) = true := k_kMa
  have aLw : PySem.W.nsIn K mainGlobals "_law_wants" = some (some (.ref (v_fLw K))) := of_decide_eq_true k_aLw
  have lLw : K.lookup (v_fLw K) = some ⟨((oOf K (v_fLw K)).cls), ((oOf K (v_fLw K)).dict), .func (PySem.W.fnOf "_law_wants" "_law_wants" (defArgs s_lwants) (defBody s_lwants) (defScope s_lwants) .none ((fnD K (v_fLw K)).kwdefaults) ((fnD K (v_fLw K)).doc) ((fnD K (v_fLw K)).pyModule) ((fnD K (v_fLw K)).annotations) ((fnD K (v_fLw K)).code) ((fnD K (v_fLw K)).closureTuple)), ((oOf K (v_fLw K)).slots)⟩ := look_fn n_lLw (of_decide_eq_true k_lLw_d) rfl rfl
  have cLw : PySem.W.codeIn K ((fnD K (v_fLw K)).code) "_law_wants" = true := k_cLw
  have kLw : PySem.W.keepIn K (.ref (v_fLw K)) = true := k_kLw
  have aFu : PySem.W.nsIn K mainGlobals "_law_full" = some (some (.ref (v_fFu K))) := of_decide_eq_true k_aFu
  have lFu : K.lookup (v_fFu K) = some ⟨((oOf K (v_fFu K)).cls), ((oOf K (v_fFu K)).dict), .func (PySem.W.fnOf "_law_full" "_law_full" (defArgs s_full) (defBody s_full) (defScope s_full) .none ((fnD K (v_fFu K)).kwdefaults) ((fnD K (v_fFu K)).doc) ((fnD K (v_fFu K)).pyModule) ((fnD K (v_fFu K)).annotations) ((fnD K (v_fFu K)).code) ((fnD K (v_fFu K)).closureTuple)), ((oOf K (v_fFu K)).slots)⟩ := look_fn n_lFu (of_decide_eq_true k_lFu_d) rfl rfl
  have cFu : PySem.W.codeIn K ((fnD K (v_fFu K)).code) "_law_full" = true := k_cFu
  have kFu : PySem.W.keepIn K (.ref (v_fFu K)) = true := k_kFu
  have aPr : PySem.W.nsIn K mainGlobals "_law_pairs_right" = some (some (.ref (v_fPr K))) := of_decide_eq_true k_aPr
  have lPr : K.lookup (v_fPr K) = some ⟨((oOf K (v_fPr K)).cls), ((oOf K (v_fPr K)).dict), .func (PySem.W.fnOf "_law_pairs_right" "_law_pairs_right" (defArgs s_pairs) (defBody s_pairs) (defScope s_pairs) .none ((fnD K (v_fPr K)).kwdefaults) ((fnD K (v_fPr K)).doc) ((fnD K (v_fPr K)).pyModule) ((fnD K (v_fPr K)).annotations) ((fnD K (v_fPr K)).code) ((fnD K (v_fPr K)).closureTuple)), ((oOf K (v_fPr K)).slots)⟩ := look_fn n_lPr (of_decide_eq_true k_lPr_d) rfl rfl
  have cPr : PySem.W.codeIn K ((fnD K (v_fPr K)).code) "_law_pairs_right" = true := k_cPr
  have kPr : PySem.W.keepIn K (.ref (v_fPr K)) = true := k_kPr
  have aOf : PySem.W.nsIn K mainGlobals "_law_other_fonts" = some (some (.ref (v_fOf K))) := of_decide_eq_true k_aOf
  have lOf : K.lookup (v_fOf K) = some ⟨((oOf K (v_fOf K)).cls), ((oOf K (v_fOf K)).dict), .func (PySem.W.fnOf "_law_other_fonts" "_law_other_fonts" (defArgs s_ofonts) (defBody s_ofonts) (defScope s_ofonts) .none ((fnD K (v_fOf K)).kwdefaults) ((fnD K (v_fOf K)).doc) ((fnD K (v_fOf K)).pyModule) ((fnD K (v_fOf K)).annotations) ((fnD K (v_fOf K)).code) ((fnD K (v_fOf K)).closureTuple)), ((oOf K (v_fOf K)).slots)⟩ := look_fn n_lOf (of_decide_eq_true k_lOf_d) rfl rfl
  have cOf : PySem.W.codeIn K ((fnD K (v_fOf K)).code) "_law_other_fonts" = true := k_cOf
  have kOf : PySem.W.keepIn K (.ref (v_fOf K)) = true := k_kOf
  have aOc : PySem.W.nsIn K mainGlobals "_law_other_counts" = some (some (.ref (v_fOc K))) := of_decide_eq_true k_aOc
  have lOc : K.lookup (v_fOc K) = some ⟨((oOf K (v_fOc K)).cls), ((oOf K (v_fOc K)).dict), .func (PySem.W.fnOf "_law_other_counts" "_law_other_counts" (defArgs s_ocounts) (defBody s_ocounts) (defScope s_ocounts) .none ((fnD K (v_fOc K)).kwdefaults) ((fnD K (v_fOc K)).doc) ((fnD K (v_fOc K)).pyModule) ((fnD K (v_fOc K)).annotations) ((fnD K (v_fOc K)).code) ((fnD K (v_fOc K)).closureTuple)), ((oOf K (v_fOc K)).slots)⟩ := look_fn n_lOc (of_decide_eq_true k_lOc_d) rfl rfl
  have cOc : PySem.W.codeIn K ((fnD K (v_fOc K)).code) "_law_other_counts" = true := k_cOc
  have kOc : PySem.W.keepIn K (.ref (v_fOc K)) = true := k_kOc
  have aInC : PySem.W.findIn K (.ref (v_C K)) "__init__" = some (some (.ref (v_fInC K))) := of_decide_eq_true k_aInC
  have iInC : PySem.W.isFn K (.ref (v_fInC K)) = true := k_iInC
  have lInC : K.lookup (v_fInC K) = some ⟨((oOf K (v_fInC K)).cls), ((oOf K (v_fInC K)).dict), .func (PySem.W.fnOf "__init__" "Font.__init__" (defArgs s_init) (defBody s_init) (defScope s_init) (.ref (v_tDInC K)) ((fnD K (v_fInC K)).kwdefaults) ((fnD K (v_fInC K)).doc) ((fnD K (v_fInC K)).pyModule) ((fnD K (v_fInC K)).annotations) ((fnD K (v_fInC K)).code) ((fnD K (v_fInC K)).closureTuple)), ((oOf K (v_fInC K)).slots)⟩ := look_fn n_lInC (of_decide_eq_true k_lInC_d) rfl rfl
  have dInC : K.lookup (v_tDInC K) = some ⟨((oOf K (v_tDInC K)).cls), ((oOf K (v_tDInC K)).dict), .seq #[Value.ref (v_tEInC0 K)] (seqN K (v_tDInC K)), ((oOf K (v_tDInC K)).slots)⟩ := look_seq (of_decide_eq_true k_dInC)
  have eInC0 : K.lookup (v_tEInC0 K) = some ⟨.type "tuple", ((oOf K (v_tEInC0 K)).dict), .seq #[] (seqN K (v_tEInC0 K)), ((oOf K (v_tEInC0 K)).slots)⟩ := look_seqT (of_decide_eq_true k_eInC0) (of_decide_eq_true k_eInC0_t)
  have cInC : PySem.W.codeIn K ((fnD K (v_fInC K)).code) "Font.__init__" = true := k_cInC
  have kInC : PySem.W.keepIn K (.ref (v_fInC K)) = true := k_kInC
  have mkC : PySem.W.makesIn K (v_C K) = true := k_mkC
  have kCC : PySem.W.keepIn K (.ref (v_C K)) = true := k_kCC
  have aFe : PySem.W.findIn K (.ref (v_C K)) "__eq__" = some (some (.ref (v_fFe K))) := of_decide_eq_true k_aFe
  have iFe : PySem.W.isFn K (.ref (v_fFe K)) = true := k_iFe
  have lFe : K.lookup (v_fFe K) = some ⟨((oOf K (v_fFe K)).cls), ((oOf K (v_fFe K)).dict), .func (PySem.W.fnOf "__eq__" "Font.__eq__" (defArgs s_feq) (defBody s_feq) (defScope s_feq) .none ((fnD K (v_fFe K)).kwdefaults) ((fnD K (v_fFe K)).doc) ((fnD K (v_fFe K)).pyModule) ((fnD K (v_fFe K)).annotations) ((fnD K (v_fFe K)).code) ((fnD K (v_fFe K)).closureTuple)), ((oOf K (v_fFe K)).slots)⟩ := look_fn n_lFe (of_decide_eq_true k_lFe_d) rfl rfl
  have cFe : PySem.W.codeIn K ((fnD K (v_fFe K)).code) "Font.__eq__" = true := k_cFe
  have kFe : PySem.W.keepIn K (.ref (v_fFe K)) = true := k_kFe
  have neC : PySem.W.findIn K (.ref (v_C K)) "__ne__" = some (some (.builtin "object.__ne__")) := of_decide_eq_true k_neC
  have aKm : PySem.W.findIn K (.ref (v_C K)) "kept" = some (some (.ref (v_fKm K))) := of_decide_eq_true k_aKm
  have iKm : PySem.W.isFn K (.ref (v_fKm K)) = true := k_iKm
  have lKm : K.lookup (v_fKm K) = some ⟨((oOf K (v_fKm K)).cls), ((oOf K (v_fKm K)).dict), .func (PySem.W.fnOf "kept" "Font.kept" (defArgs s_keptM) (defBody s_keptM) (defScope s_keptM) .none ((fnD K (v_fKm K)).kwdefaults) ((fnD K (v_fKm K)).doc) ((fnD K (v_fKm K)).pyModule) ((fnD K (v_fKm K)).annotations) ((fnD K (v_fKm K)).code) ((fnD K (v_fKm K)).closureTuple)), ((oOf K (v_fKm K)).slots)⟩ := look_fn n_lKm (of_decide_eq_true k_lKm_d) rfl rfl
  have cKm : PySem.W.codeIn K ((fnD K (v_fKm K)).code) "Font.kept" = true := k_cKm
  have kKm : PySem.W.keepIn K (.ref (v_fKm K)) = true := k_kKm
  have aPs : PySem.W.findIn K (.ref (v_C K)) "signs" = some (some (.ref (v_pPs K))) := of_decide_eq_true k_aPs
  have gPs : PySem.W.specialIn K (.ref (v_pPs K)) "__get__" = some (some (.builtin "property.__get__")) := of_decide_eq_true k_gPs
  have tPs : PySem.W.takesIn K (.ref (v_pPs K)) = some true := of_decide_eq_true k_tPs
  have rPs : PySem.W.recIn K (v_pPs K) "property" = some (.ref (v_fPs K) :: (recR K (v_pPs K) "property")) := look_rec k_rPs
  have lPs : K.lookup (v_fPs K) = some ⟨((oOf K (v_fPs K)).cls), ((oOf K (v_fPs K)).dict), .func (PySem.W.fnOf "signs" "Font.signs" (defArgs (inCls s_cls 4)) (defBody (inCls s_cls 4)) (defScope (inCls s_cls 4)) .none ((fnD K (v_fPs K)).kwdefaults) ((fnD K (v_fPs K)).doc) ((fnD K (v_fPs K)).pyModule) ((fnD K (v_fPs K)).annotations) ((fnD K (v_fPs K)).code) ((fnD K (v_fPs K)).closureTuple)), ((oOf K (v_fPs K)).slots)⟩ := look_fn n_lPs (of_decide_eq_true k_lPs_d) rfl rfl
  have cPs : PySem.W.codeIn K ((fnD K (v_fPs K)).code) "Font.signs" = true := k_cPs
  have aInCC : PySem.W.findIn K (.ref (v_CC K)) "__init__" = some (some (.ref (v_fInCC K))) := of_decide_eq_true k_aInCC
  have iInCC : PySem.W.isFn K (.ref (v_fInCC K)) = true := k_iInCC
  have lInCC : K.lookup (v_fInCC K) = some ⟨((oOf K (v_fInCC K)).cls), ((oOf K (v_fInCC K)).dict), .func (PySem.W.fnOf "__init__" "Case.__init__" (defArgs c_init) (defBody c_init) (defScope c_init) (.ref (v_tDInCC K)) ((fnD K (v_fInCC K)).kwdefaults) ((fnD K (v_fInCC K)).doc) ((fnD K (v_fInCC K)).pyModule) ((fnD K (v_fInCC K)).annotations) ((fnD K (v_fInCC K)).code) ((fnD K (v_fInCC K)).closureTuple)), ((oOf K (v_fInCC K)).slots)⟩ := look_fn n_lInCC (of_decide_eq_true k_lInCC_d) rfl rfl
  have dInCC : K.lookup (v_tDInCC K) = some ⟨((oOf K (v_tDInCC K)).cls), ((oOf K (v_tDInCC K)).dict), .seq #[Value.ref (v_tEInCC0 K)] (seqN K (v_tDInCC K)), ((oOf K (v_tDInCC K)).slots)⟩ := look_seq (of_decide_eq_true k_dInCC)
  have eInCC0 : K.lookup (v_tEInCC0 K) = some ⟨.type "tuple", ((oOf K (v_tEInCC0 K)).dict), .seq #[] (seqN K (v_tEInCC0 K)), ((oOf K (v_tEInCC0 K)).slots)⟩ := look_seqT (of_decide_eq_true k_eInCC0) (of_decide_eq_true k_eInCC0_t)
  have cInCC : PySem.W.codeIn K ((fnD K (v_fInCC K)).code) "Case.__init__" = true := k_cInCC
  have kInCC : PySem.W.keepIn K (.ref (v_fInCC K)) = true := k_kInCC
  have mkCC : PySem.W.makesIn K (v_CC K) = true := k_mkCC
  have kCCC : PySem.W.keepIn K (.ref (v_CC K)) = true := k_kCCC
  have aXp : PySem.W.findIn K (.ref (v_CC K)) "plates" = some (some (.ref (v_pXp K))) := of_decide_eq_true k_aXp
  have gXp : PySem.W.specialIn K (.ref (v_pXp K)) "__get__" = some (some (.builtin "property.__get__")) := of_decide_eq_true k_gXp
  have tXp : PySem.W.takesIn K (.ref (v_pXp K)) = some true := of_decide_eq_true k_tXp
  have rXp : PySem.W.recIn K (v_pXp K) "property" = some (.ref (v_fXp K) :: (recR K (v_pXp K) "property")) := look_rec k_rXp
  have lXp : K.lookup (v_fXp K) = some ⟨((oOf K (v_fXp K)).cls), ((oOf K (v_fXp K)).dict), .func (PySem.W.fnOf "plates" "Case.plates" (defArgs (inCls c_cls 4)) (defBody (inCls c_cls 4)) (defScope (inCls c_cls 4)) .none ((fnD K (v_fXp K)).kwdefaults) ((fnD K (v_fXp K)).doc) ((fnD K (v_fXp K)).pyModule) ((fnD K (v_fXp K)).annotations) ((fnD K (v_fXp K)).code) ((fnD K (v_fXp K)).closureTuple)), ((oOf K (v_fXp K)).slots)⟩ := look_fn n_lXp (of_decide_eq_true k_lXp_d) rfl rfl
  have cXp : PySem.W.codeIn K ((fnD K (v_fXp K)).code) "Case.plates" = true := k_cXp
  have aXe : PySem.W.findIn K (.ref (v_CC K)) "__eq__" = some (some (.ref (v_fXe K))) := of_decide_eq_true k_aXe
  have iXe : PySem.W.isFn K (.ref (v_fXe K)) = true := k_iXe
  have lXe : K.lookup (v_fXe K) = some ⟨((oOf K (v_fXe K)).cls), ((oOf K (v_fXe K)).dict), .func (PySem.W.fnOf "__eq__" "Case.__eq__" (defArgs c_eq) (defBody c_eq) (defScope c_eq) .none ((fnD K (v_fXe K)).kwdefaults) ((fnD K (v_fXe K)).doc) ((fnD K (v_fXe K)).pyModule) ((fnD K (v_fXe K)).annotations) ((fnD K (v_fXe K)).code) ((fnD K (v_fXe K)).closureTuple)), ((oOf K (v_fXe K)).slots)⟩ := look_fn n_lXe (of_decide_eq_true k_lXe_d) rfl rfl
  have cXe : PySem.W.codeIn K ((fnD K (v_fXe K)).code) "Case.__eq__" = true := k_cXe
  have kXe : PySem.W.keepIn K (.ref (v_fXe K)) = true := k_kXe
  have neCC : PySem.W.findIn K (.ref (v_CC K)) "__ne__" = some (some (.builtin "object.__ne__")) := of_decide_eq_true k_neCC
  have aInW : PySem.W.findIn K (.ref (v_W K)) "__init__" = some (some (.ref (v_fInW K))) := of_decide_eq_true k_aInW
  have iInW : PySem.W.isFn K (.ref (v_fInW K)) = true := k_iInW
  have lInW : K.lookup (v_fInW K) = some ⟨((oOf K (v_fInW K)).cls), ((oOf K (v_fInW K)).dict), .func (PySem.W.fnOf "__init__" "Wants.__init__" (defArgs w_init) (defBody w_init) (defScope w_init) .none ((fnD K (v_fInW K)).kwdefaults) ((fnD K (v_fInW K)).doc) ((fnD K (v_fInW K)).pyModule) ((fnD K (v_fInW K)).annotations) ((fnD K (v_fInW K)).code) ((fnD K (v_fInW K)).closureTuple)), ((oOf K (v_fInW K)).slots)⟩ := look_fn n_lInW (of_decide_eq_true k_lInW_d) rfl rfl
  have cInW : PySem.W.codeIn K ((fnD K (v_fInW K)).code) "Wants.__init__" = true := k_cInW
  have kInW : PySem.W.keepIn K (.ref (v_fInW K)) = true := k_kInW
  have mkW : PySem.W.makesIn K (v_W K) = true := k_mkW
  have kCW : PySem.W.keepIn K (.ref (v_W K)) = true := k_kCW
  have aWe : PySem.W.findIn K (.ref (v_W K)) "__eq__" = some (some (.ref (v_fWe K))) := of_decide_eq_true k_aWe
  have iWe : PySem.W.isFn K (.ref (v_fWe K)) = true := k_iWe
  have lWe : K.lookup (v_fWe K) = some ⟨((oOf K (v_fWe K)).cls), ((oOf K (v_fWe K)).dict), .func (PySem.W.fnOf "__eq__" "Wants.__eq__" (defArgs w_eq) (defBody w_eq) (defScope w_eq) .none ((fnD K (v_fWe K)).kwdefaults) ((fnD K (v_fWe K)).doc) ((fnD K (v_fWe K)).pyModule) ((fnD K (v_fWe K)).annotations) ((fnD K (v_fWe K)).code) ((fnD K (v_fWe K)).closureTuple)), ((oOf K (v_fWe K)).slots)⟩ := look_fn n_lWe (of_decide_eq_true k_lWe_d) rfl rfl
  have cWe : PySem.W.codeIn K ((fnD K (v_fWe K)).code) "Wants.__eq__" = true := k_cWe
  have kWe : PySem.W.keepIn K (.ref (v_fWe K)) = true := k_kWe
  have neW : PySem.W.findIn K (.ref (v_W K)) "__ne__" = some (some (.builtin "object.__ne__")) := of_decide_eq_true k_neW
  have aPt : PySem.W.findIn K (.ref (v_W K)) "total" = some (some (.ref (v_pPt K))) := of_decide_eq_true k_aPt
  have gPt : PySem.W.specialIn K (.ref (v_pPt K)) "__get__" = some (some (.builtin "property.__get__")) := of_decide_eq_true k_gPt
  have tPt : PySem.W.takesIn K (.ref (v_pPt K)) = some true := of_decide_eq_true k_tPt
  have rPt : PySem.W.recIn K (v_pPt K) "property" = some (.ref (v_fPt K) :: (recR K (v_pPt K) "property")) := look_rec k_rPt
  have lPt : K.lookup (v_fPt K) = some ⟨((oOf K (v_fPt K)).cls), ((oOf K (v_fPt K)).dict), .func (PySem.W.fnOf "total" "Wants.total" (defArgs w_total) (defBody w_total) (defScope w_total) .none ((fnD K (v_fPt K)).kwdefaults) ((fnD K (v_fPt K)).doc) ((fnD K (v_fPt K)).pyModule) ((fnD K (v_fPt K)).annotations) ((fnD K (v_fPt K)).code) ((fnD K (v_fPt K)).closureTuple)), ((oOf K (v_fPt K)).slots)⟩ := look_fn n_lPt (of_decide_eq_true k_lPt_d) rfl rfl
  have cPt : PySem.W.codeIn K ((fnD K (v_fPt K)).code) "Wants.total" = true := k_cPt
  have kPt : PySem.W.keepIn K (.ref (v_fPt K)) = true := k_kPt
  have aIK : PySem.W.nsIn K mainGlobals "InvalidKind" = some (some (.ref (v_IK K))) := of_decide_eq_true k_aIK
  obtain ⟨nmIK, qIK, NIK, bsIK, snIK, subIK, abIK, colIK, ddIK, m0IK, m1IK, m2IK, m3IK, m5IK, xIK⟩ := look_exc k_xIK
  have sIK : PySem.W.findIn K (.ref (v_IK K)) "__setattr__" = some (some (.builtin "object.__setattr__")) := of_decide_eq_true k_sIK
  have gIK : PySem.W.findIn K (.ref (v_IK K)) "__getattribute__" = some (some (.builtin "BaseException.__getattribute__")) := of_decide_eq_true k_gIK
  have hIK : PySem.W.findIn K (.ref (v_IK K)) "__getattr__" = some none := of_decide_eq_true k_hIK
  have nIK : PySem.W.findIn K (.ref (v_IK K)) "value" = some none := of_decide_eq_true k_nIK
  have iIK : PySem.W.findIn K (.ref (v_IK K)) "__init__" = some (some (.ref (v_fIK K))) := of_decide_eq_true k_iIK
  have tIK : PySem.W.typeIn K (.ref (v_fIK K)) = some (.type "function") := of_decide_eq_true k_tIK
  have lIK : K.lookup (v_fIK K) = some ⟨((oOf K (v_fIK K)).cls), ((oOf K (v_fIK K)).dict), .func (PySem.W.fnOf "__init__" "InvalidKind.__init__" (eArgs "value" ⟨34, 17, 34, 21⟩ ⟨34, 23, 34, 28⟩) (eBody "value" ⟨35, 8, 35, 12⟩ ⟨35, 8, 35, 18⟩ ⟨35, 21, 35, 26⟩ ⟨35, 8, 35, 26⟩) (eScope "value") .none .none ((fnD K (v_fIK K)).doc) ((fnD K (v_fIK K)).pyModule) ((fnD K (v_fIK K)).annotations) ((fnD K (v_fIK K)).code) ((fnD K (v_fIK K)).closureTuple)), ((oOf K (v_fIK K)).slots)⟩ := look_fn n_lIK (of_decide_eq_true k_lIK_d) (of_decide_eq_true k_lIK_k) rfl
  have cIK : PySem.W.codeIn K ((fnD K (v_fIK K)).code) "InvalidKind.__init__" = true := k_cIK
  have kIK : PySem.W.keepIn K (.ref (v_IK K)) = true := k_kIK
  have eIK : PySem.W.subIn K (.ref (v_IK K)) (.type "BaseException") = some true := of_decide_eq_true k_eIK
  have yIK : PySem.W.typeIn K (.ref (v_IK K)) = some (.type "type") := of_decide_eq_true k_yIK
  have dIK : PySem.W.hasDictIn K (v_IK K) = true := k_dIK
  have bIK : PySem.W.isClsIn K (v_IK K) = true := k_bIK
  have zIK : PySem.W.subIn K (.ref (v_IK K)) (.ref (v_IK K)) = some true := of_decide_eq_true k_zIK
  have aLa : PySem.W.nsIn K mainGlobals "law" = some (some (.ref (v_fLa K))) := of_decide_eq_true k_aLa
  have lLa : K.lookup (v_fLa K) = some ⟨((oOf K (v_fLa K)).cls), ((oOf K (v_fLa K)).dict), .func (PySem.W.fnOf "law" "law" (defArgs s_law) (defBody s_law) (defScope s_law) .none ((fnD K (v_fLa K)).kwdefaults) ((fnD K (v_fLa K)).doc) ((fnD K (v_fLa K)).pyModule) ((fnD K (v_fLa K)).annotations) (.ref (v_cL K)) ((fnD K (v_fLa K)).closureTuple)), ((oOf K (v_fLa K)).slots)⟩ := look_fn n_lLa (of_decide_eq_true k_lLa_d) rfl (of_decide_eq_true k_lLa_c)
  have cLa : PySem.W.codeIn K (.ref (v_cL K)) "law" = true := k_cLa
  exact all_mk X G hfa z_int z_len z_abs z_list z_tuple z_str z_set z_all z_isinstance z_repr z_range z_bool z_dict z_sum z_enumerate aA aB aC pgC hdC poC saC nC_signs nC_turns rdC gaC caC obG obT moC mv aCC pgCC hdCC poCC saCC nCC_font nCC_counts nCC_plates rdCC gaCC caCC moCC mvQ aW pgW hdW poW saW nW_font nW_counts caW moW bC yC zC mCNoneType sCNoneType mCstr sCstr mCint sCint mCtuple sCtuple mCdict sCdict bCC yCC zCC mCCNoneType sCCNoneType mCCstr sCCstr mCCint sCCint mCCtuple sCCtuple mCCdict sCCdict bW yW zW mWNoneType sWNoneType mWstr sWstr mWint sWint mWtuple sWtuple mWdict sWdict wCC_C wC_CC wC_W wW_C aLi lLi cLi kLi aFs lFs cFs kFs aSi lSi cSi kSi aSe lSe cSe kSe aIk lIk cIk kIk aKt lKt cKt kKt aPa lPa cPa kPa aIt lIt cIt kIt aNu lNu dNu cNu kNu aTa lTa dTa cTa kTa aAk lAk cAk kAk aEn lEn cEn kEn aCo lCo cCo kCo aPe lPe cPe kPe aDr lDr cDr kDr aPi lPi cPi kPi aSh lSh cSh kSh aFo lFo cFo kFo aHe lHe cHe kHe aKs lKs cKs kKs aOr lOr cOr kOr aPl lPl cPl kPl aFl lFl cFl kFl aFm lFm cFm kFm aMa lMa cMa kMa aLw lLw cLw kLw aFu lFu cFu kFu aPr lPr cPr kPr aOf lOf cOf kOf aOc lOc cOc kOc aInC iInC lInC dInC eInC0 cInC kInC mkC kCC aFe iFe lFe cFe kFe neC aKm iKm lKm cKm kKm aPs gPs tPs rPs lPs cPs aInCC iInCC lInCC dInCC eInCC0 cInCC kInCC mkCC kCCC aXp gXp tXp rXp lXp cXp aXe iXe lXe cXe kXe neCC aInW iInW lInW cInW kInW mkW kCW aWe iWe lWe cWe kWe neW aPt gPt tPt rPt lPt cPt kPt aIK xIK sIK gIK hIK nIK iIK tIK lIK cIK kIK eIK yIK dIK bIK zIK aLa lLa cLa
end My
end
open PySem PySem.W PySem.Calls PyProof.Rows
set_option maxRecDepth 100000 in
set_option maxHeartbeats 0 in
theorem PySem.Challenge.cw_hymnplates_k11_whole_fonts_and_cases_equ_holds : PySem.Challenge.rw_hymnplates_k11_whole_fonts_and_cases_equ.Holds := by
  w_on; o_law
  refine HandSHeadRun.head_any (r := OpenLaw.row PySem.Challenge.rw_hymnplates_k11_whole_fonts_and_cases_equ) (q := My.hV) (H := My.hH) (ob := My.hO) (M := 20000) (loose := My.namA) (d := HandSHeadRun.topDef (OpenLaw.row PySem.Challenge.rw_hymnplates_k11_whole_fonts_and_cases_equ).prog 63) (kwd := []) My.hO_eq
    (by kernel_rfl) (fun s => by kernel_rfl) My.hrun (by kernel_rfl) (by kernel_rfl) (by kernel_rfl) (by rfl) (by first | assumption | decide +kernel) (by decide +kernel) ⟨rfl, rfl, rfl, rfl, rfl, by decide +kernel⟩ ?hw ?hc
  case hw => w_witness2
  case hc =>
    refine My.walkE (l := PySem.Challenge.rw_hymnplates_k11_whole_fonts_and_cases_equ) (n := 63) (k := 13) (x := "_law_script") rfl (by decide) (by kernel_rfl) ⟨rfl, by decide, by decide⟩ ?F
    intro w mg fa h Y G hmg0
    obtain ⟨K, KX, S⟩ := Y
    have hmg : mg ("law" : PySem.Str) = some (.ref fa) := by
      have e : (HandSHeadRun.topDef (OpenLaw.row PySem.Challenge.rw_hymnplates_k11_whole_fonts_and_cases_equ).prog 63).name = ("law" : PySem.Str) := by kernel_rfl
      rw [← e]
      exact hmg0
    exact ⟨K, KX, My.facts_mk KX G hmg S⟩
