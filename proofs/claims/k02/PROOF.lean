import PyProof.Rows.All
import Wide.All
import OpenK.AllK
import Wide.FinOn
import HandS.ForMost
import HandS.Exc
import HandS.Wide
import HandS.Walk
import PyProof.ListStr
import HandS.Strs
import HandS.IsInst
import HandS.ClsMeth
import HandS.Property
import HandS.StrMore
import HandS.Lambda
import HandS.Style
import HandS.Text
import HandS.TupSets
import PyProof.Rows.SortStr
import HandS.ForSpec
import PyProof.ExcBaseAll.LookupError
import HandS.Defaults
import HandS.CallLocal
import HandS.Star
import HandS.ExcIs
import KE.KIsAll
import PyProof.StrOps2
import KE.KRevSl
import PyProof.StrLawsRepr
import HandS.EndTab
import PySem.Challenge.RW_hymnplates_k02_fonts_refused
section
set_option Elab.async false
set_option linter.all false
set_option maxRecDepth 100000
set_option maxHeartbeats 2000000
namespace My
open PySem PySem.Spec PyProof.Rows L2

/-! ### heaps as letters: what a step makes of one -/
/-- H1 is H with a new object o at p -/
structure New (H : Hp) (p : Addr) (o : HO) (H1 : Hp) : Prop where
  free : H p = none
  here : H1 p = some o
  els : ∀ b, b ≠ p → H1 b = H b
/-- H1 is H with the object at p changed to o -/
structure Wr (H : Hp) (p : Addr) (o : HO) (H1 : Hp) : Prop where
  here : H1 p = some o
  els : ∀ b, b ≠ p → H1 b = H b
theorem New.mk' {H : Hp} {p : Addr} {o : HO} (h : H p = none) : New H p o (upd H p o) := ⟨h, upd_same, fun _ n => upd_ne n⟩
theorem Wr.mk' {H : Hp} {p : Addr} {o : HO} : Wr H p o (upd H p o) := ⟨upd_same, fun _ n => upd_ne n⟩
theorem New.same {H H1 : Hp} {p : Addr} {o : HO} (n : New H p o H1) : Same H H1 := fun b u e => by
  rw [n.els b (ne_of_none e n.free)]; exact e
/-- all that was tracked, but at p, is as it was -/
def But (p : Addr) (H H1 : Hp) : Prop := ∀ b o, b ≠ p → H b = some o → H1 b = some o
theorem But.refl {p : Addr} (H : Hp) : But p H H := fun _ _ _ h => h
theorem But.trans {p : Addr} {H H1 H2 : Hp} (a : But p H H1) (b : But p H1 H2) : But p H H2 := fun c o n h => b c o n (a c o n h)
theorem But.of {p : Addr} {H H1 : Hp} (a : Same H H1) : But p H H1 := fun c o _ h => a c o h
theorem Wr.but {H H1 : Hp} {p : Addr} {o : HO} (n : Wr H p o H1) : But p H H1 := fun b u hb e => by
  rw [n.els b hb]; exact e
/-- a change at a place that H0 did not track -/
theorem Same.wr {H0 H H1 : Hp} {p : Addr} {o : HO} (s : Same H0 H) (f : H0 p = none) (n : Wr H p o H1) : Same H0 H1 := fun b u e => by
  rw [n.els b (ne_of_none e f)]; exact s b u e
theorem But.wr {H0 H H1 : Hp} {p q : Addr} {o : HO} (s : But q H0 H) (f : H0 p = none) (n : Wr H p o H1) : But q H0 H1 := fun b u hb e => by
  rw [n.els b (ne_of_none e f)]; exact s b u hb e
theorem But.free {p b : Addr} {H H1 : Hp} (s : But p H H1) (hb : b ≠ p) (h : H1 b = none) : H b = none := by
  cases q : H b with
  | none => rfl
  | some o => rw [s b o hb q] at h; cases h
theorem But.seq {K : PySem.W.Frag} {H H' : Hp} {p a : Addr} {xs : List V} (e : But p H H') (hn : a ≠ p) (h : SqL K H a xs) : SqL K H' a xs := by
  rcases h with (h | ⟨o, h⟩) | h
  · exact .inl (.inl (e _ _ hn h))
  · exact .inl (.inr ⟨o, e _ _ hn h⟩)
  · exact .inr h

theorem _root_.L2.Same.tupl {K : PySem.W.Frag} {H H' : Hp} {a : Addr} {xs : List V} (e : Same H H') (h : SqT K H a xs) : SqT K H' a xs := by
  rcases h with (h | ⟨o, h⟩) | h
  · exact .inl (.inl (e _ _ h))
  · exact .inl (.inr ⟨o, e _ _ h⟩)
  · exact .inr h
/-! ### rules whose heaps are letters -/
section
variable {X : Cx}
theorem PE.weak {e : Expr} {t t' : TE} (h : PE X e t) (hw : ∀ σ H Q, t' σ H Q → t σ H Q) : PE X e t' := ⟨fun pins s σ H Q I q => h.run pins s σ H Q I (hw σ H Q q)⟩
/-- what follows may be weakened -/
def mcE (t : TE) : TE := fun σ H Q => ∃ R : VK, t σ H R ∧ ∀ v H', R v H' → Q v H'
def mcA (t : TA) : TA := fun σ H Q => ∃ R : List V → Hp → Prop, t σ H R ∧ ∀ v H', R v H' → Q v H'
theorem PE.mc {e : Expr} {t : TE} (h : PE X e t) : PE X e (mcE t) := ⟨fun pins s σ H Q I q => by
  obtain ⟨R, q1, q2⟩ := q
  exact thn (h.run pins s σ H R I q1) fun _ _ ⟨v, H', J, r, z⟩ => ⟨v, H', J, r, q2 _ _ z⟩⟩
theorem PA.mc {es : List Expr} {t : TA} (h : PA X es t) : PA X es (mcA t) := ⟨fun pos pins s σ H Q I q => by
  obtain ⟨R, q1, q2⟩ := q
  exact thn (h.run pos pins s σ H R I q1) fun _ _ ⟨v, H', J, r, z⟩ => ⟨v, H', J, r, q2 _ _ z⟩⟩
theorem OpR.weak {f : Value → Value → Sem Value} {r r' : R2} (h : OpR X f r) (hw : ∀ x y H Q, r' x y H Q → r x y H Q) : OpR X f r' := fun pins s σ H x y v u Q I rx ry q => h pins s σ H x y v u Q I rx ry (hw _ _ _ _ q)
theorem CallR.weak {f : Value} {r r' : List V → Hp → VK → Prop} (h : CallR X f r) (hw : ∀ xs H Q, r' xs H Q → r xs H Q) : CallR X f r' := fun pins s σ H xs us Q I rx q => h pins s σ H xs us Q I rx (hw _ _ _ q)
theorem MtM.weak {id : String} {r r' : V → List V → Hp → VK → Prop} (h : MtM X id r) (hw : ∀ x xs H Q, r' x xs H Q → r x xs H Q) : MtM X id r' := fun pins s σ H x xs v us Q I rx rv q => h pins s σ H x xs v us Q I rx rv (hw _ _ _ _ q)
theorem SlR.weak {r r' : V → Option Int → Option Int → Hp → VK → Prop} (h : SlR X r) (hw : ∀ x lo hi H Q, r' x lo hi H Q → r x lo hi H Q) : SlR X r' := fun pins s σ H x v vl vu lo hi sl Q I a b c d q => h pins s σ H x v vl vu lo hi sl Q I a b c d (hw _ _ _ _ _ q)

/-- [a, b] -/
def qLst (t : TA) : TE := fun σ H Q => t σ H fun xs H1 => xs.length ≤ sizeLine ∧ ∀ p H2, New H1 p (.lst xs) H2 → Q (.ref p) H2
/-- (a, b) -/
def qTup (t : TA) : TE := fun σ H Q => t σ H fun xs H1 => xs.length ≤ sizeLine ∧ ∀ p H2, New H1 p (.tup xs) H2 → Q (.ref p) H2
theorem pe_lst' {es : List Expr} {t : TA} {pos : Pos} (h : PA X es t) : PE X (.List es pos) (qLst t) :=
  PE.weak (pe_lst (PA.mc h)) fun σ H Q q => ⟨_, q, fun _ _ z => ⟨z.1, fun p hp => z.2 p _ (.mk' hp)⟩⟩
theorem pe_tup' {es : List Expr} {t : TA} {pos : Pos} {x1} (h : PA X es t) : PE X (.Tuple es x1 pos) (qTup t) :=
  PE.weak (pe_tup (PA.mc h)) fun σ H Q q => ⟨_, q, fun _ _ z => ⟨z.1, fun p hp => z.2 p _ (.mk' hp)⟩⟩
/-- list(xs) -/
def qListOf (K : PySem.W.Frag) : List V → Hp → VK → Prop := fun xs H Q => ∃ p ys, xs = [.ref p] ∧ (SqL K H p ys ∨ SqT K H p ys) ∧ ∀ l H', New H l (.lst ys) H' → Q (.ref l) H'
theorem call_listOf : CallR X (.type "list") (qListOf X.K) := CallR.weak call_list_of fun xs H Q q => by
  obtain ⟨p, ys, e, h, k⟩ := q
  exact ⟨p, ys, e, h, fun l hl => k l _ (.mk' hl)⟩
/-- tuple(xs), xs a list -/
def qTupOfL (K : PySem.W.Frag) : List V → Hp → VK → Prop := fun xs H Q => ∃ p ys, xs = [.ref p] ∧ SqL K H p ys ∧ ∀ l H', New H l (.tup ys) H' → Q (.ref l) H'
theorem call_tupOfL : CallR X (.type "tuple") (qTupOfL X.K) := CallR.weak call_tuple_of fun xs H Q q => by
  obtain ⟨p, ys, e, h, k⟩ := q
  exact ⟨p, ys, e, .inl ⟨h, fun l hl => k l _ (.mk' hl)⟩⟩
/-- xs[lo:hi] -/
def qSlL (K : PySem.W.Frag) : V → Option Int → Option Int → Hp → VK → Prop := fun x lo hi H Q => ∃ a xs, x = .ref a ∧ SqL K H a xs ∧ ∀ p H', New H p (.lst (cutV xs lo hi)) H' → Q (.ref p) H'
theorem sl_list' : SlR X (qSlL X.K) := SlR.weak sl_list fun x lo hi H Q q => by
  obtain ⟨a, xs, e, h, k⟩ := q
  exact ⟨a, xs, e, h, fun p hp => k p _ (.mk' hp)⟩
/-- xs + ys -/
def qCat : R2 := fun x y H Q => ∃ a b xs ys, x = .ref a ∧ y = .ref b ∧ H a = some (.lst xs) ∧ H b = some (.lst ys) ∧ xs.length + ys.length ≤ sizeLine ∧ ∀ p H', New H p (.lst (xs ++ ys)) H' → Q (.ref p) H'
theorem op_cat' : OpR X (binaryOp .Add) qCat := OpR.weak op_cat fun x y H Q q => by
  obtain ⟨a, b, xs, ys, e1, e2, h1, h2, hl, k⟩ := q
  exact ⟨a, b, xs, ys, e1, e2, h1, h2, hl, fun p hp => k p _ (.mk' hp)⟩
/-- xs.append(y), xs.pop(), xs.pop(i) -/
def qAppend : V → List V → Hp → VK → Prop := fun x vs H Q => ∃ l xs y, x = .ref l ∧ vs = [y] ∧ H l = some (.lst xs) ∧ xs.length < sizeLine ∧ ∀ H', Wr H l (.lst (xs ++ [y])) H' → Q .non H'
theorem mt_append' : MtM X "list.append" qAppend := MtM.weak mt_append fun x vs H Q q => by
  obtain ⟨l, xs, y, e1, e2, h, hl, k⟩ := q
  exact ⟨l, xs, y, e1, e2, h, hl, k _ .mk'⟩
def qPop : V → List V → Hp → VK → Prop := fun x vs H Q => ∃ l xs y, x = .ref l ∧ vs = [] ∧ H l = some (.lst xs) ∧ xs[xs.length - 1]? = some y ∧ ∀ H', Wr H l (.lst xs.dropLast) H' → Q y H'
theorem mt_pop' : MtM X "list.pop" qPop := MtM.weak mt_pop fun x vs H Q q => by
  obtain ⟨l, xs, y, e1, e2, h, hl, k⟩ := q
  exact ⟨l, xs, y, e1, e2, h, hl, k _ .mk'⟩
def qPopAt : V → List V → Hp → VK → Prop := fun x vs H Q => ∃ l xs y, ∃ i : Nat, x = .ref l ∧ vs = [.int i] ∧ H l = some (.lst xs) ∧ xs[i]? = some y ∧ xs.length < 2 ^ 62 ∧ ∀ H', Wr H l (.lst (xs.eraseIdx i)) H' → Q y H'
theorem mt_popAt' : MtM X "list.pop" qPopAt := MtM.weak mt_popAt fun x vs H Q q => by
  obtain ⟨l, xs, y, i, e1, e2, h, hy, hl, k⟩ := q
  have hi : i < xs.length := (List.getElem?_eq_some_iff.mp hy).1
  refine ⟨l, xs, i, i, y, e1, e2, h, by omega, by omega, ?_, hy, k _ .mk'⟩
  have e0 : ¬ ((i : Int) < 0) := by omega
  unfold seqIndex?
  simp only [if_neg e0]
  have e1 : (decide (0 ≤ (i : Int)) && decide ((i : Int) < (xs.length : Int))) = true := by
    rw [Bool.and_eq_true, decide_eq_true_eq, decide_eq_true_eq]
    omega
  rw [if_pos e1, Int.toNat_natCast]
/-- xs != [], xs a list of anything -/
def qNeNil (K : PySem.W.Frag) : R2 := fun x y H Q => ∃ a b xs, x = .ref a ∧ y = .ref b ∧ SqL K H a xs ∧ H b = some (.lst []) ∧ Q (.bl (!xs.isEmpty)) H
theorem op_neNil (hu : X.A.units < cLine) : OpR X (compareOp .NotEq) (qNeNil X.K) := by
  intro pins s σ H x y v u Q I rx ry h
  obtain ⟨a, b, xs, rfl, rfl, ha, hb, q⟩ := h
  cases rx
  cases ry
  obtain ⟨its, r1, p1, _⟩ := I.list ha
  obtain ⟨its2, r2, p2, _⟩ := I.list (SqL.of hb : SqL X.K H b [])
  have e2 : its2 = [] := by
    cases r2
    rfl
  subst e2
  cases r1 with
  | nil => exact SeqAt.RcNeAt.lists (e := fun _ => true) p1.isList p2.isList rfl hu (fun j h1 _ => absurd h1 (by simp)) X.prog X.w X.xe _ ⟨.bl _, H, I, rfl, q⟩
  | cons _ _ => exact SeqAt.RcNeAt.lists_lengths p1.isList p2.isList (by simp) hu X.prog X.w X.xe _ ⟨.bl _, H, I, rfl, q⟩
end
end My
end
section
set_option Elab.async false
set_option linter.all false
set_option maxRecDepth 100000
set_option maxHeartbeats 2000000
namespace My
open PySem PySem.Spec PyProof.Rows L2

/-! ### defs that are called where no repr is under way -/
structure FnG (P : Program) (w : World) (K : PySem.W.Frag) (mg : Str → Option Value) (base : Heap) (k : Nat) (f : Addr) (fd : FuncData) (ps : List Str) (sp : Sp) : Prop where
  size : ∀ vs H Q E, sp vs H Q E → vs.length = ps.length
  goes : ∀ (A : Around) (o : List Env) (s : Shared) (H : Hp) (args : Args) (us : List Value) (vs : List V) (Q : VK) (E : XK), A.guards = some [] → Room k A → Env0 P w K mg base A o s H → BindsTo s fd args (ps.zip us) → Vals vs us → sp vs H Q E →
    codeAny (model P w) A (.call (.ref f) args) (CR CX0 o P w H s Q E) s
section
variable {P : Program} {w : World} {K : PySem.W.Frag} {mg : Str → Option Value} {base : Heap}
theorem FnG.ofOk {k : Nat} {f : Addr} {fd : FuncData} {ps : List Str} {sp : Sp} (F : FnOk P w K mg base CX0 k f fd ps sp) : FnG P w K mg base k f fd ps sp :=
  ⟨F.len, fun A o s H args us vs Q E _ hr e b v q => F.run A o s H args us vs Q E hr e b v q⟩
theorem FnG.imp {k : Nat} {f : Addr} {fd : FuncData} {ps : List Str} {sp sp' : Sp} (F : FnG P w K mg base k f fd ps sp) (h : ∀ vs H Q E, sp' vs H Q E → sp vs H Q E) : FnG P w K mg base k f fd ps sp' :=
  ⟨fun vs H Q E q => F.size vs H Q E (h _ _ _ _ q), fun A o s H args us vs Q E g hr e b v q => F.goes A o s H args us vs Q E g hr e b v (h _ _ _ _ q)⟩
theorem guards_deeper {A : Around} {env : Env} (h : A.guards = some []) : (A.deeper env).guards = some [] := h
/-- a def by its body, where no repr is under way -/
theorem okG {x qual : Str} {st : Stmt} {f : Addr} {fd : FuncData} {N ps : List Str} {k : Nat} {sp : Sp} (F : Fun K x qual st f fd) (S : FnScope N ps (defScope st)) (size : ∀ vs H Q E, sp vs H Q E → vs.length = ps.length)
    (body : ∀ (cdv : Value) (A : Around) (o : List Env) (s : Shared) (H : Hp) (vs : List V) (Q : VK) (E : XK), (A.deeper (envOfC qual (defScope st) s.heap.objs.size f cdv)).guards = some [] → Room k (A.deeper (envOfC qual (defScope st) s.heap.objs.size f cdv)) → sp vs H Q E →
      ∃ t, PSs (cxOf CX0 P w K mg base N qual (defScope st) f cdv A o s H E).nox (defBody st) t ∧ t { nx := fun _ H' => Q .non H', rt := Q } (L2.start N vs) H) : FnG P w K mg base (k + 1) f fd ps sp := by
  obtain ⟨oc, od, kV, doc, pm, an, cdv, ct, osl, rfl, lk, hcd⟩ := F.ex
  constructor
  · exact size
  intro A o s H args us vs Q E g room e0 bd rel want
  have hlen := size _ _ _ _ want
  have kin := e0.mod.kin.keeps fun b ob z => (e0.bs b ob z).1
  have nolim := e0.mod.nolimit.keeps fun b ob z => (e0.bs b ob z).1
  have kinds : ∀ y ∈ ps.zip us, (defScope st).names.lookup y.1 = some .local ∨ ((defScope st).names.lookup y.1 = some .cell ∧ ((cellsFrom (s.heap.objs.size + 1) (defScope st).names []).lookup y.1).isSome = true) := by
    intro y hy
    obtain ⟨n, v⟩ := y
    cases S.par n (List.of_mem_zip hy).1 with
    | inl z => exact Or.inl z
    | inr z => exact Or.inr ⟨z, PySem.W.cellsFrom_some _ _ _ (Or.inl z)⟩
  apply codeAny_call_function room.depth (kin _ _ lk) rfl S.co S.gen rfl (PySem.W.codeRec_of kin hcd)
  apply bd
  apply wpAny_newFunctionEnv_cells S.kind kinds
  intro env henv s1 x
  subst henv
  constructor
  · exact nolim.keeps x.toInCall.keep
  apply codeAny_func
  obtain ⟨t, der, rd⟩ := body cdv A o s H vs Q E (guards_deeper g) (room.deeper _) want
  have J : Inv (cxOf CX0 P w K mg base N qual (defScope st) f cdv A o s H E) [] (L2.start N vs) H s1 := inv_start S room.hd e0 hlen rel x
  apply wpAny_mono (der.nox.run [] s1 (L2.start N vs) H _ J rd)
  · intro fl s' hs
    cases fl with
    | ret u =>
      obtain ⟨v, σ', H', J', rv, q⟩ := hs
      exact ⟨v, H', J'.os, J'.bare, J'.base, J'.hok, rv, q⟩
    | next =>
      obtain ⟨σ', H', J', q⟩ := hs
      exact ⟨V.non, H', J'.os, J'.bare, J'.base, J'.hok, rfl, q⟩
    | brk => exact hs.choose_spec.choose_spec.2.elim
    | cont => exact hs.choose_spec.choose_spec.2.elim
  · intro e s' hs
    exact hs
end
section
variable {X : Cx} {k : Nat} {f : Addr} {fd : FuncData} {ps : List Str} {sp : Sp} {dvs : List V} {ds : List Value} {E : XK} {x : Str} {p pos : Pos} {e : Expr} {es : List Expr} {t : TA}
/-- the callee runs, no repr under way -/
theorem runG {pins : List (Addr × Obj)} {σ : L2.St} {H : Hp} {s : Shared} {Q : VK} {us : List Value} {vs : List V} (F : FnG X.prog X.w X.K X.mg X.base k f fd ps sp) (g : X.A.guards = some []) (hr : Room k X.A) (hb : Binds X.K fd ps ds) (hd : Vals dvs ds)
    (I : Inv X pins σ H s) (r : Vals vs us) (h : sp (vs ++ dvs) H Q E) : wpAny (model X.prog X.w) X.A (call (.ref f) us) (EP X pins σ Q) X.xe s := by
  have rr := r.append hd
  have hl : (us ++ ds).length = ps.length := rr.length.symm.trans (F.size _ _ _ _ h)
  apply wpAny_call
  apply codeAny_mono (F.goes X.A X.stack s H ⟨us, []⟩ (us ++ ds) (vs ++ dvs) Q E g hr I.env0 (hb s us I.kIn hl) rr h)
  intro r' s' hq
  match r', hq with
  | .error _, hq => exact hq.elim
  | .ok (.ret _), hq => exact I.after hq
  | .ok .next, hq => exact hq.elim
  | .ok .brk, hq => exact hq.elim
  | .ok .cont, hq => exact hq.elim
/-- f(a, ..), no repr under way -/
theorem pe_callG (F : FnG X.prog X.w X.K X.mg X.base k f fd ps sp) (g : X.A.guards = some []) (hr : Room k X.A) (hg : Gl X x) (hm : X.mg x = some (.ref f)) (hk : PySem.W.keepIn X.K (.ref f) = true) (hb : Binds X.K fd ps ds) (hd : Vals dvs ds) (ha : PA X (e :: es) t)
    (hdb : (x == ("__debug__" : Str)) = false := by decide) (he : starEach (e :: es) X.env = (false, eval e X.env) :: starEach es X.env := by rfl) (hpl : (backTo pos (starEach es X.env)).any (·.1) = false := by rfl) : PE X (.Call (.Name x p) (e :: es) [] pos) (tCall sp dvs E t) := by
  constructor
  intro pins s σ H Q I h
  apply wpAny_Call_Name_kw
  apply ld_glob I hg hm _ hdb
  apply PySem.W.callWith_K (h₀ := X.base) I.ok.mod.kin hk _ he hpl
  apply thn (ha.run pos pins s σ H _ I h)
  intro us s1 hq
  obtain ⟨vs, H1, I1, r, q⟩ := hq
  exact ⟨I1.kIn, runG F g hr hb hd I1 r q⟩
end

/-! ### repr of data -/
section
variable {X : Cx}
/-- repr(x), no repr under way: data without dicts -/
def qRepr (K : PySem.W.Frag) : List V → Hp → VK → Prop := fun xs H Q => ∃ x d, xs = [x] ∧ Dp K H x d ∧ d.showable = true ∧ d.hasDict = false ∧ d.shown.length ≤ sizeLine ∧ d.depth ≤ 60 ∧ Q (.str d.shown) H
theorem call_repr (g : X.A.guards = some []) (hu : X.A.units + 64 < cLine) : CallR X (.builtin "repr") (qRepr X.K) := by
  intro pins s σ H xs us Q I r h
  obtain ⟨x, d, rfl, hd, h1, h2, h3, h4, q⟩ := h
  obtain ⟨u, rfl, rx⟩ := vals1 r
  obtain ⟨as, rd⟩ := Dp.reads I d x u hd rx
  have fin : ∀ (h' : Heap) (t : Tok) (tk : Nat), (∀ b o, s.heap.get? b = some o → h'.get? b = some o) → EP X pins σ Q (.str d.shown t) { s with heap := h', toks := tk } := by
    intro h' t tk hk
    exact ⟨.str d.shown, H, I.kept (t' := tk) hk, ⟨t, rfl⟩, q⟩
  cases hd with
  | non =>
    cases rx
    exact PySem.P.repr_of_none (fin _ _ _ fun _ _ z => z)
  | bl b =>
    cases rx
    exact PySem.P.repr_of_bool (fin _ _ _ fun _ _ z => z)
  | int i =>
    obtain ⟨t, rfl⟩ := rx
    exact PySem.P.repr_of_int (by simpa [PyData.showable] using h1) (fin _ _ _ fun _ _ z => z)
  | str z =>
    obtain ⟨t, rfl⟩ := rx
    exact PySem.P.repr_of_str (fin _ _ _ fun _ _ z => z) (by simpa only [PyData.shown] using h3)
  | lst a b =>
    cases rx
    exact repr_of_reads' rd h1 (PyData.noDict_hsm h2) g (by omega) (fun _ _ z => z) (fun h' t tk hk => fin h' t tk hk) h3
  | tup a b =>
    cases rx
    exact repr_of_reads' rd h1 (PyData.noDict_hsm h2) g (by omega) (fun _ _ z => z) (fun h' t tk hk => fin h' t tk hk) h3
end
end My
end
section
set_option Elab.async false
set_option linter.all false
set_option maxRecDepth 100000
set_option maxHeartbeats 2000000
namespace My
open PySem PySem.Spec PyProof.Rows L2
/-! ### the pen -/
abbrev penK (c : Addr) (u l : Int) : List (Key × V) := [(.inr "cells", .ref c), (.inr "used", .int u), (.inr "left", .int l)]
/-- the pen at p, its cells at c, drawn from at most n times -/
def PenAt (H : Hp) (p c : Addr) (n : Nat) : Prop := ∃ (cs : List Int) (u l : Int), H p = some (.dK (penK c u l)) ∧ H c = some (.lst (cs.map V.int)) ∧ 0 ≤ u ∧ u ≤ n ∧ cs.length ≤ 63
theorem penK_cells (c : Addr) (u l : Int) : valV (penK c u l) (Sum.inr "cells" : Key) = some (.ref c) := rfl
theorem penK_used (c : Addr) (u l : Int) : valV (penK c u l) (Sum.inr "used" : Key) = some (.int u) := rfl
theorem penK_left (c : Addr) (u l : Int) : valV (penK c u l) (Sum.inr "left" : Key) = some (.int l) := rfl
theorem penK_put_used (c : Addr) (u l z : Int) : putK (penK c u l) (Sum.inr "used" : Key) (.int z) = penK c z l := rfl
theorem penK_put_left (c : Addr) (u l z : Int) : putK (penK c u l) (Sum.inr "left" : Key) (.int z) = penK c u z := rfl
theorem dget_cells {H : Hp} {p c : Addr} {u l : Int} (h : H p = some (.dK (penK c u l))) : DGet H p (.str "cells") (some (.ref c)) := DGet.k (k := Sum.inr "cells") h
theorem dget_used {H : Hp} {p c : Addr} {u l : Int} (h : H p = some (.dK (penK c u l))) : DGet H p (.str "used") (some (.int u)) := DGet.k (k := Sum.inr "used") h
theorem dget_left {H : Hp} {p c : Addr} {u l : Int} (h : H p = some (.dK (penK c u l))) : DGet H p (.str "left") (some (.int l)) := DGet.k (k := Sum.inr "left") h
theorem dput_used {H : Hp} {p c : Addr} {u l z : Int} (h : H p = some (.dK (penK c u l))) : DPut H p (.str "used") (.int z) (upd H p (.dK (penK c z l))) := DPut.k (k := Sum.inr "used") h (by show 3 < sizeLine; decide)
theorem dput_left {H : Hp} {p c : Addr} {u l z : Int} (h : H p = some (.dK (penK c u l))) : DPut H p (.str "left") (.int z) (upd H p (.dK (penK c u z))) := DPut.k (k := Sum.inr "left") h (by show 3 < sizeLine; decide)
theorem PenAt.mono {H : Hp} {p c : Addr} {n m : Nat} (h : PenAt H p c n) (l : n ≤ m) : PenAt H p c m := by
  obtain ⟨cs, u, z, h1, h2, h3, h4, h5⟩ := h
  exact ⟨cs, u, z, h1, h2, h3, by omega, h5⟩
theorem PenAt.ne {H : Hp} {p c q : Addr} {n : Nat} (h : PenAt H p c n) (f : H q = none) : p ≠ q := by
  obtain ⟨cs, u, z, h1, _⟩ := h
  exact ne_of_none h1 f
theorem PenAt.neC {H : Hp} {p c q : Addr} {n : Nat} (h : PenAt H p c n) (f : H q = none) : c ≠ q := by
  obtain ⟨cs, u, z, _, h2, _⟩ := h
  exact ne_of_none h2 f
theorem PenAt.neL {H : Hp} {p c q : Addr} {n : Nat} {xs : List V} (h : PenAt H p c n) (f : H q = some (.lst xs)) : q ≠ p := by
  obtain ⟨cs, u, z, h1, _⟩ := h
  exact ne_of f h1 (by intro z; cases z)
theorem PenAt.neT {H : Hp} {p c q : Addr} {n : Nat} {xs : List V} (h : PenAt H p c n) (f : H q = some (.tup xs)) : q ≠ p := by
  obtain ⟨cs, u, z, h1, _⟩ := h
  exact ne_of f h1 (by intro z; cases z)
theorem PenAt.same {H H1 : Hp} {p c : Addr} {n : Nat} (s : Same H H1) (h : PenAt H p c n) : PenAt H1 p c n := by
  obtain ⟨cs, u, z, h1, h2, h3, h4, h5⟩ := h
  exact ⟨cs, u, z, s _ _ h1, s _ _ h2, h3, h4, h5⟩
theorem PenAt.els {H H1 : Hp} {p c q : Addr} {o : HO} {n : Nat} (w : Wr H q o H1) (hp : p ≠ q) (hc : c ≠ q) (h : PenAt H p c n) : PenAt H1 p c n := by
  obtain ⟨cs, u, z, h1, h2, h3, h4, h5⟩ := h
  exact ⟨cs, u, z, (w.els p hp).trans h1, (w.els c hc).trans h2, h3, h4, h5⟩
/-- what a def that draws leaves: the pen, drawn from at most m times; all else as it was -/
structure DrewP (H : Hp) (p c : Addr) (m : Nat) (H1 : Hp) : Prop where
  but : But p H H1
  pen : PenAt H1 p c m
theorem DrewP.trans {H H1 H2 : Hp} {p c : Addr} {m k : Nat} (a : DrewP H p c m H1) (b : DrewP H1 p c k H2) : DrewP H p c k H2 := ⟨a.but.trans b.but, b.pen⟩
theorem DrewP.new {H H1 H2 : Hp} {p c q : Addr} {o : HO} {m : Nat} (a : DrewP H p c m H1) (b : New H1 q o H2) : DrewP H p c m H2 := ⟨a.but.trans (.of b.same), a.pen.same b.same⟩
theorem DrewP.mono {H H1 : Hp} {p c : Addr} {m k : Nat} (a : DrewP H p c m H1) (h : m ≤ k) : DrewP H p c k H1 := ⟨a.but, a.pen.mono h⟩

theorem cutV_to (xs : List V) (n : Nat) : cutV xs none (some (n : Int)) = xs.take n := by
  unfold cutV
  rw [HT.sIx_none, HT.sIx_nat, List.drop_zero, Nat.sub_zero, ← List.take_eq_take_min]
theorem fmod_bounds (i : Int) {m : Int} (h : 0 < m) : 0 ≤ i.fmod m ∧ i.fmod m < m := ⟨Int.fmod_nonneg_of_pos i h, Int.fmod_lt_of_pos i h⟩
theorem cmul200 {i j : Int} (hi : -(2 ^ 200) < i ∧ i < 2 ^ 200) (hj : -(2 ^ 200) < j ∧ j < 2 ^ 200) : CMulW i j := wide_mul (a := 200) (b := 200) (by omega) (by omega) (by decide) (by decide) (by decide)
/-! ### promises of the helpers that draw -/
def sp_pen (K : PySem.W.Frag) : Sp := fun vs H Q _ => ∃ (a : Addr) (ns : List Int), vs = [.ref a] ∧ SqL K H a (ns.map V.int) ∧ ns.length ≤ 63 ∧ ∀ H' p c, Same H H' → H p = none → PenAt H' p c 0 → Q (.ref p) H'
/-- a number from 0 to m - 1, m at most sixty millions -/
def sp_draw : Sp := fun vs H Q _ => ∃ (p c : Addr) (m : Int) (n : Nat), vs = [.ref p, .int m] ∧ PenAt H p c n ∧ n < 2 ^ 60 ∧ 0 < m ∧ m ≤ 60000000 ∧ ∀ H' r, DrewP H p c (n + 1) H' → 0 ≤ r → r < m → Q (.int r) H'
end My
end
section
set_option Elab.async false
set_option linter.all false
set_option maxRecDepth 100000
set_option maxHeartbeats 2000000
namespace My
open PySem PySem.Spec PyProof.Rows L2
/-- the signs of a text, one text each -/
def signs (z : Str) : List V := z.cps.toList.map fun c => V.str ⟨#[c]⟩
theorem signs_len (z : Str) : (signs z).length = z.length := by
  unfold signs
  rw [List.length_map, Array.length_toList]
  rfl
/-- what is iterated over: a list, a tuple, a text -/
inductive SqA (K : PySem.W.Frag) (H : Hp) : V → List V → Prop
  | lst {a : Addr} {xs : List V} : SqL K H a xs → SqA K H (.ref a) xs
  | tup {a : Addr} {xs : List V} : SqT K H a xs → SqA K H (.ref a) xs
  | str {z : Str} : z.length ≤ sizeLine → SqA K H (.str z) (signs z)
theorem vals_signs {z : Str} {acc : Array Value} (h : ItemsOf (SignAt z) acc z.cps.size) : Vals (signs z) acc.toList := by
  obtain ⟨hs, hi⟩ := h
  have aux : ∀ (l : List Nat) (us : List Value), us.length = l.length → (∀ (j : Nat) (u : Value), us[j]? = some u → ∃ c t, l[j]? = some c ∧ u = Value.str ⟨#[c]⟩ t) → Vals (l.map fun c => V.str ⟨#[c]⟩) us := by
    intro l
    induction l with
    | nil =>
      intro us hl _
      cases us with
      | nil => exact .nil
      | cons _ _ => simp at hl
    | cons c l ih =>
      intro us hl hg
      cases us with
      | nil => simp at hl
      | cons u us =>
        obtain ⟨c', t, e1, e2⟩ := hg 0 u rfl
        have e3 : c = c' := by simpa using e1
        subst e3
        exact .cons ⟨t, e2⟩ (ih us (by simpa using hl) fun j v hj => hg (j + 1) v (by simpa using hj))
  refine aux z.cps.toList acc.toList (by simpa using hs) fun j u hj => ?_
  obtain ⟨c, t, e1, e2⟩ := hi j u (by simpa using hj)
  exact ⟨c, t, by simpa using e1, e2⟩
section
variable {X : Cx}
theorem CallR.or {f : Value} {r r' : List V → Hp → VK → Prop} (h : CallR X f r) (h' : CallR X f r') : CallR X f (fun xs H Q => r xs H Q ∨ r' xs H Q) := fun pins s σ H xs us Q I rx q =>
  q.elim (h pins s σ H xs us Q I rx) (h' pins s σ H xs us Q I rx)
/-- list(z), z a text -/
theorem call_listStr (hh : X.A.handled = none) : CallR X (.type "list") (fun xs H Q => ∃ z, xs = [.str z] ∧ z.length ≤ sizeLine ∧ ∀ l H', New H l (.lst (signs z)) H' → Q (.ref l) H') := by
  intro pins s σ H xs us Q I r h
  obtain ⟨z, rfl, hz, q⟩ := h
  obtain ⟨u, rfl, t, rfl⟩ := vals1 r
  refine call_list_str hh z t (fun h' tk acc' c' hk hS hacc => ?_) hz
  have hn := I.hok.fresh (Nat.le_refl s.heap.objs.size)
  exact ⟨.ref s.heap.objs.size, _, I.laid (t' := tk) hk (Nat.le_refl _) (show ObjOk X.prog X.w _ h' _ (.lst (signs z)) from ⟨by rw [signs_len]; exact hz, acc'.toList, c', vals_signs hacc, by simpa using hS⟩), rfl, q _ _ (.mk' hn)⟩
/-- list(x), x a list, a tuple or a text -/
def qListAny (K : PySem.W.Frag) : List V → Hp → VK → Prop := fun xs H Q => ∃ x ys, xs = [x] ∧ SqA K H x ys ∧ ∀ l H', New H l (.lst ys) H' → Q (.ref l) H'
theorem call_listAny (hh : X.A.handled = none) : CallR X (.type "list") (qListAny X.K) := CallR.weak (CallR.or call_listOf (call_listStr hh)) fun xs H Q q => by
  obtain ⟨x, ys, rfl, h, k⟩ := q
  cases h with
  | lst h => exact .inl ⟨_, ys, rfl, .inl h, k⟩
  | tup h => exact .inl ⟨_, ys, rfl, .inr h, k⟩
  | str h => exact .inr ⟨_, rfl, h, k⟩
end
theorem SqA.same {K : PySem.W.Frag} {H H1 : Hp} {x : V} {xs : List V} (s : Same H H1) (h : SqA K H x xs) : SqA K H1 x xs := by
  cases h with
  | lst h => exact .lst (s.seq h)
  | tup h => exact .tup (by
      rcases h with (h | ⟨o, h⟩) | h
      · exact .inl (.inl (s _ _ h))
      · exact .inl (.inr ⟨o, s _ _ h⟩)
      · exact .inr h)
  | str h => exact .str h
theorem perm_eraseIdx {α : Type} {l : List α} {j : Nat} (h : j < l.length) : (l[j] :: l.eraseIdx j).Perm l := by
  have e : l = l.take j ++ l[j] :: l.drop (j + 1) := by
    rw [List.getElem_cons_drop, List.take_append_drop]
  rw [List.eraseIdx_eq_take_drop_succ]
  exact List.perm_middle.symm.trans (.of_eq e.symm)
/-! ### promises -/
/-- one of the items of a list -/
def sp_pick (K : PySem.W.Frag) : Sp := fun vs H Q _ => ∃ (p c a : Addr) (xs : List V) (n : Nat), vs = [.ref p, .ref a] ∧ PenAt H p c n ∧ n < 2 ^ 60 ∧ SqL K H a xs ∧ a ≠ p ∧ 0 < xs.length ∧ xs.length ≤ 1000000 ∧
  ∀ H' v, DrewP H p c (n + 1) H' → v ∈ xs → Q v H'
/-- the items in some order -/
def sp_shuf (K : PySem.W.Frag) : Sp := fun vs H Q _ => ∃ (p c : Addr) (x : V) (xs : List V) (n : Nat), vs = [.ref p, x] ∧ PenAt H p c n ∧ n + xs.length < 2 ^ 60 ∧ SqA K H x xs ∧ xs.length ≤ 1000000 ∧
  ∀ H' r ys, DrewP H p c (n + xs.length) H' → H r = none → H' r = some (.lst ys) → ys.Perm xs → Q (.ref r) H'
end My
end
section
set_option Elab.async false
set_option linter.all false
set_option maxRecDepth 100000
set_option maxHeartbeats 3200000
namespace My
open PySem PySem.Spec PyProof.Rows L2
/-! ### set(z), z a text -/
/-- each number once, at its first place -/
def once (l : List Nat) : List Nat := l.foldl (fun acc c => if c ∈ acc then acc else acc ++ [c]) []
theorem once_snoc (l : List Nat) (c : Nat) : once (l ++ [c]) = if c ∈ once l then once l else once l ++ [c] := by
  unfold once
  rw [List.foldl_append]
  rfl
theorem mem_once (l : List Nat) (c : Nat) : c ∈ once l ↔ c ∈ l := by
  have aux : ∀ (l acc : List Nat), c ∈ l.foldl (fun acc c => if c ∈ acc then acc else acc ++ [c]) acc ↔ c ∈ acc ∨ c ∈ l := by
    intro l
    induction l with
    | nil => intro acc; simp
    | cons d l ih =>
      intro acc
      rw [List.foldl_cons, ih]
      by_cases h : d ∈ acc
      · rw [if_pos h]
        constructor
        · rintro (a | b)
          · exact .inl a
          · exact .inr (List.mem_cons_of_mem _ b)
        · rintro (a | b)
          · exact .inl a
          · rcases List.mem_cons.mp b with e | b
            · exact .inl (e ▸ h)
            · exact .inr b
      · rw [if_neg h]
        simp only [List.mem_append, List.mem_cons, List.not_mem_nil, or_false, or_assoc]
  unfold once
  rw [aux]
  simp
theorem once_le (l : List Nat) : (once l).length ≤ l.length := by
  have aux : ∀ (l acc : List Nat), (l.foldl (fun acc c => if c ∈ acc then acc else acc ++ [c]) acc).length ≤ acc.length + l.length := by
    intro l
    induction l with
    | nil => intro acc; simp
    | cons d l ih =>
      intro acc
      rw [List.foldl_cons]
      refine Nat.le_trans (ih _) ?_
      split
      · simp only [List.length_cons]; omega
      · simp only [List.length_append, List.length_cons, List.length_nil]; omega
  have := aux l []
  simpa [once] using this
theorem once_eq (l : List Nat) : (once l).length = l.length ↔ l.Nodup := by
  have aux : ∀ (l acc : List Nat), (l.foldl (fun acc c => if c ∈ acc then acc else acc ++ [c]) acc).length ≤ acc.length + l.length ∧
      ((l.foldl (fun acc c => if c ∈ acc then acc else acc ++ [c]) acc).length = acc.length + l.length ↔ l.Nodup ∧ ∀ c ∈ l, c ∉ acc) := by
    intro l
    induction l with
    | nil => intro acc; simp
    | cons d l ih =>
      intro acc
      rw [List.foldl_cons]
      by_cases h : d ∈ acc
      · rw [if_pos h]
        obtain ⟨h1, h2⟩ := ih acc
        refine ⟨by simp only [List.length_cons]; omega, ⟨fun e => ?_, fun e => absurd h (e.2 d List.mem_cons_self)⟩⟩
        simp only [List.length_cons] at e
        omega
      · rw [if_neg h]
        obtain ⟨h1, h2⟩ := ih (acc ++ [d])
        simp only [List.length_append, List.length_cons, List.length_nil] at h1 h2 ⊢
        refine ⟨by omega, ?_⟩
        rw [show acc.length + (l.length + 1) = acc.length + (0 + 1) + l.length by omega, h2, List.nodup_cons]
        constructor
        · rintro ⟨a, b⟩
          refine ⟨⟨fun m => ?_, a⟩, fun c hc => ?_⟩
          · exact b d m (List.mem_append_right _ List.mem_cons_self)
          · rcases List.mem_cons.mp hc with e | hc
            · exact e ▸ h
            · exact fun m => b c hc (List.mem_append_left _ m)
        · rintro ⟨⟨a, b⟩, c⟩
          refine ⟨b, fun x hx m => ?_⟩
          rcases List.mem_append.mp m with m | m
          · exact c x (List.mem_cons_of_mem _ hx) m
          · have e : x = d := by simpa using m
            exact a (e ▸ hx)
  have := (aux l []).2
  simpa [once] using this
/-- the texts of one sign in a list of signs -/
def signIn (l : List Nat) : Str → Bool := fun k => l.any fun c => decide (k = ⟨#[c]⟩)
theorem signIn_iff (l : List Nat) (c : Nat) : signIn l ⟨#[c]⟩ = true ↔ c ∈ l := by
  unfold signIn
  rw [List.any_eq_true]
  constructor
  · rintro ⟨d, hd, e⟩
    have e' := of_decide_eq_true e
    have : c = d := by
      injection e' with e2
      simpa using e2
    exact this ▸ hd
  · intro h
    exact ⟨c, h, by simp⟩
section
variable {prog : Program} {w : World} {A : Around} {R : Result → Shared → Prop} {I : Addr} {fp wr : List Addr} {G : Array GenState → Array GenState → Prop} {St : Nat → Shared → Prop}
theorem set_loop {z : Str} (W : WalksS prog w A.in1 I fp wr G z.cps.size (SignAt z) St) (S : Addr) (notIn : S ∉ fp) (few : z.cps.size + 1 < scanBound) :
    ∀ (left i : Nat) (s : Shared), z.cps.size - i = left → i ≤ z.cps.size → St i s → s.heap.SetOf (PySem.strKind prog w) S (signIn (z.cps.toList.take i)) (once (z.cps.toList.take i)).length →
      (∀ s', Moved (S :: wr) G s s' → s'.heap.SetOf (PySem.strKind prog w) S (signIn z.cps.toList) (once z.cps.toList).length → R (.ok (.ret .none)) s') →
      codeAny (model prog w) A (.builtin "set.update.loop" ⟨[.ref S, .ref I], []⟩) R s := by
  have notW : S ∉ wr := fun m => notIn (W.sub _ m)
  have more : ∀ b ∈ wr, b ∈ S :: wr := fun b m => List.mem_cons_of_mem _ m
  have all : z.cps.toList.take z.cps.size = z.cps.toList := List.take_of_length_le (by simp)
  have stays : ∀ {s s' : Shared} {T : Str → Bool} {m : Nat}, Moved wr G s s' → s.heap.SetOf (PySem.strKind prog w) S T m → s'.heap.SetOf (PySem.strKind prog w) S T m := by
    rintro s s' T m mv ⟨o, es, ep, tb, ho, r⟩
    exact ⟨o, es, ep, tb, mv.heap S _ notW ho, r⟩
  intro left
  induction left with
  | zero =>
    intro i s hl hi st set_ fin
    obtain rfl : i = z.cps.size := by omega
    apply codeAny_builtin PyProof.Rows.F.entry_set_update_loop
    rw [Around.under_plainId PyProof.Rows.F.plain_set_update_loop _]
    show wpAny _ A.in1 (pyNext (.ref I) >>= _) _ _ s
    apply wpAny_bind
    apply W.done s _ _ st
    intro s' mv
    apply wpAny_pure
    apply fin s' (mv.mono more)
    have := stays mv set_
    rw [all] at this
    exact this
  | succ left ih =>
    intro i s hl hi st set_ fin
    have lt : i < z.cps.size := by omega
    apply codeAny_builtin PyProof.Rows.F.entry_set_update_loop
    rw [Around.under_plainId PyProof.Rows.F.plain_set_update_loop _]
    show wpAny _ A.in1 (pyNext (.ref I) >>= _) _ _ s
    apply wpAny_bind
    apply W.item i s _ _ lt st
    intro v s' at_ st' mv
    obtain ⟨c, t, hc, rfl⟩ := at_
    have set' := stays mv set_
    have nx : z.cps.toList.take (i + 1) = z.cps.toList.take i ++ [c] := by
      have hc' : z.cps.toList[i]? = some c := by simpa using hc
      rw [List.take_add_one, hc']
      rfl
    show wpAny _ A.in1 (holding [Value.str ⟨#[c]⟩ t] (setAdd S (.str ⟨#[c]⟩ t)) >>= _) _ _ s'
    apply wpAny_bind
    apply wpAny_holding
    unfold setAdd
    apply wpAny_holding
    apply wpAny_bind
    apply (PySem.strKind prog w).pyHash (k := ⟨#[c]⟩) (strKind_is _ _ _ _)
    have room : (once (z.cps.toList.take i)).length + 1 < scanBound := by
      have h1 := once_le (z.cps.toList.take i)
      rw [List.length_take] at h1
      omega
    refine wpAny_setAddHashed_of (knd := PySem.strKind prog w) (s := { s' with toks := s'.toks + 1 }) (strKind_is _ _ _ _) rfl set' room fun h' but set2 => ?_
    have set3 : h'.SetOf (PySem.strKind prog w) S (signIn (z.cps.toList.take (i + 1))) (once (z.cps.toList.take (i + 1))).length := by
      refine SetOf_congr set2 (fun k => ?_) ?_
      · show (signIn (z.cps.toList.take i) k || decide (k = ⟨#[c]⟩)) = signIn (z.cps.toList.take (i + 1)) k
        rw [nx]
        unfold signIn
        rw [List.any_append]
        simp
      · rw [nx, once_snoc]
        by_cases m : c ∈ once (z.cps.toList.take i)
        · rw [if_pos m, if_pos ((signIn_iff _ c).mpr ((mem_once _ c).mp m))]
        · rw [if_neg m, if_neg (fun y => m ((mem_once _ c).mpr ((signIn_iff _ c).mp y))), List.length_append]
          rfl
    refine wpAny_pure ⟨plainId_quiet PyProof.Rows.F.plain_set_update_loop _, ih (i + 1) _ (by omega) lt (W.frame _ s' _ _ st' (Nat.le_succ _) fun b hb o e => ?_) set3 fun s'' mv2 set4 => ?_⟩
    · rw [but.2 b (fun e2 => notIn (e2 ▸ hb))]
      exact e
    · refine fin s'' (Moved.trans W.gtrans ((mv.mono more).then_heap (Nat.le_succ _) fun b o hb e => ?_) mv2) set4
      rw [but.2 b (fun e2 => hb (e2 ▸ List.mem_cons_self))]
      exact e
end
section
variable {prog : Program} {w : World} {A : Around} {E : Value → Shared → Prop} {s : Shared}
abbrev newSet (led : Bool) : Obj := { cls := .type "set", dict := none, data := .set #[] 0 (.fresh 0 0 led) }
/-- the body of set.__init__ over a text -/
theorem set_init_str {A2 : Around} (hh : A2.handled = none) {z : Str} {t : Tok} {led : Bool} {Qf : Fin → Shared → Prop} {Ef : Value → Shared → Prop} (few : z.cps.size + 1 < scanBound)
    (fin : ∀ h' tk, h'.SetOf (PySem.strKind prog w) s.heap.objs.size (signIn z.cps.toList) (once z.cps.toList).length → (∀ b o, s.heap.get? b = some o → h'.get? b = some o) → Qf (.done (.ret .none)) { s with heap := h', toks := tk }) :
    wpAny (model prog w) A2 (Builtin.«set.__init__» ⟨[.ref s.heap.objs.size, .str z t], []⟩) Qf Ef { s with heap := s.heap.push (newSet led) } := by
  have at_ : (s.heap.push (newSet led)).get? s.heap.objs.size = some (newSet led) := Heap.get?_push_size _ rfl
  have ty : Shared.TypeIs { s with heap := s.heap.push (newSet led) } (.ref s.heap.objs.size) "set" := ⟨_, at_, rfl⟩
  have no1 := PySem.F.sub_str_set
  have no2 := PySem.F.sub_str_frozenset
  have no3 : (Value.type "str" == Value.type "dict") = false := by decide
  unfold Builtin.«set.__init__» noKeywords Builtin.Frozenset.updateFrom
  generalize walkOf : pyIter = PI
  wp_walk
  subst walkOf
  refine wpAny_pyIter_str fun o St W st => ?_
  refine wpAny_bind (wpAny_runValue ?_)
  have sz : (s.heap.push (newSet led)).objs.size = s.heap.objs.size + 1 := Heap.size_push _ _
  have apart : s.heap.objs.size ∉ [(s.heap.push (newSet led)).objs.size] := by
    rw [sz]
    simp
  have hh2 : A2.in1.handled = none := hh
  refine set_loop ((W A2.in1 hh2).toS) s.heap.objs.size apart few (z.cps.size - 0) 0 _ rfl (Nat.zero_le _) st ?_ ?_
  · have at2 : ((s.heap.push (newSet led)).push o).get? s.heap.objs.size = some (newSet led) := Heap.get?_push_of_some _ at_
    exact SetOf_congr ((PyProof.Rows.setObjOf_fresh (knd := PySem.strKind prog w) led).setOf at2 (by unfold scanBound; omega)) (fun _ => rfl) rfl
  · intro s' mv set_
    obtain ⟨h', g', d', tk', os'⟩ := s'
    obtain rfl : g' = s.gens := mv.gens
    obtain rfl : d' = s.drawn := mv.drawn
    obtain rfl : os' = s.os := mv.os
    show wpAny _ _ _ _ _ _
    refine wpAny_pure ?_
    show wpAny _ _ (ret Value.none) _ _ _
    refine wpAny_pure (fin h' tk' set_ fun b ob e => ?_)
    have lt := Heap.lt_size e
    refine mv.heap b ob (fun m => ?_) (Heap.get?_push_of_some _ (Heap.get?_push_of_some _ e))
    rw [sz] at m
    rcases List.mem_cons.mp m with e2 | m
    · exact Nat.ne_of_lt lt e2
    · exact Nat.ne_of_lt (Nat.lt_succ_of_lt lt) (List.mem_singleton.mp m)
set_option maxHeartbeats 6400000 in
theorem call_set_text (hh : A.handled = none) {z : Str} {t : Tok} {Q : Value → Shared → Prop} (few : z.cps.size + 1 < scanBound)
    (fin : ∀ h' tk, h'.SetOf (PySem.strKind prog w) s.heap.objs.size (signIn z.cps.toList) (once z.cps.toList).length → (∀ b o, s.heap.get? b = some o → h'.get? b = some o) → Q (.ref s.heap.objs.size) { s with heap := h', toks := tk }) :
    wpAny (model prog w) A (call (.type "set") [.str z t]) Q E s := by
  obtain ⟨c, tl, mro_⟩ := PySem.F.called_set.mro
  have made_ := PySem.F.called_set.made
  have sub_ := PySem.F.called_set.sub
  apply wpAny_call
  apply codeAny_of_tree
  show wpAny _ _ (callAny (.type "set") _) _ _ _
  refine wpAny_pure ⟨Code.quiet_builtin _ (by decide +kernel), codeAny_builtin PySem.F.entry_type_call ?_⟩
  rw [Around.under_plain (weight_type_call_type "set" [.str z t] []) rfl]
  have nt_ := PySem.F.called_set.notType
  have can_ := PySem.F.called_set.canCreate
  have chk_ := PySem.F.typeCall_set_1 (.str z t)
  repeat (any_goals (first | assumption | wp_step))
  apply codeAny_mono (code_set_new_1 (.str z t) (E := E) (Q₁ := fun ob s1 => ∃ led : Bool, ob = .ref s.heap.objs.size ∧ s1 = { s with heap := s.heap.push (newSet led) }) fun led => ⟨led, rfl, rfl⟩)
  intro r s1 hr
  match r, hr with
  | .error _, hr => exact hr
  | .ok .next, hr => exact hr.elim
  | .ok .brk, hr => exact hr.elim
  | .ok .cont, hr => exact hr.elim
  | .ok (.ret ob), hr =>
    obtain ⟨led, rfl, rfl⟩ := hr
    have at_ : (s.heap.push (newSet led)).get? s.heap.objs.size = some (newSet led) := Heap.get?_push_size _ rfl
    have ty : Shared.TypeIs { s with heap := s.heap.push (newSet led) } (.ref s.heap.objs.size) "set" := ⟨_, at_, rfl⟩
    have look_ := PySem.F.called_set.init.lookup
    have bind_ := PySem.F.called_set.init.bind (.ref s.heap.objs.size)
    repeat (any_goals (first | assumption | wp_step))
    refine codeAny_mono (codeAny_call_builtin (R := wants (fun r s2 => r = .none ∧ ∃ h' tk, s2 = { s with heap := h', toks := tk } ∧ h'.SetOf (PySem.strKind prog w) s.heap.objs.size (signIn z.cps.toList) (once z.cps.toList).length ∧
        ∀ b o, s.heap.get? b = some o → h'.get? b = some o) E) PySem.F.called_set.init.plain PySem.F.entry_set_init (check_set_init_1 ty (set_init_str (A2 := A.in1.in1) hh few fun h' tk h1 h2 => ⟨rfl, h', tk, rfl, h1, h2⟩))) ?_
    intro r2 s2 hr2
    match r2, hr2 with
    | .error _, hr2 => exact hr2
    | .ok .next, hr2 => exact hr2.elim
    | .ok .brk, hr2 => exact hr2.elim
    | .ok .cont, hr2 => exact hr2.elim
    | .ok (.ret _), hr2 =>
      obtain ⟨rfl, h', tk, rfl, h1, h2⟩ := hr2
      repeat (any_goals (first | assumption | wp_step))
      exact fin h' tk h1 h2
end
section
variable {X : Cx}
/-- len(set(z)), z a text -/
def qLenSet (ta : TE) : TE := fun σ H Q => ta σ H fun x H1 => ∃ z : Str, x = .str z ∧ z.length ≤ 4000 ∧ Q (.int ((once z.cps.toList).length : Nat)) H1
theorem pe_lenSet {a : Expr} {ta : TE} {p p2 q pos : Pos} (hg : Gl X "len") (hm : X.mg "len" = none) (hg2 : Gl X "set") (hm2 : X.mg "set" = none) (ha : PE X a ta) (hc : X.calm = true := by rfl)
    (na : starEach [a] X.env = (false, eval a X.env) :: starEach [] X.env := by rfl) : PE X (.Call (.Name "len" p) [.Call (.Name "set" p2) [a] [] q] [] pos) (qLenSet ta) := by
  constructor
  intro pins s σ H Q I h
  apply Call_ (ld_blt I hg hm boot_len _)
  apply PyProof.Rows.callWith_builtin1 (PyProof.Rows.args_cons _ rfl) rfl rfl
  apply Call_ (ld_blt I hg2 hm2 boot_set _)
  refine PyProof.Rows.callWith_type1 (PyProof.Rows.args_cons (thn (ha.run pins s σ H _ I h) fun v s1 ⟨x, H1, I1, r1, q1⟩ => PyProof.Rows.args_nil ?_) na) na rfl
  obtain ⟨z, rfl, hz, q1⟩ := q1
  obtain ⟨t, rfl⟩ := r1
  have few : z.cps.size + 1 < scanBound := by
    have : z.cps.size ≤ 4000 := hz
    unfold scanBound
    omega
  refine call_set_text (I1.ok.hd hc) few fun h' tk set_ kept => ?_
  apply PyProof.Rows.args_nil
  obtain ⟨o, es, ep, tb, ho, ex, hd, _, _, _, fits, hn⟩ := set_
  have I2 : Inv X pins σ H1 { s1 with heap := h', toks := tk } := I1.kept kept
  have le : es.size ≤ 4000 := by
    rw [hn]
    refine Nat.le_trans (once_le _) ?_
    rw [Array.length_toList]
    exact hz
  rw [← hn] at q1
  exact call_len_set ho ex hd fits (by omega) ⟨.int (es.size : Nat), H1, I2.tok _, ⟨_, rfl⟩, q1⟩
end
end My
end
section
set_option Elab.async false
set_option linter.all false
set_option maxRecDepth 100000
set_option maxHeartbeats 2000000
namespace My
open PySem PySem.Spec PyProof.Rows L2
/-! ### data of any kind, apart from the object at p; st: no list of it stands at sys.modules' place -/
/-- an empty tuple of the written part -/
structure KEmp (K : PySem.W.Frag) (a : Addr) : Prop where
  ex : ∃ (o : Obj) (n : Nat), K.lookup a = some o ∧ o.cls = .type "tuple" ∧ o.data = .seq #[] n
theorem KEmp.sq {K : PySem.W.Frag} {H : Hp} {a : Addr} (h : KEmp K a) : SqT K H a [] := by
  obtain ⟨o, n, h1, h2, h3⟩ := h.ex
  exact .inr ⟨o, #[], n, h1, h2, h3, Nat.zero_le _, .nil⟩
mutual
inductive Rp (K : PySem.W.Frag) (p : Addr) (H : Hp) : Bool → V → PyData → Prop
  | non (st : Bool) : Rp K p H st .non .none
  | bl (st b : Bool) : Rp K p H st (.bl b) (.bool b)
  | int (st : Bool) (i : Int) : Rp K p H st (.int i) (.int i)
  | str (st : Bool) (z : Str) : Rp K p H st (.str z) (.str z)
  | lst {st : Bool} {a : Addr} {xs : List V} {ds : List PyData} : H a = some (.lst xs) → a ≠ p → ((st || PyData.hasDictAll ds) = true → a ≠ sysModules) → RpAll K p H (st || PyData.hasDictAll ds) xs ds → Rp K p H st (.ref a) (.list ds)
  | tup {st : Bool} {a : Addr} {xs : List V} {ds : List PyData} : H a = some (.tup xs) → a ≠ p → RpAll K p H (st || PyData.hasDictAll ds) xs ds → Rp K p H st (.ref a) (.tuple ds)
  | dct {st : Bool} {a : Addr} {kvs : List (Key × V)} {ks vs : List PyData} : H a = some (.dK kvs) → a ≠ p → RpAll K p H true (kvs.map fun e => kV e.1) ks → RpAll K p H true (kvs.map (·.2)) vs → ks.length = vs.length → Rp K p H st (.ref a) (.dict (ks.zip vs))
  | emp {st : Bool} {a : Addr} : KEmp K a → Rp K p H st (.ref a) (.tuple [])
inductive RpAll (K : PySem.W.Frag) (p : Addr) (H : Hp) : Bool → List V → List PyData → Prop
  | nil (st : Bool) : RpAll K p H st [] []
  | cons {st : Bool} {v : V} {vs : List V} {d : PyData} {ds : List PyData} : Rp K p H st v d → RpAll K p H st vs ds → RpAll K p H st (v :: vs) (d :: ds)
end
section
variable {K : PySem.W.Frag} {p : Addr} {H H1 : Hp}
mutual
theorem Rp.but (s : But p H H1) : ∀ {st : Bool} {d : PyData} {v : V}, Rp K p H st v d → Rp K p H1 st v d
  | _, _, _, .non _ => .non _
  | _, _, _, .bl _ b => .bl _ b
  | _, _, _, .int _ i => .int _ i
  | _, _, _, .str _ z => .str _ z
  | _, _, _, .lst h n m r => .lst (s _ _ n h) n m (RpAll.but s r)
  | _, _, _, .tup h n r => .tup (s _ _ n h) n (RpAll.but s r)
  | _, _, _, .dct h n r1 r2 e => .dct (s _ _ n h) n (RpAll.but s r1) (RpAll.but s r2) e
  | _, _, _, .emp h => .emp h
theorem RpAll.but (s : But p H H1) : ∀ {st : Bool} {ds : List PyData} {vs : List V}, RpAll K p H st vs ds → RpAll K p H1 st vs ds
  | _, _, _, .nil _ => .nil _
  | _, _, _, .cons a b => .cons (Rp.but s a) (RpAll.but s b)
end
mutual
theorem Rp.loose : ∀ {d : PyData} {v : V}, Rp K p H true v d → ∀ st, Rp K p H st v d
  | _, _, .non _, _ => .non _
  | _, _, .bl _ b, _ => .bl _ b
  | _, _, .int _ i, _ => .int _ i
  | _, _, .str _ z, _ => .str _ z
  | _, _, .lst h n m r, _ => .lst h n (fun _ => m (Bool.true_or _)) (RpAll.loose r _)
  | _, _, .tup h n r, _ => .tup h n (RpAll.loose r _)
  | _, _, .dct h n r1 r2 e, _ => .dct h n r1 r2 e
  | _, _, .emp h, _ => .emp h
theorem RpAll.loose : ∀ {b : Bool} {ds : List PyData} {vs : List V}, RpAll K p H (true || b) vs ds → ∀ st, RpAll K p H st vs ds
  | _, _, _, .nil _, _ => .nil _
  | _, _, _, .cons x y, _ => .cons (Rp.loose x _) (RpAll.loose (b := true) y _)
end
end
section
variable {K : PySem.W.Frag} {p : Addr} {H H1 : Hp}
theorem RpAll.len : ∀ {st : Bool} {ds : List PyData} {vs : List V}, RpAll K p H st vs ds → vs.length = ds.length
  | _, _, _, .nil _ => rfl
  | _, _, _, .cons _ b => by simp [RpAll.len b]
theorem RpAll.at : ∀ {st : Bool} {ds : List PyData} {vs : List V} {j : Nat} {v : V} {d : PyData}, RpAll K p H st vs ds → vs[j]? = some v → ds[j]? = some d → Rp K p H st v d
  | _, _, _, _, _, _, .nil _, h, _ => by simp at h
  | _, _, _, 0, _, _, .cons a _, h, e => by
    simp at h e
    exact h ▸ e ▸ a
  | _, _, _, j + 1, _, _, .cons _ b, h, e => RpAll.at (j := j) b (by simpa using h) (by simpa using e)
theorem Rp.loose2 {st : Bool} {v : V} {d : PyData} (h : Rp K p H st v d) : Rp K p H false v d := by
  cases st with
  | true => exact h.loose _
  | false => exact h
end
theorem pairs_keys {P : Program} {w : World} : ∀ {es : List DictEntry} {kvs : List (Key × V)} {rs : List (Key × Value)}, KV kvs rs → Pairs (mixKind P w) es rs → Vals (kvs.map fun e => kV e.1) (es.map (·.key)) ∧ Vals (kvs.map (·.2)) (es.map (·.val))
  | _, _, _, .nil, .nil => ⟨.nil, .nil⟩
  | _, (k, v) :: _, _, .cons r t, .cons h1 h2 h3 => by
    obtain ⟨a, b⟩ := pairs_keys t h3
    obtain ⟨e1, rv⟩ := r
    refine ⟨.cons ?_ a, .cons (h2.symm ▸ rv : L2.RelV v (DictEntry.val _)) b⟩
    show L2.RelV (kV k) _
    rw [mixKind_is, ← e1] at h1
    rcases keyIs_shape h1 with ⟨i, t, e2, e3⟩ | ⟨x, t, e2, e3⟩
    · subst e2
      exact ⟨t, e3⟩
    · subst e2
      exact ⟨t, e3⟩
section
variable {X : Cx} {pins : List (Addr × Obj)} {σ : L2.St} {p : Addr} {H : Hp} {s : Shared}
theorem zip_fst {α β : Type} : ∀ {l : List α} {r : List β}, l.length = r.length → (l.zip r).map (·.1) = l
  | [], _, _ => by simp
  | _ :: _, [], h => by simp at h
  | a :: l, b :: r, h => by simp [zip_fst (l := l) (r := r) (by simpa using h)]
theorem zip_snd {α β : Type} : ∀ {l : List α} {r : List β}, l.length = r.length → (l.zip r).map (·.2) = r
  | [], r, h => by cases r with | nil => rfl | cons _ _ => simp at h
  | _ :: _, [], h => by simp at h
  | a :: l, b :: r, h => by simp [zip_snd (l := l) (r := r) (by simpa using h)]
theorem or_split {a b : Bool} (h : (a || b) = true) : a = true ∨ b = true := by
  cases a with
  | true => exact .inl rfl
  | false => exact .inr h
mutual
theorem Rp.reads (I : Inv X pins σ H s) : ∀ {st : Bool} {d : PyData} {v : V} {u : Value}, Rp X.K p H st v d → RelV v u → ∃ as, Reads s.heap u d as ∧ ((st || d.hasDict) = true → sysModules ∉ as)
  | _, _, _, _, .non _, r => by
    cases r
    exact ⟨_, Reads.none, fun _ => by simp⟩
  | _, _, _, _, .bl _ b, r => by
    cases r
    exact ⟨_, Reads.bool b, fun _ => by simp⟩
  | _, _, _, _, .int _ i, r => by
    obtain ⟨t, rfl⟩ := r
    exact ⟨_, Reads.int i t, fun _ => by simp⟩
  | _, _, _, _, .str _ z, r => by
    obtain ⟨t, rfl⟩ := r
    exact ⟨_, Reads.str z t, fun _ => by simp⟩
  | _, _, _, _, .lst h n m q, r => by
    cases r
    obtain ⟨its, rv, ⟨o, k, ho, hc, _, hd⟩, _⟩ := I.list (SqL.of h : SqL X.K H _ _)
    obtain ⟨as, q1, q2⟩ := RpAll.reads I q rv
    refine ⟨_, Reads.list ho hc hd q1, fun e => ?_⟩
    simp only [PyData.hasDict] at e
    rw [List.mem_cons]
    rintro (z | z)
    · exact m e z.symm
    · exact q2 e z
  | _, _, _, _, .tup h n q, r => by
    cases r
    obtain ⟨its, rv, ⟨o, ho, hc, k, hd⟩, _⟩ := I.tuple (SqT.of h : SqT X.K H _ _)
    obtain ⟨as, q1, q2⟩ := RpAll.reads I q rv
    refine ⟨_, Reads.tuple ho hc hd q1, fun e => ?_⟩
    simp only [PyData.hasDict] at e
    exact q2 e
  | _, _, _, _, .dct h n k1 k2 el, r => by
    cases r
    obtain ⟨_, ns, rs, rk, o, es, ep, ho, hx, hd, _, hp, _⟩ := dk_of I.hok h
    obtain ⟨v1, v2⟩ := pairs_keys rk hp
    obtain ⟨as, q1, q2⟩ := RpAll.reads I k1 v1
    obtain ⟨bs, q3, q4⟩ := RpAll.reads I k2 v2
    refine ⟨_, Reads.dict ho hx.1 hd (by rw [zip_fst el]; exact q1) (by rw [zip_snd el]; exact q3), fun _ => ?_⟩
    rw [List.cons_append, List.mem_cons, List.mem_append]
    rintro (e | m | m)
    · rw [← e] at ns
      exact absurd ns (by decide)
    · exact q2 rfl m
    · exact q4 rfl m
  | _, _, _, _, .emp h, r => by
    cases r
    obtain ⟨its, rv, ⟨o, ho, hc, k, hd⟩, _⟩ := I.tuple (h.sq : SqT X.K H _ _)
    cases rv
    exact ⟨_, Reads.tuple ho hc hd ReadsAll.nil, fun _ => by simp⟩
theorem RpAll.reads (I : Inv X pins σ H s) : ∀ {st : Bool} {ds : List PyData} {vs : List V} {us : List Value}, RpAll X.K p H st vs ds → Vals vs us → ∃ as, ReadsAll s.heap us ds as ∧ (st = true → sysModules ∉ as)
  | _, _, _, _, .nil _, r => by
    cases r
    exact ⟨_, ReadsAll.nil, fun _ => by simp⟩
  | st, _, _, _, .cons a b, r => by
    cases r with
    | cons r1 r2 =>
      obtain ⟨as, q1, q2⟩ := Rp.reads I a r1
      obtain ⟨bs, q3, q4⟩ := RpAll.reads I b r2
      exact ⟨_, ReadsAll.cons q1 q3, fun e z => (List.mem_append.mp z).elim (q2 (by rw [e, Bool.true_or])) (q4 e)⟩
end
/-- repr(x) of data, no repr under way -/
def qReprD (K : PySem.W.Frag) : List V → Hp → VK → Prop := fun xs H Q => ∃ x d p, xs = [x] ∧ Rp K p H false x d ∧ d.showable = true ∧ d.shown.length ≤ sizeLine ∧ d.depth ≤ 60 ∧ Q (.str d.shown) H
theorem call_reprD (g : X.A.guards = some []) (hu : X.A.units + 64 < cLine) : CallR X (.builtin "repr") (qReprD X.K) := by
  intro pins s σ H xs us Q I r h
  obtain ⟨x, d, p, rfl, hd, h1, h3, h4, q⟩ := h
  obtain ⟨u, rfl, rx⟩ := vals1 r
  obtain ⟨as, rd, nos⟩ := Rp.reads I hd rx
  rw [Bool.false_or] at nos
  have fin : ∀ (h' : Heap) (t : Tok) (tk : Nat), (∀ b o, s.heap.get? b = some o → h'.get? b = some o) → EP X pins σ Q (.str d.shown t) { s with heap := h', toks := tk } := by
    intro h' t tk hk
    exact ⟨.str d.shown, H, I.kept (t' := tk) hk, ⟨t, rfl⟩, q⟩
  have big : ∀ a, u = .ref a → wpAny (model X.prog X.w) X.A (call (.builtin "repr") [u]) (EP X pins σ Q) X.xe s := by
    rintro a rfl
    exact repr_of_reads' rd h1 nos g (by omega) (fun _ _ z => z) (fun h' t tk hk => fin h' t tk hk) h3
  cases hd with
  | non =>
    cases rx
    exact PySem.P.repr_of_none (fin _ _ _ fun _ _ z => z)
  | bl _ b =>
    cases rx
    exact PySem.P.repr_of_bool (fin _ _ _ fun _ _ z => z)
  | int _ i =>
    obtain ⟨t, rfl⟩ := rx
    exact PySem.P.repr_of_int (by simpa [PyData.showable] using h1) (fin _ _ _ fun _ _ z => z)
  | str _ z =>
    obtain ⟨t, rfl⟩ := rx
    exact PySem.P.repr_of_str (fin _ _ _ fun _ _ z => z) (by simpa only [PyData.shown] using h3)
  | lst _ _ _ _ => exact big _ rx
  | tup _ _ _ => exact big _ rx
  | dct _ _ _ _ _ => exact big _ rx
  | emp _ => exact big _ rx
/-! ### kinds of data -/
def tyName : PyData → String
  | .none => "NoneType" | .bool _ => "bool" | .int _ => "int" | .str _ => "str" | .list _ => "list" | .tuple _ => "tuple" | .dict _ => "dict"
theorem Rp.ty {K : PySem.W.Frag} {st : Bool} {d : PyData} {v : V} (h : Rp K p H st v d) : TyX K H v (.type (tyName d)) := by
  cases h with
  | non => exact .base .non
  | bl _ b => exact .base (.bl b)
  | int _ i => exact .base (.int i)
  | str _ z => exact .base (.str z)
  | lst h _ _ _ => exact .base (.lst h)
  | tup h _ _ => exact .base (.tup h)
  | dct h _ _ _ _ => exact .base (.dK h)
  | emp h =>
    obtain ⟨o, n, h1, h2, _⟩ := h.ex
    exact .kTuple h1 h2
def isStrD : PyData → Bool | .str _ => true | _ => false
def isTupD : PyData → Bool | .tuple _ => true | _ => false
def isSeqD : PyData → Bool | .tuple _ => true | .list _ => true | _ => false
theorem kit_str {K : PySem.W.Frag} (d : PyData) : PySem.W.kitOne K (.type (tyName d)) (.type "str") = some (isStrD d) := by
  cases d
  · exact kit_ty (show kitB "NoneType" "str" = some false by decide +kernel)
  · exact kit_ty (show kitB "bool" "str" = some false by decide +kernel)
  · exact kit_ty (show kitB "int" "str" = some false by decide +kernel)
  · exact kit_ty (show kitB "str" "str" = some true by decide +kernel)
  · exact kit_ty (show kitB "list" "str" = some false by decide +kernel)
  · exact kit_ty (show kitB "tuple" "str" = some false by decide +kernel)
  · exact kit_ty (show kitB "dict" "str" = some false by decide +kernel)
theorem kit_tup {K : PySem.W.Frag} (d : PyData) : PySem.W.kitOne K (.type (tyName d)) (.type "tuple") = some (isTupD d) := by
  cases d
  · exact kit_ty (show kitB "NoneType" "tuple" = some false by decide +kernel)
  · exact kit_ty (show kitB "bool" "tuple" = some false by decide +kernel)
  · exact kit_ty (show kitB "int" "tuple" = some false by decide +kernel)
  · exact kit_ty (show kitB "str" "tuple" = some false by decide +kernel)
  · exact kit_ty (show kitB "list" "tuple" = some false by decide +kernel)
  · exact kit_ty (show kitB "tuple" "tuple" = some true by decide +kernel)
  · exact kit_ty (show kitB "dict" "tuple" = some false by decide +kernel)
theorem Rp.tupS {K : PySem.W.Frag} {st : Bool} {v : V} {ds : List PyData} (h : Rp K p H st v (.tuple ds)) : ∃ a xs st2, v = .ref a ∧ SqT K H a xs ∧ RpAll K p H st2 xs ds := by
  cases h with
  | tup ha _ r => exact ⟨_, _, _, rfl, SqT.of ha, r⟩
  | emp h => exact ⟨_, [], st, rfl, h.sq, .nil _⟩
end
end My
end
section
set_option Elab.async false
set_option linter.all false
set_option maxRecDepth 100000
set_option maxHeartbeats 2000000
namespace My
open PySem PySem.Spec PyProof.Rows L2
/-- what a caller wants of a def that stands at module level -/
structure Def (K : PySem.W.Frag) (mg : Str → Option Value) (x : Str) (f : Addr) (fd : FuncData) (ps : List Str) : Prop where
  mgf : mg x = some (.ref f)
  kp : PySem.W.keepIn K (.ref f) = true
  bd : Binds K fd ps []
/-- built-ins that the module does not give another meaning -/
structure TB (mg : Str → Option Value) : Prop where
  int : mg "int" = none
  len : mg "len" = none
  abs : mg "abs" = none
  list : mg "list" = none
  tuple : mg "tuple" = none
  str : mg "str" = none
  set : mg "set" = none
  all : mg "all" = none
  isi : mg "isinstance" = none
  repr : mg "repr" = none
  range : mg "range" = none
/-- texts that are not too long, at any depth -/
def textFits (n : Nat) : PyData → Prop
  | .str z => z.length ≤ n
  | _ => True
/-- whether a value is one of the signs -/
def signD (S : Str) : PyData → Bool
  | .str z => decide (z.length = 1) && z.cps.toList.all fun c => decide (c ∈ S.cps.toList)
  | _ => false
/-- whether a value is a text of different ones of the signs -/
def setD (S : Str) : PyData → Bool
  | .str z => decide z.cps.toList.Nodup && z.cps.toList.all fun c => decide (c ∈ S.cps.toList)
  | _ => false
theorem signD_str (S z : Str) : signD S (.str z) = (decide (z.length = 1) && z.cps.toList.all fun c => decide (c ∈ S.cps.toList)) := rfl
theorem setD_str (S z : Str) : setD S (.str z) = (decide z.cps.toList.Nodup && z.cps.toList.all fun c => decide (c ∈ S.cps.toList)) := rfl
theorem mem_signs {z : Str} {x : V} (h : x ∈ signs z) : ∃ c, c ∈ z.cps.toList ∧ x = .str ⟨#[c]⟩ := by
  obtain ⟨c, h1, h2⟩ := List.mem_map.mp h
  exact ⟨c, h1, h2.symm⟩
theorem kit_list {K : PySem.W.Frag} (d : PyData) : PySem.W.kitOne K (.type (tyName d)) (.type "list") = some (match d with | .list _ => true | _ => false) := by
  cases d
  · exact kit_ty (show kitB "NoneType" "list" = some false by decide +kernel)
  · exact kit_ty (show kitB "bool" "list" = some false by decide +kernel)
  · exact kit_ty (show kitB "int" "list" = some false by decide +kernel)
  · exact kit_ty (show kitB "str" "list" = some false by decide +kernel)
  · exact kit_ty (show kitB "list" "list" = some true by decide +kernel)
  · exact kit_ty (show kitB "tuple" "list" = some false by decide +kernel)
  · exact kit_ty (show kitB "dict" "list" = some false by decide +kernel)
theorem kit_seq {K : PySem.W.Frag} (d : PyData) : PySem.W.kitAny K (.type (tyName d)) [.type "list", .type "tuple"] = some (isSeqD d) := by
  refine kitAny_cons (kit_list d) (fun h => kitAny_cons (kit_tup d) (fun h2 => ?_) fun h2 => ?_) fun h => ?_
  · rw [kitAny_nil]
    cases d <;> first | rfl | exact absurd (show true = false from h) (by decide) | exact absurd (show true = false from h2) (by decide)
  · cases d <;> first | rfl | exact absurd (show false = true from h2) (by decide)
  · cases d <;> first | rfl | exact absurd (show false = true from h) (by decide)
theorem one_sign {z : Str} (h : z.length = 1) : ∃ c, z = ⟨#[c]⟩ := by
  obtain ⟨⟨l⟩⟩ := z
  have h' : l.length = 1 := h
  obtain ⟨c, rfl⟩ := List.length_eq_one_iff.mp h'
  exact ⟨c, rfl⟩
/-! ### promises of the program's helpers -/
def sp_isSign (K : PySem.W.Frag) : Sp := fun vs H Q _ => ∃ (S : Str) (v : V) (d : PyData) (p : Addr), vs = [.str S, v] ∧ Rp K p H false v d ∧ textFits sizeLine d ∧ Q (.bl (signD S d)) H
def sp_isSet (K : PySem.W.Frag) : Sp := fun vs H Q _ => ∃ (S : Str) (v : V) (d : PyData) (p : Addr), vs = [.str S, v] ∧ Rp K p H false v d ∧ textFits 4000 d ∧ ∀ H', Same H H' → Q (.bl (setD S d)) H'
def alphabet : Str := "0123456789abcdefghijklmnopqrstuvwxyz"
/-- whether a value is the signs of a font -/
def fontD (d : PyData) : Bool := match d with
  | .str z => decide (2 ≤ z.length ∧ z.length ≤ 10) && setD alphabet (.str z)
  | _ => false
theorem fontD_str (z : Str) : fontD (.str z) = (decide (2 ≤ z.length ∧ z.length ≤ 10) && setD alphabet (.str z)) := rfl
def sp_isFont (K : PySem.W.Frag) : Sp := fun vs H Q _ => ∃ (v : V) (d : PyData) (p : Addr), vs = [v] ∧ Rp K p H false v d ∧ textFits 4000 d ∧ ∀ H', Same H H' → Q (.bl (fontD d)) H'
/-- a class whose values are read off it -/
structure ClassV (K : PySem.W.Frag) (C : Addr) (f : Str) (v : V) : Prop where
  ok : ∃ mc u, ClX.CRead K C mc ∧ ClX.CVal K C mc f v u
/-! ### comprehensions whose parts change nothing that is tracked -/
theorem walk_signs {z : Str} : Walk (Its z) (signs z).length (fun _ => True) (YAt (signs z)) := by
  have e : (signs z).length = z.cps.size := by rw [signs_len]; rfl
  rw [e]
  refine ⟨fun _ _ hi _ => hi, fun _ _ => Nat.le_refl _, fun i H x H' hi _ y => ?_⟩
  obtain ⟨e1, c, hc, e2⟩ := y
  refine ⟨e1, ?_⟩
  unfold signs
  rw [List.getElem?_map, Array.getElem?_toList, hc, e2]
  rfl
theorem lc_ff {J : It} {xs : List V} {G : Hp → Prop} (w : Walk J xs.length G (YAt xs)) {i : Nat} {tt : TT} {te : TE} {vs : List Nat} {σ : L2.St} {H1 : Hp} {D : Addr} {Qd : Hp → Prop} (p : V → Bool) (f : V → V) (free : H1 D = none)
    (hG : ∀ H', Same H1 H' → G H') (small : xs.length < sizeLine) (hw : ∀ x, wipe ((wipe σ vs).set i (some x)) vs = wipe σ vs)
    (ht : ∀ x H' (C : Bool → Hp → Prop), x ∈ xs → Same H1 H' → (∀ H3, Same H' H3 → C (p x) H3) → tt ((wipe σ vs).set i (some x)) H' C)
    (he : ∀ x H' (C : VK), x ∈ xs → p x = true → Same H1 H' → (∀ H4, Same H' H4 → C (f x) H4) → te ((wipe σ vs).set i (some x)) H' C)
    (hd : ∀ H', Same H1 H' → H' D = some (.lst ((xs.filter p).map f)) → Qd H') :
    ∃ W : Nat → Nat → Hp → Prop, (∃ m, W 0 m (upd H1 D (.lst []))) ∧ ∀ j m H, W j m H →
      (J.stop j H ∧ Qd H) ∨ (J.go j H ∧ ∃ Nx : Hp → Prop, (∀ H', Nx H' → ∃ m', m' < m ∧ W (j + 1) m' H') ∧ ∀ x H', J.yld j H x H' → gName i x (wipe σ vs) H' fun σ2 H2 => wipe σ2 vs = wipe σ vs ∧ tt σ2 H2 fun b H3 =>
        if b = true then te σ2 H3 fun y H4 => ∃ acc, H4 D = some (.lst acc) ∧ acc.length < sizeLine ∧ Nx (upd H4 D (.lst (acc ++ [y]))) else Nx H3) := by
  refine lc_it w (fun j H' => Same H1 H' ∧ H' D = some (.lst (((xs.take j).filter p).map f))) ⟨Same.wr (Same.refl H1) free .mk', upd_same⟩ (fun j H' _ q => hG H' q.1) ?_ ?_
  · rintro j x H2 H3 hj ⟨s, hD⟩ ⟨rfl, hx⟩
    have mem : x ∈ xs := List.mem_of_getElem? hx
    have nx : xs.take (j + 1) = xs.take j ++ [x] := by
      rw [List.take_add_one, hx]
      rfl
    refine ⟨hw x, ht x H3 _ mem s fun H4 s4 => ?_⟩
    have hD4 := s4 _ _ hD
    cases hp : p x with
    | true =>
      rw [if_pos rfl]
      refine he x H4 _ mem hp (s.trans s4) fun H5 s5 => ⟨_, s5 _ _ hD4, ?_, ?_, ?_⟩
      · rw [List.length_map]
        have h1 : ((xs.take j).filter p).length ≤ (xs.take j).length := List.length_filter_le _ _
        have h2 : (xs.take j).length ≤ xs.length := by rw [List.length_take]; omega
        omega
      · exact Same.wr ((s.trans s4).trans s5) free .mk'
      · rw [upd_same, nx, List.filter_append, List.map_append]
        simp [hp]
    | false =>
      rw [if_neg Bool.false_ne_true]
      refine ⟨s.trans s4, ?_⟩
      rw [hD4, nx, List.filter_append]
      simp [hp]
  · rintro H' ⟨s, hD⟩
    rw [List.take_length] at hD
    exact hd H' s hD
end My
end
section
set_option Elab.async false
set_option linter.all false
set_option maxRecDepth 100000
set_option maxHeartbeats 2000000
namespace My
open PySem PySem.Spec PyProof.Rows L2
/-- a text of one sign -/
abbrev sg (c : Nat) : V := .str ⟨#[c]⟩
/-- pairs of signs, each a tuple of its own -/
def PairsAt (H : Hp) (ps : List (Nat × Nat)) (ys : List V) : Prop := Paired (fun (ab : Nat × Nat) y => ∃ q, y = V.ref q ∧ H q = some (.tup [sg ab.1, sg ab.2])) ps ys
theorem PairsAt.same {H H1 : Hp} (s : Same H H1) : ∀ {ps : List (Nat × Nat)} {ys : List V}, PairsAt H ps ys → PairsAt H1 ps ys
  | _, _, .nil => .nil
  | _, _, .cons ⟨q, e, h⟩ t => .cons ⟨q, e, s _ _ h⟩ (PairsAt.same s t)
theorem Paired.at {α β : Type} {R : α → β → Prop} : ∀ {l : List α} {r : List β} {j : Nat} {b : β}, Paired R l r → r[j]? = some b → ∃ a, l[j]? = some a ∧ R a b
  | _, _, _, _, .nil, h => by simp at h
  | _, _, 0, _, .cons h _, e => by
    simp at e
    subst e
    exact ⟨_, rfl, h⟩
  | _, _, j + 1, _, .cons _ t, e => by
    obtain ⟨a, h1, h2⟩ := Paired.at (j := j) t (by simpa using e)
    exact ⟨a, by simpa using h1, h2⟩
theorem Paired.snoc {α β : Type} {R : α → β → Prop} : ∀ {l : List α} {r : List β} {a : α} {b : β}, Paired R l r → R a b → Paired R (l ++ [a]) (r ++ [b])
  | _, _, _, _, .nil, h => .cons h .nil
  | _, _, _, _, .cons h t, k => .cons h (Paired.snoc t k)
theorem Paired.map {α β : Type} {R R' : α → β → Prop} (f : ∀ a b, R a b → R' a b) : ∀ {l : List α} {r : List β}, Paired R l r → Paired R' l r
  | _, _, .nil => .nil
  | _, _, .cons h t => .cons (f _ _ h) (Paired.map f t)
theorem paired_eq {α β : Type} {f : α → β} : ∀ {l : List α} {r : List β}, Paired (fun a y => y = f a) l r → r = l.map f
  | _, _, .nil => rfl
  | _, _, .cons h t => by rw [h, paired_eq t]; rfl
/-- a comprehension over what is told by l: tests and elements may make objects -/
theorem lc_pair {α : Type} {J : It} {xs : List V} {G : Hp → Prop} (w : Walk J xs.length G (YAt xs)) (l : List α) (hl : l.length = xs.length) {i : Nat} {tt : TT} {te : TE} {vs : List Nat} {σ : L2.St} {H1 : Hp} {D : Addr} {Qd : Hp → Prop} (p : α → Bool) (R : α → V → Hp → Prop)
    (mono : ∀ a y H H', (∃ zs, H D = some (.lst zs)) → But D H H' → R a y H → R a y H') (free : H1 D = none) (hG : ∀ H', Same H1 H' → G H') (small : xs.length < sizeLine) (hw : ∀ x, wipe ((wipe σ vs).set i (some x)) vs = wipe σ vs)
    (ht : ∀ (j : Nat) x a H' (C : Bool → Hp → Prop), xs[j]? = some x → l[j]? = some a → Same H1 H' → (∀ H3, Same H' H3 → C (p a) H3) → tt ((wipe σ vs).set i (some x)) H' C)
    (he : ∀ (j : Nat) x a H' (C : VK), xs[j]? = some x → l[j]? = some a → p a = true → Same H1 H' → (∀ H4 y, Same H' H4 → R a y H4 → C y H4) → te ((wipe σ vs).set i (some x)) H' C)
    (hd : ∀ H' ys, Same H1 H' → H' D = some (.lst ys) → Paired (fun a y => R a y H') (l.filter p) ys → Qd H') :
    ∃ W : Nat → Nat → Hp → Prop, (∃ m, W 0 m (upd H1 D (.lst []))) ∧ ∀ j m H, W j m H →
      (J.stop j H ∧ Qd H) ∨ (J.go j H ∧ ∃ Nx : Hp → Prop, (∀ H', Nx H' → ∃ m', m' < m ∧ W (j + 1) m' H') ∧ ∀ x H', J.yld j H x H' → gName i x (wipe σ vs) H' fun σ2 H2 => wipe σ2 vs = wipe σ vs ∧ tt σ2 H2 fun b H3 =>
        if b = true then te σ2 H3 fun y H4 => ∃ acc, H4 D = some (.lst acc) ∧ acc.length < sizeLine ∧ Nx (upd H4 D (.lst (acc ++ [y]))) else Nx H3) := by
  refine lc_it w (fun j H' => Same H1 H' ∧ ∃ ys, H' D = some (.lst ys) ∧ ys.length ≤ j ∧ Paired (fun a y => R a y H') ((l.take j).filter p) ys)
    ⟨Same.wr (Same.refl H1) free .mk', [], upd_same, Nat.le_refl _, by simp; exact .nil⟩ (fun j H' _ q => hG H' q.1) ?_ ?_
  · rintro j x H2 H3 hj ⟨s, ys, hD, hy, hp⟩ ⟨rfl, hx⟩
    have hjl : j < l.length := by omega
    obtain ⟨a, ha⟩ : ∃ a, l[j]? = some a := ⟨l[j], by simp [hjl]⟩
    have nx : l.take (j + 1) = l.take j ++ [a] := by
      rw [List.take_add_one, ha]
      rfl
    refine ⟨hw x, ht j x a H3 _ hx ha s fun H4 s4 => ?_⟩
    have hD4 := s4 _ _ hD
    have hp4 := Paired.map (fun a y h => mono a y H3 H4 ⟨_, hD⟩ (.of s4) h) hp
    cases hpa : p a with
    | true =>
      rw [if_pos rfl]
      refine he j x a H4 _ hx ha hpa (s.trans s4) fun H5 y s5 hR => ⟨ys, s5 _ _ hD4, by omega, ?_, ys ++ [y], upd_same, by simp; omega, ?_⟩
      · exact Same.wr ((s.trans s4).trans s5) free .mk'
      · have w5 : But D H5 (upd H5 D (.lst (ys ++ [y]))) := Wr.mk'.but
        have hp5 := Paired.map (fun a y h => mono a y H4 H5 ⟨_, hD4⟩ (.of s5) h) hp4
        have hp6 := Paired.map (fun a y h => mono a y H5 _ ⟨_, s5 _ _ hD4⟩ w5 h) hp5
        rw [nx, List.filter_append]
        have e : [a].filter p = [a] := by simp [hpa]
        rw [e]
        exact Paired.snoc hp6 (mono a y H5 _ ⟨_, s5 _ _ hD4⟩ w5 hR)
    | false =>
      rw [if_neg Bool.false_ne_true]
      refine ⟨s.trans s4, ys, hD4, by omega, ?_⟩
      rw [nx, List.filter_append]
      have e : [a].filter p = [] := by simp [hpa]
      rw [e, List.append_nil]
      exact hp4
  · rintro H' ⟨s, ys, hD, _, hp⟩
    rw [← hl, List.take_length] at hp
    exact hd H' ys s hD hp
/-- what is iterated over: a list or a tuple -/
def iSeq (K : PySem.W.Frag) (tl : TE) : TI := fun σ H R => tl σ H fun x H1 => ∃ a xs, x = .ref a ∧ ((SqL K H1 a xs ∧ R (Itl K a) H1) ∨ (SqT K H1 a xs ∧ R (Itt K a) H1))
theorem pi_seq {X : Cx} {tg l : Expr} {tl : TE} (h : PE X l tl) : PI X tg l (iSeq X.K tl) := by
  constructor
  intro pins s σ H R I q
  apply thn (h.run pins s σ H _ I q)
  intro v s1 hv
  obtain ⟨x, H1, I1, r1, a, xs, rfl, hq⟩ := hv
  cases r1
  have more : ∀ {o : Obj}, L2.Inv X pins σ H1 { s1 with heap := s1.heap.push o } := fun {o} => I1.kept (t' := s1.toks) fun b ob e => Heap.get?_push_of_some _ e
  have fresh : ∀ b ∈ [s1.heap.objs.size], FpOk X pins H1 b := by
    intro b hb
    rw [List.mem_singleton.mp hb]
    exact I1.fpOk (Nat.le_refl _) (I1.hok.fresh (Nat.le_refl _))
  cases hq with
  | inl hq =>
    obtain ⟨its, rv, pl, hz⟩ := I1.list hq.1
    apply wpAny_pyIter_list pl.isList
    exact ⟨_, [s1.heap.objs.size], _, _, H1, rfl, more, turn_list a _, ⟨_, Heap.get?_push_size _ rfl, rfl, rfl⟩, fresh, hq.2⟩
  | inr hq =>
    obtain ⟨its, rv, pl, hz⟩ := I1.tuple hq.1
    apply wpAny_pyIter_tuple (show s1.heap.IsTuple a its.toArray from pl)
    exact ⟨_, [s1.heap.objs.size], _, _, H1, rfl, more, turn_tuple a _, ⟨_, Heap.get?_push_size _ rfl, rfl, rfl⟩, fresh, hq.2⟩
/-! ### the place of a sign in a text -/
theorem idx_first {l : List Nat} {c k : Nat} (h : l[k]? = some c) (hn : ∀ j, j < k → l[j]? ≠ some c) : l.idxOf c = k := by
  induction l generalizing k with
  | nil => simp at h
  | cons a l ih =>
    cases k with
    | zero =>
      have e : a = c := by simpa using h
      subst e
      simp
    | succ k =>
      have ne : a ≠ c := fun e => hn 0 (Nat.zero_lt_succ _) (by simp [e])
      have rest := ih (k := k) (by simpa using h) fun j hj => by
        have := hn (j + 1) (Nat.succ_lt_succ hj)
        simpa using this
      rw [List.idxOf_cons, beq_eq_false_iff_ne.mpr ne, cond_false, rest]
theorem index0_one (z : Str) (c : Nat) (h : c ∈ z.cps.toList) : Txt.index0 z ⟨#[c]⟩ = some (z.cps.toList.idxOf c) := by
  unfold Txt.index0
  rcases StrLaws.occ_head z ⟨#[c]⟩ 1 (Nat.le_refl 1) with ⟨_, hn⟩ | ⟨i, r, e, ha, hn⟩
  · obtain ⟨j, hj⟩ := List.mem_iff_getElem?.mp h
    exact absurd ((StrLaws.subAt_one z c j).mpr hj) (hn j)
  · rw [e]
    have e2 : z.cps.toList.idxOf c = i := by
      refine idx_first ((StrLaws.subAt_one z c i).mp ha) fun j hj hjc => ?_
      exact hn j hj ((StrLaws.subAt_one z c j).mpr hjc)
    rw [e2]
    rfl
/-! ### turns as they are kept -/
mutual
/-- data of no more than 4,000 signs or items anywhere -/
def fit : PyData → Bool
  | .str z => decide (z.length ≤ 4000)
  | .list ds => decide (ds.length ≤ 4000) && fitAll ds
  | .tuple ds => decide (ds.length ≤ 4000) && fitAll ds
  | _ => true
def fitAll : List PyData → Bool
  | [] => true
  | d :: ds => fit d && fitAll ds
end
theorem fit.text {d : PyData} (h : fit d = true) : textFits 4000 d := by
  cases d with
  | str z =>
    simp only [fit, decide_eq_true_eq] at h
    exact h
  | _ => trivial
theorem textFits.more {m n : Nat} {d : PyData} (h : textFits m d) (l : m ≤ n) : textFits n d := by
  cases d with
  | str z => exact Nat.le_trans h l
  | _ => trivial
theorem fitAll.at : ∀ {ds : List PyData} {j : Nat} {d : PyData}, fitAll ds = true → ds[j]? = some d → fit d = true
  | [], _, _, _, h => by simp at h
  | _ :: _, 0, _, h, e => by
    simp only [fitAll, Bool.and_eq_true] at h
    simp at e
    exact e ▸ h.1
  | _ :: _, j + 1, _, h, e => by
    simp only [fitAll, Bool.and_eq_true] at h
    exact fitAll.at (j := j) h.2 (by simpa using e)
/-- a pair of signs -/
def pairOf (S : Str) : PyData → Option (Nat × Nat)
  | .tuple [.str x, .str y] => if signD S (.str x) && signD S (.str y) then some (x.cps.toList.headD 0, y.cps.toList.headD 0) else none
  | _ => none
theorem signD_some {S z : Str} (h : signD S (.str z) = true) : ∃ c, z = ⟨#[c]⟩ ∧ c ∈ S.cps.toList := by
  rw [signD_str, Bool.and_eq_true, decide_eq_true_eq] at h
  obtain ⟨c, rfl⟩ := one_sign h.1
  refine ⟨c, rfl, ?_⟩
  have := h.2
  simpa using this
theorem pairOf_some {S : Str} {d : PyData} {a b : Nat} (h : pairOf S d = some (a, b)) : d = .tuple [.str ⟨#[a]⟩, .str ⟨#[b]⟩] ∧ a ∈ S.cps.toList ∧ b ∈ S.cps.toList := by
  unfold pairOf at h
  split at h
  · rename_i x y
    split at h
    · rename_i hs
      rw [Bool.and_eq_true] at hs
      obtain ⟨c, rfl, hc⟩ := signD_some hs.1
      obtain ⟨e, rfl, he⟩ := signD_some hs.2
      simp at h
      obtain ⟨rfl, rfl⟩ := h
      exact ⟨rfl, hc, he⟩
    · cases h
  · cases h
theorem pairOf_two (S : Str) (x y : PyData) : (pairOf S (.tuple [x, y])).isSome = (signD S x && signD S y) := by
  cases x with
  | str a =>
    cases y with
    | str b =>
      show (if (signD S (.str a) && signD S (.str b)) = true then some _ else none).isSome = _
      cases signD S (.str a) && signD S (.str b) <;> rfl
    | _ => simp [pairOf, signD]
  | _ => simp [pairOf, signD]
theorem pairOf_len (S : Str) {ds : List PyData} (h : ds.length ≠ 2) : (pairOf S (.tuple ds)).isSome = false := by
  match ds, h with
  | [], _ => rfl
  | [x], _ => simp [pairOf]
  | [_, _], h => exact absurd rfl h
  | x :: y :: z :: r, _ => simp [pairOf]
/-- heads as an assoc list: a pair is put both ways -/
def putN (h : List (Nat × Nat)) (a b : Nat) : List (Nat × Nat) := if (h.any fun e => decide (e.1 = a)) = true then h.map (fun e => if e.1 = a then (e.1, b) else e) else h ++ [(a, b)]
def headOf (h : List (Nat × Nat)) (a : Nat) : Option Nat := (h.find? fun e => decide (e.1 = a)).map (·.2)
def headsFrom (S : Str) : List (Nat × Nat) → List PyData → Option (List (Nat × Nat))
  | h, [] => some h
  | h, d :: ds => match pairOf S d with
    | none => none
    | some (a, b) => if (headOf h a).isSome || (headOf h b).isSome then none else headsFrom S (putN (putN h a b) b a) ds
/-- the turns that a dict of heads has, each once, its earlier sign first -/
def dueOf (S : Str) (h : List (Nat × Nat)) : List (Nat × Nat) :=
  ((S.cps.toList.filter fun c => (headOf h c).isSome).map fun c => (c, (headOf h c).getD 0)).filter fun e => decide (S.cps.toList.idxOf e.1 ≤ S.cps.toList.idxOf e.2)
def keptD (S : Str) : PyData → Option (List (Nat × Nat))
  | .list ds => (headsFrom S [] ds).map (dueOf S)
  | .tuple ds => (headsFrom S [] ds).map (dueOf S)
  | _ => none
/-- heads as a dict holds them -/
def toK (h : List (Nat × Nat)) : List (Key × V) := h.map fun e => (Sum.inr ⟨#[e.1]⟩, sg e.2)
theorem sign_inj {a b : Nat} : ((⟨#[a]⟩ : Str) = ⟨#[b]⟩) ↔ a = b := by
  constructor
  · intro e
    injection e with e
    simpa using e
  · intro e
    rw [e]
theorem keyS_inj {a b : Nat} : ((Sum.inr ⟨#[a]⟩ : Key) = Sum.inr ⟨#[b]⟩) ↔ a = b := by
  constructor
  · intro e
    exact sign_inj.mp (Sum.inr.inj e)
  · intro e
    rw [e]
theorem valV_toK (h : List (Nat × Nat)) (a : Nat) : valV (toK h) (Sum.inr ⟨#[a]⟩ : Key) = (headOf h a).map sg := by
  induction h with
  | nil => rfl
  | cons e h ih =>
    by_cases q : e.1 = a
    · have e1 : valV (toK (e :: h)) (Sum.inr ⟨#[a]⟩ : Key) = some (sg e.2) := valV_pos (keyS_inj.mpr q)
      rw [e1]
      simp [headOf, q]
    · have e1 : valV (toK (e :: h)) (Sum.inr ⟨#[a]⟩ : Key) = valV (toK h) (Sum.inr ⟨#[a]⟩ : Key) := valV_neg (fun z => q (keyS_inj.mp z))
      rw [e1, ih]
      simp [headOf, q]
theorem putK_toK (h : List (Nat × Nat)) (a b : Nat) : putK (toK h) (Sum.inr ⟨#[a]⟩ : Key) (sg b) = toK (putN h a b) := by
  have e : ((toK h).any fun kv => decide (kv.1 = (Sum.inr ⟨#[a]⟩ : Key))) = h.any fun e => decide (e.1 = a) := by
    unfold toK
    rw [List.any_map]
    congr 1
    funext x
    simp only [Function.comp]
    rw [decide_eq_decide]
    exact keyS_inj
  unfold putK putN
  rw [e]
  split
  · unfold toK
    rw [List.map_map, List.map_map]
    congr 1
    funext x
    simp only [Function.comp]
    by_cases q : x.1 = a
    · rw [if_pos (keyS_inj.mpr q), if_pos q]
    · rw [if_neg (fun z => q (keyS_inj.mp z)), if_neg q]
  · unfold toK
    rw [List.map_append]
    rfl
theorem dget_toK {H : Hp} {p : Addr} {h : List (Nat × Nat)} (a : Nat) (e : H p = some (.dK (toK h))) : DGet H p (sg a) ((headOf h a).map sg) := by
  rw [← valV_toK]
  exact DGet.k (k := Sum.inr ⟨#[a]⟩) e
theorem dput_toK {H : Hp} {p : Addr} {h : List (Nat × Nat)} (a b : Nat) (e : H p = some (.dK (toK h))) (l : h.length < sizeLine) : DPut H p (sg a) (sg b) (upd H p (.dK (toK (putN h a b)))) := by
  rw [← putK_toK]
  exact DPut.k (k := Sum.inr ⟨#[a]⟩) e (by rw [toK, List.length_map]; exact l)
theorem headOf_putN (h : List (Nat × Nat)) (a b c : Nat) : headOf (putN h a b) c = if c = a then some b else headOf h c := by
  have app : ∀ (h : List (Nat × Nat)), (h.any fun e => decide (e.1 = a)) = false → headOf (h ++ [(a, b)]) c = if c = a then some b else headOf h c := by
    intro h hn
    induction h with
    | nil =>
      by_cases q : a = c
      · subst q; simp [headOf]
      · rw [if_neg (fun e => q e.symm)]
        simp [headOf, q]
    | cons e h ih =>
      rw [List.any_cons, Bool.or_eq_false_iff] at hn
      have hne : e.1 ≠ a := of_decide_eq_false hn.1
      by_cases q : e.1 = c
      · have : c ≠ a := fun z => hne (q.trans z)
        rw [if_neg this]
        simp [headOf, q]
      · have ih := ih hn.2
        have r1 : headOf (e :: h ++ [(a, b)]) c = headOf (h ++ [(a, b)]) c := by simp [headOf, q]
        have r2 : headOf (e :: h) c = headOf h c := by simp [headOf, q]
        rw [r1, r2, ih]
  have rep : ∀ (h : List (Nat × Nat)), headOf (h.map fun e => if e.1 = a then (e.1, b) else e) c = if c = a then (if (h.any fun e => decide (e.1 = a)) = true then some b else none) else headOf h c := by
    intro h
    induction h with
    | nil =>
      by_cases q : c = a
      · rw [if_pos q]; rfl
      · rw [if_neg q]; rfl
    | cons e h ih =>
      by_cases k : e.1 = a
      · have e1 : (List.map (fun e => if e.1 = a then (e.1, b) else e) (e :: h)) = (e.1, b) :: List.map (fun e => if e.1 = a then (e.1, b) else e) h := by
          rw [List.map_cons, if_pos k]
        rw [e1]
        by_cases q : c = a
        · rw [if_pos q]
          simp [headOf, k, q]
        · have n1 : ¬ e.1 = c := fun z => q (z.symm.trans k)
          rw [if_neg q] at ih ⊢
          have r1 : headOf ((e.1, b) :: List.map (fun e => if e.1 = a then (e.1, b) else e) h) c = headOf (List.map (fun e => if e.1 = a then (e.1, b) else e) h) c := by simp [headOf, n1]
          have r2 : headOf (e :: h) c = headOf h c := by simp [headOf, n1]
          rw [r1, r2, ih]
      · have e1 : (List.map (fun e => if e.1 = a then (e.1, b) else e) (e :: h)) = e :: List.map (fun e => if e.1 = a then (e.1, b) else e) h := by
          rw [List.map_cons, if_neg k]
        have e2 : ((e :: h).any fun e => decide (e.1 = a)) = h.any fun e => decide (e.1 = a) := by
          rw [List.any_cons, decide_eq_false k, Bool.false_or]
        rw [e1, e2]
        by_cases q : e.1 = c
        · have : c ≠ a := fun z => k (q.trans z)
          rw [if_neg this]
          simp [headOf, q]
        · have r1 : headOf (e :: List.map (fun e => if e.1 = a then (e.1, b) else e) h) c = headOf (List.map (fun e => if e.1 = a then (e.1, b) else e) h) c := by simp [headOf, q]
          have r2 : headOf (e :: h) c = headOf h c := by simp [headOf, q]
          rw [r1, r2, ih]
  unfold putN
  cases hq : (h.any fun e => decide (e.1 = a)) with
  | true =>
    rw [if_pos rfl, rep h, hq, if_pos rfl]
  | false =>
    rw [if_neg Bool.false_ne_true, app h hq]
theorem Paired.length {α β : Type} {R : α → β → Prop} : ∀ {l : List α} {r : List β}, Paired R l r → l.length = r.length
  | _, _, .nil => rfl
  | _, _, .cons _ t => by simp [Paired.length t]
theorem toK_length (h : List (Nat × Nat)) : (toK h).length = h.length := List.length_map _
theorem putN_length (h : List (Nat × Nat)) (a b : Nat) : (putN h a b).length ≤ h.length + 1 := by
  unfold putN
  split
  · rw [List.length_map]; omega
  · rw [List.length_append]; exact Nat.le_refl _
section
variable {X : Cx}
/-- {} -/
def qDNew : TE := fun _ H Q => ∀ p H1, New H p (.dK []) H1 → Q (.ref p) H1
theorem pe_dnew' {pos : Pos} : PE X (.Dict [] [] pos) qDNew := PE.weak pe_dnewK fun σ H Q q p hp => q p _ (.mk' hp)
end
def sp_isPair (K : PySem.W.Frag) : Sp := fun vs H Q _ => ∃ (S : Str) (v : V) (d : PyData) (p : Addr), vs = [.str S, v] ∧ Rp K p H false v d ∧ fit d = true ∧ ∀ H', Same H H' → Q (.bl (pairOf S d).isSome) H'
def sp_isListed (K : PySem.W.Frag) : Sp := fun vs H Q _ => ∃ (v : V) (d : PyData) (p : Addr), vs = [v] ∧ Rp K p H false v d ∧ ∀ H', Same H H' → Q (.bl (isSeqD d)) H'
def sp_kept (K : PySem.W.Frag) : Sp := fun vs H Q _ => ∃ (S : Str) (v : V) (d : PyData) (p : Addr), vs = [.str S, v] ∧ Rp K p H false v d ∧ fit d = true ∧ S.length ≤ 4000 ∧
  (keptD S d = none → ∀ H', Same H H' → Q .non H') ∧ (∀ ps, keptD S d = some ps → ∀ H' r ys, Same H H' → H r = none → H' r = some (.tup ys) → PairsAt H' ps ys → Q (.ref r) H')
theorem rp_pair {K : PySem.W.Frag} {p : Addr} {H : Hp} {st : Bool} {v : V} {x y : Str} (h : Rp K p H st v (.tuple [.str x, .str y])) : ∃ q, v = .ref q ∧ H q = some (.tup [.str x, .str y]) ∧ q ≠ p := by
  cases h with
  | tup ha hp r =>
    cases r with
    | cons r1 r2 =>
      cases r1
      cases r2 with
      | cons r3 r4 =>
        cases r3
        cases r4
        exact ⟨_, rfl, ha, hp⟩
/-- a list or a tuple of data -/
theorem rp_seq {K : PySem.W.Frag} {p : Addr} {H : Hp} {st : Bool} {v : V} {d : PyData} (h : Rp K p H st v d) (hs : isSeqD d = true) : ∃ a xs ds st2, v = .ref a ∧ (SqL K H a xs ∨ SqT K H a xs) ∧ RpAll K p H st2 xs ds ∧ (d = .list ds ∨ d = .tuple ds) := by
  cases h with
  | lst ha hp _ r => exact ⟨_, _, _, _, rfl, .inl (SqL.of ha), r, .inl rfl⟩
  | tup ha hp r => exact ⟨_, _, _, _, rfl, .inr (SqT.of ha), r, .inr rfl⟩
  | emp h => exact ⟨_, [], [], st, rfl, .inr h.sq, .nil _, .inr rfl⟩
  | _ => cases hs
theorem RpAll.but2 {K : PySem.W.Frag} {p : Addr} {H H1 : Hp} (s : Same H H1) {st : Bool} {ds : List PyData} {vs : List V} (h : RpAll K p H st vs ds) : RpAll K p H1 st vs ds := RpAll.but (.of s) h
theorem headsFrom_cons (S : Str) (h : List (Nat × Nat)) (d : PyData) (ds : List PyData) : headsFrom S h (d :: ds) = match pairOf S d with
    | none => none
    | some (a, b) => if (headOf h a).isSome || (headOf h b).isSome then none else headsFrom S (putN (putN h a b) b a) ds := rfl
theorem at0 (a b : V) : atI [a, b] (0 : Int) = some a := atI_nat (j := 0) rfl
theorem at1 (a b : V) : atI [a, b] (1 : Int) = some b := atI_nat (j := 1) rfl
/-- a for over a list or a tuple that stands since H0 -/
theorem tFor_seq {K : PySem.W.Frag} {tl : TE} {g : TG} {tb : TS} {D : Ends} {σ : L2.St} {H H0 : Hp} {a : Addr} {xs : List V} (hv : ∀ C : VK, C (.ref a) H → tl σ H C) (hq : SqL K H0 a xs ∨ SqT K H0 a xs) (Pv : Nat → L2.St → Hp → Prop) (h0 : Pv 0 σ H)
    (hS : ∀ i σ' H', Pv i σ' H' → Same H0 H')
    (hs : ∀ i x σ' H', i < xs.length → xs[i]? = some x → Pv i σ' H' → g x σ' H' fun σ2 H2 => tb { D with nx := Pv (i + 1), ct := Pv (i + 1), bk := D.nx } σ2 H2) (hd : ∀ σ' H', Pv xs.length σ' H' → D.nx σ' H') : tFor (iSeq K tl) g tb D σ H := by
  refine hv _ ⟨a, xs, rfl, ?_⟩
  rcases hq with hq | hq
  · refine .inl ⟨(hS 0 σ H h0).seq hq, for_it walk_list Pv h0 (fun i σ' H' _ p => (hS i σ' H' p).seq hq) (fun i x σ' H1 H2 hi p y => ?_) hd⟩
    obtain ⟨rfl, hx⟩ := y
    exact hs i x σ' _ hi hx p
  · refine .inr ⟨(hS 0 σ H h0).tupl hq, for_it walk_tup Pv h0 (fun i σ' H' _ p => (hS i σ' H' p).tupl hq) (fun i x σ' H1 H2 hi p y => ?_) hd⟩
    obtain ⟨rfl, hx⟩ := y
    exact hs i x σ' _ hi hx p
/-! ### rules within a comprehension: the written part by its name -/
section
variable {X : Cx} {K : PySem.W.Frag}
theorem ix_tupK (h : X.K = K) : IxR X (rIxT K) := h ▸ ix_tup
theorem ix_listK (h : X.K = K) : IxR X (rIxL K) := h ▸ ix_list
theorem pe_bmSK {o e : Expr} {es : List Expr} {to : TE} {t : TA} {name : Str} {apos cpos : Pos} {T id : String} {r : L2.St → V → List V → Hp → VK → Prop} (h : X.K = K) (pa : PlainAttrs T) (slot : Slot T name id) (hty : typeOf (.builtin id) = pure (.type "method_descriptor")) (hm : MtS X id r) (ho : PE X o to) (ha : PA X (e :: es) t)
    (hbase : attributeBase o name X.env (eval o X.env) = eval o X.env := by rfl)
    (hfew : ((backTo cpos (starEach (e :: es) X.env)).all (fun x => !x.1) && (backToKw cpos (keywordEach [] X.env)).all (fun x => x.1.isSome)
      && decide ((e :: es).length + ([] : List Keyword).length + (if ([] : List Keyword).isEmpty then 0 else 1) < 30)) = true := by rfl)
    (hline : (apos.endLine == cpos.line) = true := by rfl) (hs : starEach (e :: es) X.env = (false, eval e X.env) :: starEach es X.env := by rfl) (hplain : (backTo cpos (starEach es X.env)).any (·.1) = false := by rfl) :
    PE X (.Call (.Attribute o name apos) (e :: es) [] cpos) (tBMS K T r to t) := h ▸ pe_bmS pa slot hty hm ho ha hbase hfew hline hs hplain
end
end My
end
section
set_option Elab.async false
set_option linter.all false
set_option maxRecDepth 100000
set_option maxHeartbeats 2000000
namespace My
open PySem PySem.Spec PyProof.Rows L2
def topS (i : Nat) : Stmt := PySem.Challenge.pw_hymnplates_k02_fonts_refused.main.body.getD i (.Pass ⟨0, 0, 0, 0⟩)
abbrev s_pen : Stmt := topS 18
abbrev s_draw : Stmt := topS 19
section
variable {P : Program} {w : World} {K : PySem.W.Frag} {mg : Str → Option Value} {base : Heap}
theorem sc_pen : FnScope ["_law_script"] ["_law_script"] (defScope s_pen) := ⟨rfl, rfl, rfl, by decide +kernel, rfl, by decide +kernel, by decide +kernel⟩
theorem ok_pen {f : Addr} {fd : FuncData} (F : Fun K "_law_pen" "_law_pen" s_pen f fd) (Tlist : mg "list" = none) : FnOk P w K mg base CX0 1 f fd ["_law_script"] (sp_pen K) := by
  refine F.ok sc_pen (fun vs H Q E h => ?_) (fun cdv A outer s H vs Q E hr h => ?_)
  · obtain ⟨a, ns, rfl, _⟩ := h
    rfl
  · obtain ⟨a, ns, rfl, hS, hlen, k⟩ := h
    refine ⟨_, pss_one (ps_ret (pe_disp (pps_cons pe_str (pe_callTy call_listOf (by rfl) Tlist (by decide +kernel) (pa_cons (pe_slice sl_list' (pv 0) po_none (po_some pe_int)) pa_nil)) (pps_cons pe_str pe_int (pps_cons pe_str pe_int pps_nil))) (by rfl) (by rfl) (fun z => by cases z) (by decide))), ?_⟩
    intro p hp
    have n0 : New H p (.dK []) (upd H p (.dK [])) := .mk' hp
    generalize upd H p (HO.dK []) = H0 at n0 ⊢
    refine ⟨_, rfl, 63, rfl, a, _, rfl, n0.same.seq hS, fun q H1 n1 => ⟨q, _, rfl, .inl (SqL.of n1.here), fun l H2 n2 => ?_⟩⟩
    refine ⟨n2.same _ _ (n1.same _ _ n0.here), penK l 0 0, rfl, (by show 3 ≤ 15; omega), ?_⟩
    refine k _ p l ?_ hp ⟨ns.take 63, 0, 0, upd_same, ?_, Int.le_refl _, Int.le_refl _, ?_⟩
    · exact Same.wr ((n0.same.trans n1.same).trans n2.same) hp Wr.mk'
    · rw [upd_ne (ne_of_none (n1.same _ _ n0.here) n2.free).symm, n2.here]
      rw [show (63 : Int) = ((63 : Nat) : Int) from rfl, cutV_to, List.map_take]
    · rw [List.length_take]
      omega
theorem sc_draw : FnScope ["_law_pen_here", "_law_many", "_law_digit", "_law_used", "_law_cell", "_law_blend"] ["_law_pen_here", "_law_many"] (defScope s_draw) := ⟨rfl, rfl, rfl, by decide +kernel, rfl, by decide +kernel, by decide +kernel⟩
structure TDraw (mg : Str → Option Value) : Prop where
  int : mg "int" = none
  len : mg "len" = none
  abs : mg "abs" = none
theorem ok_draw {f : Addr} {fd : FuncData} (F : Fun K "_law_draw" "_law_draw" s_draw f fd) (T : TDraw mg) : FnOk P w K mg base CX0 1 f fd ["_law_pen_here", "_law_many"] sp_draw := by
  refine F.ok sc_draw (fun vs H Q E h => ?_) (fun cdv A outer s H vs Q E hr h => ?_)
  · obtain ⟨a, c, m, n, rfl, _⟩ := h
    rfl
  · obtain ⟨p, c, m, n, rfl, hP, hn, hm0, hm1, k⟩ := h
    have hu := hu_of hr
    refine ⟨_, pss_cons (ps_if (pt_cmpR op_gt (pe_dget hu (pv 0) pe_str (fun _ _ => rfl)) pe_int (nomark _))
        (pss_cons (ps_set (i := 2) sc_draw.nd rfl (Or.inl rfl) (pe_op op_modN (pe_callTy call_int1 (by rfl) T.int (by decide +kernel) (pa_cons (pe_dget hu (pv 0) pe_str (fun _ _ => rfl)) pa_nil)) (pv 1)))
        (pss_cons (ps_dput hu (pv 0) pe_str (pe_op op_fdivW (pe_dget hu (pv 0) pe_str (fun _ _ => rfl)) (pv 1)) rfl)
        (pss_one (ps_ret (pv 2))))) pss_nil)
      (pss_cons (ps_set (i := 3) sc_draw.nd rfl (Or.inl rfl) (pe_dget hu (pv 0) pe_str (fun _ _ => rfl)))
      (pss_cons (ps_dput hu (pv 0) pe_str (pe_op op_add (pv 3) pe_int) rfl)
      (pss_cons (ps_set (i := 4) sc_draw.nd rfl (Or.inl rfl) (pe_op op_add (pe_op op_mul pe_int (pv 3)) pe_int))
      (pss_cons (ps_if (pt_cmpR (op_neNil hr.units0) (pe_dget hu (pv 0) pe_str (fun _ _ => rfl)) (pe_lst' pa_nil) (nomark _))
        (pss_one (ps_set (i := 4) sc_draw.nd rfl (Or.inl rfl) (pe_ix ix_list (pe_dget hu (pv 0) pe_str (fun _ _ => rfl)) (pe_op op_modN (pe_callTy call_int1 (by rfl) T.int (by decide +kernel) (pa_cons (pv 3) pa_nil))
          (pe_callB call_len_seq (by rfl) T.len PySem.boot_len (pa_cons (pe_dget hu (pv 0) pe_str (fun _ _ => rfl)) pa_nil))) (fun _ _ => rfl)))) pss_nil)
      (pss_cons (ps_if (PW.pt (pw_and (pt_cmpR op_lt (pv 3) (pe_callB call_len_seq (by rfl) T.len PySem.boot_len (pa_cons (pe_dget hu (pv 0) pe_str (fun _ _ => rfl)) pa_nil)) (nomark _))
          (pw_and1 (pt_cmpR op_ge (pe_callB call_abs (by rfl) T.abs (by decide +kernel) (pa_cons (pv 4) pa_nil)) (pe_op op_pow pe_int pe_int) (nomark _)))))
        (pss_cons (ps_dput hu (pv 0) pe_str (pe_op op_fdivW (pe_op op_sub (pe_callB call_abs (by rfl) T.abs (by decide +kernel) (pa_cons (pv 4) pa_nil)) (pe_op op_pow pe_int pe_int)) (pv 1)) rfl)
        (pss_one (ps_ret (pe_op op_modN (pe_op op_sub (pe_callB call_abs (by rfl) T.abs (by decide +kernel) (pa_cons (pv 4) pa_nil)) (pe_op op_pow pe_int pe_int)) (pv 1))))) pss_nil)
      (pss_cons (ps_set (i := 5) sc_draw.nd rfl (Or.inl rfl) (pe_op op_add (pe_op op_mulW (pe_op op_modN (pe_callTy call_int1 (by rfl) T.int (by decide +kernel) (pa_cons (pv 4) pa_nil)) pe_int) pe_int) (pe_op op_mulW (pe_op op_mulW pe_int (pv 3)) (pv 3))))
      (pss_cons (ps_set (i := 5) sc_draw.nd rfl (Or.inl rfl) (pe_op op_modN (pe_callTy call_int1 (by rfl) T.int (by decide +kernel) (pa_cons (pe_op op_add (pe_op op_add (pv 5) (pe_op op_mulW pe_int (pv 3))) pe_int) pa_nil)) pe_int))
      (pss_cons (ps_set (i := 5) sc_draw.nd rfl (Or.inl rfl) (pe_op op_modN (pe_callTy call_int1 (by rfl) T.int (by decide +kernel) (pa_cons (pe_op op_add (pe_op op_add (pe_op op_add (pe_op op_mulW (pv 5) (pv 5)) (pe_op op_mulW pe_int (pv 5))) (pe_op op_mulW pe_int (pv 3))) pe_int) pa_nil)) pe_int))
      (pss_cons (ps_set (i := 5) sc_draw.nd rfl (Or.inl rfl) (pe_op op_fdivW (pe_op op_modN (pe_callTy call_int1 (by rfl) T.int (by decide +kernel) (pa_cons (pe_op op_mulW (pv 5) (pe_op op_add (pv 5) pe_int)) pa_nil)) pe_int) pe_int))
      (pss_cons (ps_if (pt_cmpR op_gt (pv 1) pe_int (nomark _)) (pss_one ps_never) pss_nil)
      (pss_one (ps_ret (pe_op op_modN (pe_callTy call_int1 (by rfl) T.int (by decide +kernel) (pa_cons (pv 5) pa_nil)) (pv 1)))))))))))))), ?_⟩
    obtain ⟨cs, u, l, h1, h2, hu0, hun, hc⟩ := hP
    have hdiv : CDivW 0 m := wide_div hm0 (b := 30) (by omega) (by decide) (by decide)
    refine ⟨_, rfl, p, _, rfl, dget_left h1, _, _, rfl, rfl, _, rfl, ite2 (fun hl => ?_) (fun hl => ?_)⟩
    · refine ⟨_, rfl, p, _, rfl, dget_left h1, .inl ⟨_, rfl, _, rfl, _, _, rfl, rfl, (by omega), ?_⟩⟩
      refine ⟨_, rfl, p, _, rfl, dget_left h1, _, rfl, _, _, rfl, rfl, hdiv, _, rfl, p, _, rfl, dput_left h1, ?_⟩
      refine ⟨_, rfl, k _ _ ⟨Wr.mk'.but, cs, u, _, upd_same, ?_, hu0, by omega, hc⟩ (fmod_bounds _ hm0).1 (fmod_bounds _ hm0).2⟩
      rw [upd_ne (ne_of h2 h1 (by intro z; cases z))]
      exact h2
    · refine ⟨_, rfl, p, _, rfl, dget_used h1, ?_⟩
      refine ⟨_, rfl, _, _, rfl, rfl, _, rfl, p, _, rfl, dput_used h1, ?_⟩
      have hpc : c ≠ p := ne_of h2 h1 (by intro z; cases z)
      have w1 : Wr H p (.dK (penK c (u + 1) l)) (upd H p (.dK (penK c (u + 1) l))) := .mk'
      generalize upd H p (HO.dK (penK c (u + 1) l)) = H1 at w1 ⊢
      have g2 : H1 c = some (.lst (cs.map V.int)) := (w1.els c hpc).trans h2
      have hu62 : 0 ≤ u ∧ u < 2 ^ 60 := ⟨hu0, by omega⟩
      refine ⟨_, rfl, _, _, rfl, rfl, .inl (by decide), _, _, rfl, rfl, ?_⟩
      refine ⟨_, rfl, p, _, rfl, dget_cells w1.here, by decide, fun q H2 n2 => ⟨c, q, _, rfl, rfl, SqL.of (n2.same _ _ g2), n2.here, _, rfl, ?_⟩⟩
      have i1 := n2.same _ _ w1.here
      have i2 := n2.same _ _ g2
      have hD : ∀ H3, Same H1 H3 → DrewP H p c (n + 1) H3 := fun H3 s3 => ⟨w1.but.trans (.of s3), cs, u + 1, l, s3 _ _ w1.here, s3 _ _ g2, by omega, by omega, hc⟩
      have sq : Same H1 H2 := n2.same
      have hcl : (cs.map V.int).length = cs.length := List.length_map _
      have hle : ∀ z : Int, 0 ≤ z.fmod m ∧ z.fmod m < m := fun z => fmod_bounds z hm0
      refine ite2 (fun hb => ?_) (fun hb => ?_)
      · have hpos : 0 < cs.length := by
          cases cs with
          | nil => simp at hb
          | cons _ _ => simp
        obtain ⟨h0, h9⟩ := fmod_bounds u (m := ((cs.map V.int).length : Int)) (by rw [hcl]; omega)
        obtain ⟨j, hj⟩ : ∃ j : Nat, u.fmod ((cs.map V.int).length : Int) = j := ⟨_, (Int.toNat_of_nonneg h0).symm⟩
        have hjl : j < cs.length := by rw [hj, hcl] at h9; omega
        refine ⟨_, rfl, p, _, rfl, dget_cells i1, _, rfl, .inl ⟨_, rfl, _, rfl, p, _, rfl, dget_cells i1, c, _, rfl, .inl (SqL.of i2), _, _, rfl, rfl, (by rw [hcl]; omega), c, _, _, V.int cs[j], rfl, rfl, SqL.of i2, ?_, ?_⟩⟩
        · rw [hj, atI_nat]
          simp [hjl]
        generalize cs[j] = cell
        clear hj h0 h9 hjl hpos
        revert cell
        intro cell
        have pw : CPow 10 18 := ⟨by decide, by decide, by decide⟩
        have last : ∀ (b : Int) (H3 : Hp), Same H1 H3 → True := fun _ _ _ => trivial
        refine ⟨_, rfl, _, rfl, p, _, rfl, dget_cells i1, c, _, rfl, .inl (SqL.of i2), _, _, rfl, rfl, _, rfl, ?_⟩
        refine ite2 (fun hlt => ?_) (fun hlt => ?_)
        · refine ⟨_, rfl, _, rfl, _, _, rfl, rfl, pw, _, _, rfl, rfl, _, rfl, ?_⟩
          refine ite2 (fun hge => ?_) (fun hge => ?_)
          · refine ⟨_, rfl, _, rfl, _, _, rfl, rfl, pw, _, _, rfl, rfl, _, rfl, _, _, rfl, rfl, hdiv, _, rfl, p, _, rfl, dput_left i1, ?_⟩
            refine ⟨_, rfl, _, rfl, _, _, rfl, rfl, pw, _, _, rfl, rfl, _, rfl, _, _, rfl, rfl, (by omega), ?_⟩
            refine k _ _ ⟨(hD _ sq).but.trans Wr.mk'.but, cs, u + 1, _, upd_same, ?_, by omega, by omega, hc⟩ (hle _).1 (hle _).2
            rw [upd_ne hpc]
            exact i2
          · refine ⟨_, rfl, .inl ⟨_, rfl, _, _, rfl, rfl, (show (4294967231 : Int) ≠ 0 by decide), _, _, rfl, rfl, ?_, _, rfl, _, _, rfl, rfl, ?_, _, rfl, _, _, rfl, rfl, ?_, _, _, rfl, rfl, ?_⟩⟩
            · have := fmod_bounds cell (m := 4294967231) (by decide)
              exact cmul200 (by omega) (by decide)
            · exact cmul200 (by decide) (by omega)
            · exact cmul200 (by omega) (by omega)
            dsimp only
            generalize cell.fmod 4294967231 * 1103515 + 30011 * u * u = b1
            refine ⟨_, rfl, _, rfl, _, _, rfl, rfl, ?_, _, _, rfl, rfl, _, _, rfl, rfl, .inl ⟨_, rfl, _, _, rfl, rfl, (by intro z; cases z), ?_⟩⟩
            · exact cmul200 (by decide) (by omega)
            obtain ⟨g1, g3⟩ := fmod_bounds (b1 + 178481 * u + 23) (m := 4294967197) (by decide)
            dsimp only
            generalize (b1 + 178481 * u + 23).fmod 4294967197 = b2 at g1 g3 ⊢
            refine ⟨_, rfl, _, rfl, _, _, rfl, rfl, ?_, _, rfl, _, _, rfl, rfl, ?_, _, _, rfl, rfl, _, rfl, _, _, rfl, rfl, ?_, _, _, rfl, rfl, _, _, rfl, rfl, .inl ⟨_, rfl, _, _, rfl, rfl, (by intro z; cases z), ?_⟩⟩
            · exact cmul200 (by omega) (by omega)
            · exact cmul200 (by decide) (by omega)
            · exact cmul200 (by decide) (by omega)
            obtain ⟨g4, g5⟩ := fmod_bounds (b2 * b2 + 16769023 * b2 + 5 * u + 7) (m := 4294967189) (by decide)
            dsimp only
            generalize (b2 * b2 + 16769023 * b2 + 5 * u + 7).fmod 4294967189 = b3 at g4 g5 ⊢
            refine ⟨_, rfl, _, rfl, _, _, rfl, rfl, _, _, rfl, rfl, ?_, .inl ⟨_, rfl, _, _, rfl, rfl, (by intro z; cases z), _, _, rfl, rfl, ?_, ?_⟩⟩
            · exact cmul200 (by omega) (by omega)
            · exact wide_div (by decide) (b := 30) (by decide) (by decide) (by decide)
            refine ⟨_, rfl, _, _, rfl, rfl, _, rfl, ?_⟩
            refine ite2 (fun hgt => absurd (of_decide_eq_true hgt) (by omega)) (fun _ => ?_)
            refine ⟨_, rfl, .inl ⟨_, rfl, _, rfl, _, _, rfl, rfl, (by omega), ?_⟩⟩
            exact k _ _ (hD _ sq) (hle _).1 (hle _).2
        · refine iteF ?_
          refine ⟨_, rfl, .inl ⟨_, rfl, _, _, rfl, rfl, (show (4294967231 : Int) ≠ 0 by decide), _, _, rfl, rfl, ?_, _, rfl, _, _, rfl, rfl, ?_, _, rfl, _, _, rfl, rfl, ?_, _, _, rfl, rfl, ?_⟩⟩
          · have := fmod_bounds cell (m := 4294967231) (by decide)
            exact cmul200 (by omega) (by decide)
          · exact cmul200 (by decide) (by omega)
          · exact cmul200 (by omega) (by omega)
          dsimp only
          generalize cell.fmod 4294967231 * 1103515 + 30011 * u * u = b1
          refine ⟨_, rfl, _, rfl, _, _, rfl, rfl, ?_, _, _, rfl, rfl, _, _, rfl, rfl, .inl ⟨_, rfl, _, _, rfl, rfl, (by intro z; cases z), ?_⟩⟩
          · exact cmul200 (by decide) (by omega)
          obtain ⟨g1, g3⟩ := fmod_bounds (b1 + 178481 * u + 23) (m := 4294967197) (by decide)
          dsimp only
          generalize (b1 + 178481 * u + 23).fmod 4294967197 = b2 at g1 g3 ⊢
          refine ⟨_, rfl, _, rfl, _, _, rfl, rfl, ?_, _, rfl, _, _, rfl, rfl, ?_, _, _, rfl, rfl, _, rfl, _, _, rfl, rfl, ?_, _, _, rfl, rfl, _, _, rfl, rfl, .inl ⟨_, rfl, _, _, rfl, rfl, (by intro z; cases z), ?_⟩⟩
          · exact cmul200 (by omega) (by omega)
          · exact cmul200 (by decide) (by omega)
          · exact cmul200 (by decide) (by omega)
          obtain ⟨g4, g5⟩ := fmod_bounds (b2 * b2 + 16769023 * b2 + 5 * u + 7) (m := 4294967189) (by decide)
          dsimp only
          generalize (b2 * b2 + 16769023 * b2 + 5 * u + 7).fmod 4294967189 = b3 at g4 g5 ⊢
          refine ⟨_, rfl, _, rfl, _, _, rfl, rfl, _, _, rfl, rfl, ?_, .inl ⟨_, rfl, _, _, rfl, rfl, (by intro z; cases z), _, _, rfl, rfl, ?_, ?_⟩⟩
          · exact cmul200 (by omega) (by omega)
          · exact wide_div (by decide) (b := 30) (by decide) (by decide) (by decide)
          refine ⟨_, rfl, _, _, rfl, rfl, _, rfl, ?_⟩
          refine ite2 (fun hgt => absurd (of_decide_eq_true hgt) (by omega)) (fun _ => ?_)
          refine ⟨_, rfl, .inl ⟨_, rfl, _, rfl, _, _, rfl, rfl, (by omega), ?_⟩⟩
          exact k _ _ (hD _ sq) (hle _).1 (hle _).2
      · dsimp only
        generalize 43 * u + 7 = cell
        revert cell
        intro cell
        have pw : CPow 10 18 := ⟨by decide, by decide, by decide⟩
        have last : ∀ (b : Int) (H3 : Hp), Same H1 H3 → True := fun _ _ _ => trivial
        refine ⟨_, rfl, _, rfl, p, _, rfl, dget_cells i1, c, _, rfl, .inl (SqL.of i2), _, _, rfl, rfl, _, rfl, ?_⟩
        refine ite2 (fun hlt => ?_) (fun hlt => ?_)
        · refine ⟨_, rfl, _, rfl, _, _, rfl, rfl, pw, _, _, rfl, rfl, _, rfl, ?_⟩
          refine ite2 (fun hge => ?_) (fun hge => ?_)
          · refine ⟨_, rfl, _, rfl, _, _, rfl, rfl, pw, _, _, rfl, rfl, _, rfl, _, _, rfl, rfl, hdiv, _, rfl, p, _, rfl, dput_left i1, ?_⟩
            refine ⟨_, rfl, _, rfl, _, _, rfl, rfl, pw, _, _, rfl, rfl, _, rfl, _, _, rfl, rfl, (by omega), ?_⟩
            refine k _ _ ⟨(hD _ sq).but.trans Wr.mk'.but, cs, u + 1, _, upd_same, ?_, by omega, by omega, hc⟩ (hle _).1 (hle _).2
            rw [upd_ne hpc]
            exact i2
          · refine ⟨_, rfl, .inl ⟨_, rfl, _, _, rfl, rfl, (show (4294967231 : Int) ≠ 0 by decide), _, _, rfl, rfl, ?_, _, rfl, _, _, rfl, rfl, ?_, _, rfl, _, _, rfl, rfl, ?_, _, _, rfl, rfl, ?_⟩⟩
            · have := fmod_bounds cell (m := 4294967231) (by decide)
              exact cmul200 (by omega) (by decide)
            · exact cmul200 (by decide) (by omega)
            · exact cmul200 (by omega) (by omega)
            dsimp only
            generalize cell.fmod 4294967231 * 1103515 + 30011 * u * u = b1
            refine ⟨_, rfl, _, rfl, _, _, rfl, rfl, ?_, _, _, rfl, rfl, _, _, rfl, rfl, .inl ⟨_, rfl, _, _, rfl, rfl, (by intro z; cases z), ?_⟩⟩
            · exact cmul200 (by decide) (by omega)
            obtain ⟨g1, g3⟩ := fmod_bounds (b1 + 178481 * u + 23) (m := 4294967197) (by decide)
            dsimp only
            generalize (b1 + 178481 * u + 23).fmod 4294967197 = b2 at g1 g3 ⊢
            refine ⟨_, rfl, _, rfl, _, _, rfl, rfl, ?_, _, rfl, _, _, rfl, rfl, ?_, _, _, rfl, rfl, _, rfl, _, _, rfl, rfl, ?_, _, _, rfl, rfl, _, _, rfl, rfl, .inl ⟨_, rfl, _, _, rfl, rfl, (by intro z; cases z), ?_⟩⟩
            · exact cmul200 (by omega) (by omega)
            · exact cmul200 (by decide) (by omega)
            · exact cmul200 (by decide) (by omega)
            obtain ⟨g4, g5⟩ := fmod_bounds (b2 * b2 + 16769023 * b2 + 5 * u + 7) (m := 4294967189) (by decide)
            dsimp only
            generalize (b2 * b2 + 16769023 * b2 + 5 * u + 7).fmod 4294967189 = b3 at g4 g5 ⊢
            refine ⟨_, rfl, _, rfl, _, _, rfl, rfl, _, _, rfl, rfl, ?_, .inl ⟨_, rfl, _, _, rfl, rfl, (by intro z; cases z), _, _, rfl, rfl, ?_, ?_⟩⟩
            · exact cmul200 (by omega) (by omega)
            · exact wide_div (by decide) (b := 30) (by decide) (by decide) (by decide)
            refine ⟨_, rfl, _, _, rfl, rfl, _, rfl, ?_⟩
            refine ite2 (fun hgt => absurd (of_decide_eq_true hgt) (by omega)) (fun _ => ?_)
            refine ⟨_, rfl, .inl ⟨_, rfl, _, rfl, _, _, rfl, rfl, (by omega), ?_⟩⟩
            exact k _ _ (hD _ sq) (hle _).1 (hle _).2
        · refine iteF ?_
          refine ⟨_, rfl, .inl ⟨_, rfl, _, _, rfl, rfl, (show (4294967231 : Int) ≠ 0 by decide), _, _, rfl, rfl, ?_, _, rfl, _, _, rfl, rfl, ?_, _, rfl, _, _, rfl, rfl, ?_, _, _, rfl, rfl, ?_⟩⟩
          · have := fmod_bounds cell (m := 4294967231) (by decide)
            exact cmul200 (by omega) (by decide)
          · exact cmul200 (by decide) (by omega)
          · exact cmul200 (by omega) (by omega)
          dsimp only
          generalize cell.fmod 4294967231 * 1103515 + 30011 * u * u = b1
          refine ⟨_, rfl, _, rfl, _, _, rfl, rfl, ?_, _, _, rfl, rfl, _, _, rfl, rfl, .inl ⟨_, rfl, _, _, rfl, rfl, (by intro z; cases z), ?_⟩⟩
          · exact cmul200 (by decide) (by omega)
          obtain ⟨g1, g3⟩ := fmod_bounds (b1 + 178481 * u + 23) (m := 4294967197) (by decide)
          dsimp only
          generalize (b1 + 178481 * u + 23).fmod 4294967197 = b2 at g1 g3 ⊢
          refine ⟨_, rfl, _, rfl, _, _, rfl, rfl, ?_, _, rfl, _, _, rfl, rfl, ?_, _, _, rfl, rfl, _, rfl, _, _, rfl, rfl, ?_, _, _, rfl, rfl, _, _, rfl, rfl, .inl ⟨_, rfl, _, _, rfl, rfl, (by intro z; cases z), ?_⟩⟩
          · exact cmul200 (by omega) (by omega)
          · exact cmul200 (by decide) (by omega)
          · exact cmul200 (by decide) (by omega)
          obtain ⟨g4, g5⟩ := fmod_bounds (b2 * b2 + 16769023 * b2 + 5 * u + 7) (m := 4294967189) (by decide)
          dsimp only
          generalize (b2 * b2 + 16769023 * b2 + 5 * u + 7).fmod 4294967189 = b3 at g4 g5 ⊢
          refine ⟨_, rfl, _, rfl, _, _, rfl, rfl, _, _, rfl, rfl, ?_, .inl ⟨_, rfl, _, _, rfl, rfl, (by intro z; cases z), _, _, rfl, rfl, ?_, ?_⟩⟩
          · exact cmul200 (by omega) (by omega)
          · exact wide_div (by decide) (b := 30) (by decide) (by decide) (by decide)
          refine ⟨_, rfl, _, _, rfl, rfl, _, rfl, ?_⟩
          refine ite2 (fun hgt => absurd (of_decide_eq_true hgt) (by omega)) (fun _ => ?_)
          refine ⟨_, rfl, .inl ⟨_, rfl, _, rfl, _, _, rfl, rfl, (by omega), ?_⟩⟩
          exact k _ _ (hD _ sq) (hle _).1 (hle _).2
end
end My
end
section
set_option Elab.async false
set_option linter.all false
set_option maxRecDepth 100000
set_option maxHeartbeats 2000000
namespace My
open PySem PySem.Spec PyProof.Rows L2
abbrev s_isSign : Stmt := topS 12
abbrev s_isSet : Stmt := topS 13
section
variable {P : Program} {w : World} {K : PySem.W.Frag} {mg : Str → Option Value} {base : Heap}
theorem sc_isSign : FnScope ["signs", "value"] ["signs", "value"] (defScope s_isSign) := ⟨rfl, rfl, rfl, by decide +kernel, rfl, by decide +kernel, by decide +kernel⟩
theorem ok_isSign {f : Addr} {fd : FuncData} (F : Fun K "is_sign" "is_sign" s_isSign f fd) (T : TB mg) : FnOk P w K mg base CX0 1 f fd ["signs", "value"] (sp_isSign K) := by
  refine F.ok sc_isSign (fun vs H Q E h => ?_) (fun cdv A outer s H vs Q E hr h => ?_)
  · obtain ⟨S, v, d, p, rfl, _⟩ := h
    rfl
  · obtain ⟨S, v, d, p, rfl, hd, hz, k⟩ := h
    refine ⟨_, pss_one (ps_ret (pe_and (pe_callB call_isi (by rfl) T.isi (by decide +kernel) (pa_cons (pv 1) (pa_cons (pe_bltn (v := .ty "str") (by rfl) T.str (by decide +kernel) rfl) pa_nil)))
      (pe_and (pe_cmpR op_eq (pe_callB call_len (by rfl) T.len PySem.boot_len (pa_cons (pv 1) pa_nil)) pe_int (nomark _)) (pe_one (pe_cmpR op_in_sign (pv 1) (pv 0) (by rfl)))))), ?_⟩
    refine ⟨_, rfl, _, _, _, _, _, rfl, .ty "str", hd.ty, kit_str d, _, rfl, ?_⟩
    cases d with
    | str z =>
      cases hd
      refine iteT ⟨_, rfl, _, z.length, rfl, ⟨hz, rfl⟩, rfl, _, rfl, ?_⟩
      refine ite2 (fun h1 => ?_) (fun h1 => ?_)
      · have h1 : z.length = 1 := by
          have := of_decide_eq_true h1
          injection this with e
          omega
        obtain ⟨c, rfl⟩ := one_sign h1
        refine ⟨_, rfl, _, rfl, c, S, rfl, rfl, ?_⟩
        have e : signD S (.str ⟨#[c]⟩) = decide (c ∈ S.cps.toList) := by
          rw [signD_str, h1]
          simp
        rw [e] at k
        exact k
      · have h2 : z.length ≠ 1 := fun e => h1 (by rw [e]; rfl)
        have e : signD S (.str z) = false := by
          rw [signD_str, decide_eq_false h2, Bool.false_and]
        rw [e] at k
        exact k
    | _ => exact iteF k
theorem sc_isSet : FnScope ["signs", "value", "sign"] ["signs", "value"] (defScope s_isSet) := ⟨rfl, rfl, rfl, by decide +kernel, rfl, by decide +kernel, by decide +kernel⟩
theorem ok_isSet {f : Addr} {fd : FuncData} (F : Fun K "is_set" "is_set" s_isSet f fd) (T : TB mg) : FnOk P w K mg base CX0 1 f fd ["signs", "value"] (sp_isSet K) := by
  refine F.ok sc_isSet (fun vs H Q E h => ?_) (fun cdv A outer s H vs Q E hr h => ?_)
  · obtain ⟨S, v, d, p, rfl, _⟩ := h
    rfl
  · obtain ⟨S, v, d, p, rfl, hd, hz, k⟩ := h
    refine ⟨_, pss_one (ps_ret (pe_and (pe_callB call_isi (by rfl) T.isi (by decide +kernel) (pa_cons (pv 1) (pa_cons (pe_bltn (v := .ty "str") (by rfl) T.str (by decide +kernel) rfl) pa_nil)))
      (pe_and (pe_cmpR op_eq (pe_lenSet (by rfl) T.len (by rfl) T.set (pv 1)) (pe_callB call_len (by rfl) T.len PySem.boot_len (pa_cons (pv 1) pa_nil)) (nomark _))
      (pe_one (pe_callB (cr_all rfl) (by rfl) T.all (by decide +kernel) (pa_cons (pe_lc (own := [("sign", 2)]) (g := gName 2) (tt := tYes) rfl sc_isSet.nd (pi_str (pv 1)) (blkOk_by (own := [("sign", 2)]) (N := ["signs", "value", "sign"]) (sc := defScope s_isSet) (by decide +kernel))
        (fun _ _ _ _ _ => pg_name (i := 2) sc_isSet.nd rfl (Or.inl rfl)) (fun _ _ _ _ _ => pts_nil) (fun _ _ _ _ _ => pe_cmpR op_in_sign (pv 2) (pv 0) (by rfl))) pa_nil)))))), ?_⟩
    refine ⟨_, rfl, _, _, _, _, _, rfl, .ty "str", hd.ty, kit_str d, _, rfl, ?_⟩
    cases d with
    | str z =>
      cases hd
      have hz : z.length ≤ 4000 := hz
      refine iteT ⟨_, rfl, z, rfl, hz, _, rfl, _, z.length, rfl, ⟨Nat.le_trans hz (by decide), rfl⟩, rfl, _, rfl, ?_⟩
      have ol := once_eq z.cps.toList
      have zl : z.cps.toList.length = z.length := Array.length_toList
      rw [zl] at ol
      refine ite2 (fun h1 => ?_) (fun h1 => ?_)
      · have h1 : z.cps.toList.Nodup := by
          have := of_decide_eq_true h1
          injection this with e
          exact ol.mp (by omega)
        refine ⟨_, rfl, z, rfl, fun D hD => lc_ff walk_signs (fun _ => true) (fun x => match x with | .str y => .bl (y.cps.toList.all fun c => decide (c ∈ S.cps.toList)) | _ => .non) hD (fun _ _ => trivial) (by rw [signs_len]; exact Nat.lt_of_le_of_lt hz (by decide)) (fun x => rfl) (fun x H' C _ _ h => h _ (Same.refl _)) ?_ ?_⟩
        · intro x H' C hx _ _ hC
          obtain ⟨c, _, rfl⟩ := mem_signs hx
          refine ⟨_, rfl, _, rfl, c, S, rfl, rfl, ?_⟩
          have := hC H' (Same.refl _)
          simpa using this
        · intro H' sm hl
          refine ⟨D, z.cps.toList.map fun c => decide (c ∈ S.cps.toList), rfl, SqL.of ?_, ?_⟩
          · rw [hl, pv_filter_true]
            simp [signs]
          · have e : setD S (.str z) = (z.cps.toList.map fun c => decide (c ∈ S.cps.toList)).all id := by
              rw [setD_str, decide_eq_true h1, Bool.true_and, List.all_map]
              rfl
            rw [← e]
            exact k H' sm
      · have h2 : ¬ z.cps.toList.Nodup := fun n => h1 (by rw [ol.mpr n]; simp)
        have e : setD S (.str z) = false := by
          rw [setD_str, decide_eq_false h2, Bool.false_and]
        rw [e] at k
        exact k H (Same.refl H)
    | _ => exact iteF (k H (Same.refl H))
abbrev s_isFont : Stmt := topS 11
theorem sc_isFont : FnScope ["value"] ["value"] (defScope s_isFont) := ⟨rfl, rfl, rfl, by decide +kernel, rfl, by decide +kernel, by decide +kernel⟩
theorem ok_isFont {f fS C : Addr} {fd fdS : FuncData} (F : Fun K "is_font_signs" "is_font_signs" s_isFont f fd) (T : TB mg) (D : Def K mg "is_set" fS fdS ["signs", "value"]) (G : FnOk P w K mg base CX0 1 fS fdS ["signs", "value"] (sp_isSet K))
    (gF : mg "Font" = some (.ref C)) (cM : ClassV K C "MAX_SIGNS" (.int 10)) {tA : Tok} (gA : mg "ALPHABET" = some (.str alphabet tA)) : FnOk P w K mg base CX0 2 f fd ["value"] (sp_isFont K) := by
  refine F.ok sc_isFont (fun vs H Q E h => ?_) (fun cdv A outer s H vs Q E hr h => ?_)
  · obtain ⟨v, d, p, rfl, _⟩ := h
    rfl
  · obtain ⟨v, d, p, rfl, hd, hz, k⟩ := h
    obtain ⟨mc, u, c1, c2⟩ := cM.ok
    refine ⟨_, pss_one (ps_ret (pe_and (pe_callB call_isi (by rfl) T.isi (by decide +kernel) (pa_cons (pv 0) (pa_cons (pe_bltn (v := .ty "str") (by rfl) T.str (by decide +kernel) rfl) pa_nil)))
      (pe_and (pe_chain op_le op_le pe_int (pe_callB call_len (by rfl) T.len PySem.boot_len (pa_cons (pv 0) pa_nil)) (ClX.pe_cval (pe_glob (v := .ref C) rfl gF rfl)))
      (pe_one (pe_call G hr rfl D.mgf D.kp D.bd .nil pass0 (pa_cons (pe_glob (v := .str alphabet) rfl gA ⟨_, rfl⟩) (pa_cons (pv 0) pa_nil))))))), ?_⟩
    refine ⟨_, rfl, _, _, _, _, _, rfl, .ty "str", hd.ty, kit_str d, _, rfl, ?_⟩
    cases d with
    | str z =>
      cases hd
      have hz : z.length ≤ 4000 := hz
      refine iteT ⟨_, rfl, _, z.length, rfl, ⟨Nat.le_trans hz (by decide), rfl⟩, _, _, rfl, rfl, _, rfl, ?_⟩
      refine ite2 (fun h1 => ?_) (fun h1 => ?_)
      · refine ⟨C, mc, _, u, rfl, c1, c2, _, _, rfl, rfl, _, rfl, ?_⟩
        refine ite2 (fun h2 => ?_) (fun h2 => ?_)
        · refine ⟨_, rfl, alphabet, _, _, p, rfl, Rp.str _ z, hz, fun H' sm => ?_⟩
          have e : fontD (.str z) = setD alphabet (.str z) := by
            rw [fontD_str, decide_eq_true (p := 2 ≤ z.length ∧ z.length ≤ 10) ⟨by have := of_decide_eq_true h1; omega, by have := of_decide_eq_true h2; omega⟩, Bool.true_and]
          rw [e] at k
          exact k H' sm
        · have e : fontD (.str z) = false := by
            rw [fontD_str, decide_eq_false (p := 2 ≤ z.length ∧ z.length ≤ 10) (fun q => h2 (decide_eq_true (by omega))), Bool.false_and]
          rw [e] at k
          exact k H (Same.refl H)
      · have e : fontD (.str z) = false := by
          rw [fontD_str, decide_eq_false (p := 2 ≤ z.length ∧ z.length ≤ 10) (fun q => h1 (decide_eq_true (by omega))), Bool.false_and]
        rw [e] at k
        exact ⟨_, rfl, iteF (k H (Same.refl H))⟩
    | _ => exact iteF (k H (Same.refl H))
abbrev s_isListed : Stmt := topS 2
theorem sc_isListed : FnScope ["value"] ["value"] (defScope s_isListed) := ⟨rfl, rfl, rfl, by decide +kernel, rfl, by decide +kernel, by decide +kernel⟩
theorem ok_isListed {f : Addr} {fd : FuncData} (F : Fun K "is_listed" "is_listed" s_isListed f fd) (T : TB mg) : FnOk P w K mg base CX0 1 f fd ["value"] (sp_isListed K) := by
  refine F.ok sc_isListed (fun vs H Q E h => ?_) (fun cdv A outer s H vs Q E hr h => ?_)
  · obtain ⟨v, d, p, rfl, _⟩ := h
    rfl
  · obtain ⟨v, d, p, rfl, hd, k⟩ := h
    refine ⟨_, pss_one (ps_ret (pe_callB call_isiT (by rfl) T.isi (by decide +kernel) (pa_cons (pv 0) (pa_cons (pe_tup' (pa_cons (pe_bltn (v := .ty "list") (by rfl) T.list (by decide +kernel) rfl) (pa_cons (pe_bltn (v := .ty "tuple") (by rfl) T.tuple (by decide +kernel) rfl) pa_nil))) pa_nil)))), ?_⟩
    refine ⟨_, rfl, by decide, fun q H1 n1 => ⟨_, q, _, _, _, _, rfl, n1.here, .cons (.ty "list") (.cons (.ty "tuple") .nil), (hd.but (.of n1.same) : Rp K p H1 false v d).ty, kit_seq d, k H1 n1.same⟩⟩
abbrev s_isPair : Stmt := topS 16
theorem sc_isPair : FnScope ["signs", "value", "sign"] ["signs", "value"] (defScope s_isPair) := ⟨rfl, rfl, rfl, by decide +kernel, rfl, by decide +kernel, by decide +kernel⟩
theorem ok_isPair {f fS : Addr} {fd fdS : FuncData} (F : Fun K "_is_pair" "_is_pair" s_isPair f fd) (T : TB mg) (D : Def K mg "is_sign" fS fdS ["signs", "value"]) (G : FnOk P w K mg base CX0 1 fS fdS ["signs", "value"] (sp_isSign K)) : FnOk P w K mg base CX0 2 f fd ["signs", "value"] (sp_isPair K) := by
  refine F.ok sc_isPair (fun vs H Q E h => ?_) (fun cdv A outer s H vs Q E hr h => ?_)
  · obtain ⟨S, v, d, p, rfl, _⟩ := h
    rfl
  · obtain ⟨S, v, d, p, rfl, hd, hf, k⟩ := h
    refine ⟨_, pss_one (ps_ret (pe_and (pe_callB call_isi (by rfl) T.isi (by decide +kernel) (pa_cons (pv 1) (pa_cons (pe_bltn (v := .ty "tuple") (by rfl) T.tuple (by decide +kernel) rfl) pa_nil)))
      (pe_and (pe_cmpR op_eq (pe_callB call_len_seq (by rfl) T.len PySem.boot_len (pa_cons (pv 1) pa_nil)) pe_int (nomark _))
      (pe_one (pe_callB (cr_all rfl) (by rfl) T.all (by decide +kernel) (pa_cons (pe_lc (own := [("sign", 2)]) (g := gName 2) (tt := tYes) rfl sc_isPair.nd (pi_tup (pv 1)) (blkOk_by (own := [("sign", 2)]) (N := ["signs", "value", "sign"]) (sc := defScope s_isPair) (by decide +kernel))
        (fun _ _ _ _ _ => pg_name (i := 2) sc_isPair.nd rfl (Or.inl rfl)) (fun _ _ _ _ _ => pts_nil) (fun _ _ _ _ _ => pe_call G hr rfl D.mgf D.kp D.bd .nil pass0 (pa_cons (pv 0) (pa_cons (pv 2) pa_nil)))) pa_nil)))))), ?_⟩
    refine ⟨_, rfl, _, _, _, _, _, rfl, .ty "tuple", hd.ty, kit_tup d, _, rfl, ?_⟩
    cases d with
    | tuple ds =>
      obtain ⟨a, xs, st2, rfl, ha, hr2⟩ := hd.tupS
      · simp only [fit, Bool.and_eq_true, decide_eq_true_eq] at hf
        have hlen := hr2.len
        refine iteT ⟨_, rfl, a, xs, rfl, .inr (ha), rfl, _, rfl, ?_⟩
        refine ite2 (fun h1 => ?_) (fun h1 => ?_)
        · have h2 : xs.length = 2 := by
            have := of_decide_eq_true h1
            injection this with e
            omega
          refine ⟨_, rfl, a, rfl, ⟨_, ha⟩, fun D hD => lc_pair walk_tup ds hlen.symm (fun _ => true) (fun d y _ => y = .bl (signD S d)) (fun _ _ _ _ _ _ h => h) hD (fun H' sm => sm.tupl (ha)) (by rw [h2]; decide) (fun x => rfl) (fun _ _ _ H' C _ _ _ h => h H' (Same.refl _)) ?_ ?_⟩
          · intro j x d' H' C hx hd' _ sm hC
            exact ⟨_, rfl, _, rfl, S, x, d', p, rfl, (hr2.at hx hd').loose2.but (.of sm), (fit.text (fitAll.at hf.2 hd')).more (by decide), hC H' _ (Same.refl _) rfl⟩
          · intro H' ys sm hD' hP
            refine ⟨D, ds.map (signD S), rfl, SqL.of ?_, ?_⟩
            · rw [pv_filter_true] at hP
              rw [hD', paired_eq hP, List.map_map]
              rfl
            · have e : (pairOf S (.tuple ds)).isSome = (ds.map (signD S)).all id := by
                match ds, (show ds.length = 2 by omega) with
                | [x, y], _ => rw [pairOf_two]; simp
              rw [← e]
              exact k H' sm
        · have h2 : ds.length ≠ 2 := fun e => h1 (by rw [hlen, e]; rfl)
          rw [pairOf_len S h2] at k
          exact k H (Same.refl H)
    | _ => exact iteF (k H (Same.refl H))
end
end My
end
section
set_option Elab.async false
set_option linter.all false
set_option maxRecDepth 100000
set_option maxHeartbeats 4000000
namespace My
open PySem PySem.Spec PyProof.Rows L2
abbrev s_kept : Stmt := topS 15
theorem find_one (z : Str) (c : Nat) (h : c ∈ z.cps.toList) : Txt.find z ⟨#[c]⟩ = ((z.cps.toList.idxOf c : Nat) : Int) := by
  have e := index0_one z c h
  unfold Txt.index0 at e
  unfold Txt.find
  revert e
  generalize Builtin.Str.occurrences z ⟨#[c]⟩ 0 z.length 1 = o
  intro e
  cases o with
  | nil => cases e
  | cons a l => exact congrArg Int.ofNat (Option.some.inj e)
section
variable {P : Program} {w : World} {K : PySem.W.Frag} {mg : Str → Option Value} {base : Heap}
theorem sc_kept : FnScope ["signs", "turns", "heads", "pair", "both", "sign"] ["signs", "turns"] (defScope s_kept) := ⟨rfl, rfl, rfl, by decide +kernel, rfl, by decide +kernel, by decide +kernel⟩
theorem ok_kept {f fL fP : Addr} {fd fdL fdP : FuncData} (F : Fun K "kept_turns" "kept_turns" s_kept f fd) (T : TB mg) (DL : Def K mg "is_listed" fL fdL ["value"]) (GL : FnOk P w K mg base CX0 1 fL fdL ["value"] (sp_isListed K))
    (DP : Def K mg "_is_pair" fP fdP ["signs", "value"]) (GP : FnOk P w K mg base CX0 2 fP fdP ["signs", "value"] (sp_isPair K)) : FnOk P w K mg base CX0 3 f fd ["signs", "turns"] (sp_kept K) := by
  refine F.ok sc_kept (fun vs H Q E h => ?_) (fun cdv A outer s H vs Q E hr h => ?_)
  · obtain ⟨S, v, d, p, rfl, _⟩ := h
    rfl
  · obtain ⟨S, v, d, p, rfl, hd, hf, hS, kN, kS⟩ := h
    have hu := hu_of hr
    have hr1 : Room 1 _ := hr.mono (by decide)
    refine ⟨_, pss_cons (ps_if (pt_not (pt_val (pe_call GL hr1 rfl DL.mgf DL.kp DL.bd .nil pass0 (pa_cons (pv 1) pa_nil)))) (pss_one (ps_ret pe_non)) pss_nil)
      (pss_cons (ps_set (i := 2) sc_kept.nd rfl (Or.inr rfl) pe_dnew')
      (pss_cons (ps_for PassesOwn.never rfl (pi_seq (pv 1)) (pg_name (i := 3) sc_kept.nd rfl (Or.inl rfl))
        (pss_cons (ps_if (PW.pt (pw_or (pt_not (pt_val (pe_call GP hr rfl DP.mgf DP.kp DP.bd .nil pass0 (pa_cons (pv 0) (pa_cons (pv 3) pa_nil)))))
            (pw_or (pt_cmp (pc_din hu (pe_ix ix_tup (pv 3) pe_int (fun _ _ => rfl)) (pv 2))) (pw_or1 (pt_cmp (pc_din hu (pe_ix ix_tup (pv 3) pe_int (fun _ _ => rfl)) (pv 2)))))))
          (pss_one (ps_ret pe_non)) pss_nil)
        (pss_cons (ps_dput hu (pv 2) (pe_ix ix_tup (pv 3) pe_int (fun _ _ => rfl)) (pe_ix ix_tup (pv 3) pe_int (fun _ _ => rfl)) rfl)
        (pss_one (ps_dput hu (pv 2) (pe_ix ix_tup (pv 3) pe_int (fun _ _ => rfl)) (pe_ix ix_tup (pv 3) pe_int (fun _ _ => rfl)) rfl)))))
      (pss_cons (ps_setLc (i := 4) (own := [("sign", 5)]) (g := gName 5) rfl sc_kept.nd rfl rfl (sw_true rfl rfl rfl (by decide +kernel)) (pi_str (pv 0)) (blkOk_by (own := [("sign", 5)]) (N := ["signs", "turns", "heads", "pair", "both", "sign"]) (sc := defScope s_kept) (by decide +kernel))
        (fun _ _ _ _ _ => pg_name (i := 5) sc_kept.nd rfl (Or.inl rfl)) (fun _ _ _ _ _ => pts_one (pt_cmp (pc_din hu (pv 5) (pv 2)))) (fun _ _ _ _ _ => pe_tup' (pa_cons (pv 5) (pa_cons (pe_dget hu (pv 2) (pv 5) (fun _ _ => rfl)) pa_nil))))
      (pss_one (ps_ret (pe_callTy call_tupOfL (by rfl) T.tuple (by decide +kernel) (pa_cons (by exact (pe_lc (own := [("pair", 3)]) (g := gName 3) rfl sc_kept.nd (pi_list (pv 4)) (blkOk_by (own := [("pair", 3)]) (N := ["signs", "turns", "heads", "pair", "both", "sign"]) (sc := defScope s_kept) (by decide +kernel))
        (fun _ _ _ _ _ => pg_name (i := 3) sc_kept.nd rfl (Or.inl rfl))
        (fun _ _ _ _ _ => pts_one (pt_cmpR op_le (pe_m1 PySem.F.slot_str_find PySem.F.type_str_find mt_find (pv 0) (pe_ix (ix_tupK (K := K) (by rfl)) (pv 3) pe_int (fun _ _ => rfl)))
          (pe_m1 PySem.F.slot_str_find PySem.F.type_str_find mt_find (pv 0) (pe_ix (ix_tupK (K := K) (by rfl)) (pv 3) pe_int (fun _ _ => rfl))) (nomark _)))
        (fun _ _ _ _ _ => pv 3))) pa_nil))))))), ?_⟩
    refine ⟨_, rfl, v, d, p, rfl, hd, fun H1 s1 => ⟨_, rfl, ?_⟩⟩
    cases hq : isSeqD d with
    | false =>
      refine iteT (kN ?_ H1 s1)
      cases d <;> first | rfl | exact absurd (show true = false from hq) (by decide)
    | true =>
      obtain ⟨a, xs, ds, st2, rfl, hseq, hall, hds⟩ := rp_seq hd hq
      have hk : keptD S d = (headsFrom S [] ds).map (dueOf S) := by
        rcases hds with rfl | rfl <;> rfl
      have hfa : fitAll ds = true ∧ ds.length ≤ 4000 := by
        rcases hds with rfl | rfl <;> (simp only [fit, Bool.and_eq_true, decide_eq_true_eq] at hf; exact ⟨hf.2, hf.1⟩)
      have hlen := hall.len
      refine iteF (fun hD H2 n2 => ?_)
      have s2 : Same H H2 := s1.trans n2.same
      have fD : H hD = none := by
        cases e : H hD with
        | none => rfl
        | some o => have := s1 _ _ e; rw [n2.free] at this; cases this
      show tFor (iSeq K (tVar 1)) (gName 3) _ _ [some (.str S), some (.ref a), some (.ref hD), none, none, none] H2
      refine tFor_seq (H0 := H) (fun C h => ⟨_, rfl, h⟩) hseq (fun i σ H' => ∃ (h : List (Nat × Nat)) (pr : Option V), σ = [some (.str S), some (.ref a), some (.ref hD), pr, none, none] ∧ Same H H' ∧ H' hD = some (.dK (toK h)) ∧ headsFrom S [] ds = headsFrom S h (ds.drop i) ∧ h.length ≤ 2 * i ∧ ∀ c b, headOf h c = some b → b ∈ S.cps.toList)
        ⟨[], none, rfl, s2, n2.here, rfl, Nat.le_refl _, fun c b e => by cases e⟩ (fun i σ' H' q => by obtain ⟨_, _, _, q, _⟩ := q; exact q) ?_ ?_
      · rintro i x σ H3 hi hx ⟨h, pr, rfl, s3, hH, hfr, hl, hin⟩
        obtain ⟨d', hd'⟩ : ∃ d', ds[i]? = some d' := ⟨ds[i]'(by omega), by simp [show i < ds.length by omega]⟩
        have hdrop : ds.drop i = d' :: ds.drop (i + 1) := by
          have := List.getElem?_eq_some_iff.mp hd'
          obtain ⟨hil, e⟩ := this
          rw [← e, List.getElem_cons_drop]
        rw [hdrop, headsFrom_cons] at hfr
        have hrp := ((hall.but2 s3).at hx hd').loose2
        refine ⟨_, rfl, _, rfl, S, x, d', p, rfl, hrp, fitAll.at hfa.1 hd', fun H4 s4 => ⟨_, rfl, ?_⟩⟩
        cases hp : pairOf S d' with
        | none =>
          rw [hp] at hfr
          refine iteT (iteT (kN (by rw [hk, hfr]; rfl) H4 (s3.trans s4)))
        | some ab =>
          obtain ⟨x1, x2⟩ := ab
          rw [hp] at hfr
          have hfr : headsFrom S [] ds = if ((headOf h x1).isSome || (headOf h x2).isSome) = true then none else headsFrom S (putN (putN h x1 x2) x2 x1) (ds.drop (i + 1)) := hfr
          obtain ⟨rfl, m1, m2⟩ := pairOf_some hp
          obtain ⟨q, rfl, hq4, _⟩ := rp_pair (hrp.but (.of s4))
          have hH4 := s4 _ _ hH
          refine iteF ⟨_, rfl, q, _, _, _, rfl, rfl, SqT.of hq4, at0 _ _, _, rfl, hD, _, rfl, dget_toK x1 hH4, _, rfl, ?_⟩
          cases e1 : headOf h x1 with
          | some y =>
            rw [e1] at hfr
            exact iteT (iteT (kN (by rw [hk, hfr]; rfl) H4 (s3.trans s4)))
          | none =>
            refine iteF ⟨_, rfl, q, _, _, _, rfl, rfl, SqT.of hq4, at1 _ _, _, rfl, hD, _, rfl, dget_toK x2 hH4, _, rfl, ?_⟩
            cases e2 : headOf h x2 with
            | some y =>
              rw [e1, e2] at hfr
              exact iteT (kN (by rw [hk, hfr]; rfl) H4 (s3.trans s4))
            | none =>
              rw [e1, e2] at hfr
              have l1 := putN_length h x1 x2
              have l2 := putN_length (putN h x1 x2) x2 x1
              refine iteF ⟨_, rfl, q, _, _, _, rfl, rfl, SqT.of hq4, at1 _ _, _, rfl, _, rfl, q, _, _, _, rfl, rfl, SqT.of hq4, at0 _ _, hD, _, rfl, dput_toK x1 x2 hH4 (Nat.lt_of_le_of_lt (show h.length ≤ 8000 by omega) (by decide)), ?_⟩
              have w5 : Wr H4 hD (.dK (toK (putN h x1 x2))) (upd H4 hD (.dK (toK (putN h x1 x2)))) := .mk'
              generalize upd H4 hD (HO.dK (toK (putN h x1 x2))) = H5 at w5 ⊢
              have hq5 : H5 q = some (.tup [sg x1, sg x2]) := w5.but q _ (ne_of hq4 hH4 (by intro z; cases z)) hq4
              refine ⟨_, rfl, q, _, _, _, rfl, rfl, SqT.of hq5, at0 _ _, _, rfl, _, rfl, q, _, _, _, rfl, rfl, SqT.of hq5, at1 _ _, hD, _, rfl, dput_toK x2 x1 w5.here (Nat.lt_of_le_of_lt (show (putN h x1 x2).length ≤ 9000 by omega) (by decide)), ?_⟩
              refine ⟨_, _, rfl, Same.wr (Same.wr (s3.trans s4) fD w5) fD .mk', upd_same, hfr, by omega, ?_⟩
              intro c b hcb
              rw [headOf_putN, headOf_putN] at hcb
              split at hcb
              · exact Option.some.inj hcb ▸ m1
              · split at hcb
                · exact Option.some.inj hcb ▸ m2
                · exact hin c b hcb
      · rintro σ' H3 ⟨h, pr, rfl, s3, hH, hfr, hl, hin⟩
        have hkd : keptD S d = some (dueOf S h) := by
          rw [hk, hfr, hlen, List.drop_length]
          rfl
        have hz : S.cps.toList.length = (signs S).length := by rw [signs_len]; exact Array.length_toList
        have hsm : (signs S).length < sizeLine := by rw [signs_len]; exact Nat.lt_of_le_of_lt hS (by decide)
        have tupStay : ∀ (H H' : Hp) (D q : Addr) (e : Nat × Nat), (∃ zs, H D = some (.lst zs)) → But D H H' → H q = some (.tup [sg e.1, sg e.2]) → H' q = some (.tup [sg e.1, sg e.2]) := by
          rintro H H' D q e ⟨zs, hz⟩ b hq
          exact b q _ (ne_of hq hz (by intro z; cases z)) hq
        refine ⟨_, rfl, S, rfl, fun D1 hD1 => lc_pair walk_signs S.cps.toList hz (fun c => (headOf h c).isSome) (fun c y H' => ∃ q, y = V.ref q ∧ H' q = some (.tup [sg c, sg ((headOf h c).getD 0)])) ?_ hD1 (fun _ _ => trivial) hsm (fun x => rfl) ?_ ?_ ?_⟩
        · rintro c y H5 H6 hl5 hb ⟨q, e, hq⟩
          exact ⟨q, e, tupStay H5 H6 D1 q (c, (headOf h c).getD 0) hl5 hb hq⟩
        · intro j x c H5 C hx hc s5 hC
          obtain rfl : x = sg c := by
            unfold signs at hx
            rw [List.getElem?_map, hc] at hx
            exact (Option.some.inj hx).symm
          refine ⟨_, rfl, _, rfl, hD, _, rfl, dget_toK c (s5 _ _ hH), _, rfl, ?_⟩
          have e : ((headOf h c).map sg).isSome = (headOf h c).isSome := by cases headOf h c <;> rfl
          rw [e]
          exact hC H5 (Same.refl _)
        · intro j x c H5 C hx hc hp s5 hC
          obtain rfl : x = sg c := by
            unfold signs at hx
            rw [List.getElem?_map, hc] at hx
            exact (Option.some.inj hx).symm
          obtain ⟨b, hb⟩ := Option.isSome_iff_exists.mp hp
          refine ⟨_, rfl, _, rfl, _, rfl, hD, sg b, rfl, ?_, (by show 2 ≤ sizeLine; decide), fun q H6 n6 => hC H6 _ n6.same ⟨q, rfl, ?_⟩⟩
          · have := dget_toK c (s5 _ _ hH)
            rw [hb] at this
            exact this
          · rw [hb]
            exact n6.here
        · intro H4 ys s4 hD4 hP
          -- the pairs that the dict tells
          have hP2 : PairsAt H4 ((S.cps.toList.filter fun c => (headOf h c).isSome).map fun c => (c, (headOf h c).getD 0)) ys := by
            clear hD4
            generalize S.cps.toList.filter (fun c => (headOf h c).isSome) = l at hP
            induction hP with
            | nil => exact .nil
            | cons a b ih => exact .cons a ih
          have hL : ∀ e ∈ (S.cps.toList.filter fun c => (headOf h c).isSome).map fun c => (c, (headOf h c).getD 0), e.1 ∈ S.cps.toList ∧ e.2 ∈ S.cps.toList := by
            intro e he
            obtain ⟨c, hc, rfl⟩ := List.mem_map.mp he
            obtain ⟨h1, h2⟩ := List.mem_filter.mp hc
            obtain ⟨b, hb⟩ := Option.isSome_iff_exists.mp h2
            exact ⟨h1, by rw [hb]; exact hin c b hb⟩
          have hdue : dueOf S h = ((S.cps.toList.filter fun c => (headOf h c).isSome).map fun c => (c, (headOf h c).getD 0)).filter fun e => decide (S.cps.toList.idxOf e.1 ≤ S.cps.toList.idxOf e.2) := rfl
          have hLl : ((S.cps.toList.filter fun c => (headOf h c).isSome).map fun c => (c, (headOf h c).getD 0)).length ≤ 4000 := by
            rw [List.length_map]
            refine Nat.le_trans (List.length_filter_le _ _) ?_
            rw [Array.length_toList]
            exact hS
          generalize (S.cps.toList.filter fun c => (headOf h c).isSome).map (fun c => (c, (headOf h c).getD 0)) = L at hP2 hL hdue hLl
          have hpl := hP2.length
          refine ⟨_, rfl, D1, rfl, ⟨ys, SqL.of hD4⟩, fun D2 hD2 => lc_pair walk_list L hpl (fun e => decide (S.cps.toList.idxOf e.1 ≤ S.cps.toList.idxOf e.2)) (fun e y H' => ∃ q, y = V.ref q ∧ H' q = some (.tup [sg e.1, sg e.2])) ?_ hD2 (fun H' sm => sm.seq (SqL.of hD4)) (by rw [← hpl]; exact Nat.lt_of_le_of_lt hLl (by decide)) (fun x => rfl) ?_ ?_ ?_⟩
          · rintro e y H5 H6 hl5 hb ⟨q, e1, hq⟩
            exact ⟨q, e1, tupStay H5 H6 D2 q e hl5 hb hq⟩
          · intro j x e H5 C hx he s5 hC
            obtain ⟨e', he', q, rfl, hq⟩ := Paired.at hP2 hx
            rw [he] at he'
            obtain rfl : e = e' := Option.some.inj he'
            obtain ⟨i1, i2⟩ := hL e (List.mem_of_getElem? he)
            have hq5 := s5 _ _ hq
            refine ⟨_, rfl, ⟨_, rfl⟩, _, rfl, q, _, _, _, rfl, rfl, SqT.of hq5, at0 _ _, S, ⟨#[e.1]⟩, rfl, rfl, ?_⟩
            rw [find_one S e.1 i1]
            refine ⟨_, rfl, ⟨_, rfl⟩, _, rfl, q, _, _, _, rfl, rfl, SqT.of hq5, at1 _ _, S, ⟨#[e.2]⟩, rfl, rfl, ?_⟩
            rw [find_one S e.2 i2]
            refine ⟨_, _, rfl, rfl, _, rfl, ?_⟩
            have e3 : decide (((S.cps.toList.idxOf e.1 : Nat) : Int) ≤ ((S.cps.toList.idxOf e.2 : Nat) : Int)) = decide (S.cps.toList.idxOf e.1 ≤ S.cps.toList.idxOf e.2) := by
              rw [decide_eq_decide]
              omega
            rw [e3]
            exact hC H5 (Same.refl _)
          · intro j x e H5 C hx he _ s5 hC
            obtain ⟨e', he', q, rfl, hq⟩ := Paired.at hP2 hx
            rw [he] at he'
            obtain rfl : e = e' := Option.some.inj he'
            exact ⟨_, rfl, hC H5 _ (Same.refl _) ⟨q, rfl, s5 _ _ hq⟩⟩
          · intro H5 zs s5 hD5 hP5
            refine ⟨D2, zs, rfl, SqL.of hD5, fun r H6 n6 => ?_⟩
            have sA : Same H H5 := (s3.trans s4).trans s5
            have fr : H r = none := by
              cases e : H r with
              | none => rfl
              | some o => have := sA _ _ e; rw [n6.free] at this; cases this
            have hP6 : PairsAt H5 (dueOf S h) zs := by
              rw [hdue]
              exact hP5
            exact kS _ hkd H6 r zs (sA.trans n6.same) fr n6.here (hP6.same n6.same)
end
end My
end
section
set_option Elab.async false
set_option linter.all false
set_option maxRecDepth 100000
set_option maxHeartbeats 4000000
namespace My
open PySem PySem.Spec PyProof.Rows L2
/-! ### a pair turned round: t[::-1] -/
section
variable {prog : Program} {w : World} {A : Around} {E : Value → Shared → Prop} {s : Shared}
theorem applied2 {sl : Addr} {vl vu vs : Value} {Q : Int × Int × Nat → Shared → Prop} (hs : s.heap.IsSliceOf sl vl vu vs) (pl : IsPart vl none) (pu : IsPart vu none) (ps : IsPart vs (some (-1)))
    (h : Q ((1 : Int), -1, 2) s) : wpAny (model prog w) A (Builtin.Slice.sliceApplied (.ref sl) (pure (2 : Int))) Q E s := by
  obtain ⟨os, hos, hcs, hds⟩ := id hs
  unfold Builtin.Slice.sliceApplied Builtin.Slice.sliceFields
  refine wpAny_bind (wpAny_bind (wpAny_field hos hds (x := vl) rfl (wpAny_bind (wpAny_field hos hds (x := vu) rfl
    (wpAny_bind (wpAny_field hos hds (x := vs) rfl (wpAny_pure ?_)))))))
  refine wpAny_bind (HT.slicePart_ ps ?_)
  show wpAny _ _ (if ((-1 : Int) == 0) = true then _ else _) _ _ s
  rw [if_neg (by decide)]
  refine wpAny_bind (HT.slicePart_ pl (wpAny_bind (HT.slicePart_ pu (wpAny_bind (wpAny_pure ?_)))))
  exact wpAny_pure h
theorem get_turned {t sl : Addr} {u v vl vu vs : Value} {Q : Value → Shared → Prop} (ht : IsTup s.heap t #[u, v]) (hs : s.heap.IsSliceOf sl vl vu vs) (pl : IsPart vl none) (pu : IsPart vu none) (ps : IsPart vs (some (-1)))
    (h : Q (.ref s.heap.objs.size) { s with heap := s.heap.push { cls := .type "tuple", data := .seq #[v, u] } }) : wpAny (model prog w) A (getItem (.ref t) (.ref sl)) Q E s := by
  have fits : sizeOk (.seq #[v, u]) := by
    show 2 ≤ sizeLine
    rw [sizeLine_eq]
    decide
  obtain ⟨os, hos, hcs, hds⟩ := id hs
  have isS : s.TypeIs (.ref sl) "slice" := ⟨os, hos, hcs⟩
  unfold getItem
  try with_reducible refine wpAny_holding ?_
  first
    | refine wpAny_bind (wpAny_pure ?_)
    | skip
  refine wpAny_bind (wpAny_sequenceKey ht.typeIs (by decide) ?_)
  refine wpAny_bind (wpAny_callSpecial?_slot (name := Str.ofString "__getitem__") ht.typeIs PyProof.Rows.slot_tuple_getitem
    (wpAny_call_entry PyProof.Rows.slot_tuple_getitem ht.typeIs entry_tuple_getitem ?_ (args_tuple_getitem _ _)))
  show wpAny _ _ (Builtin.Tuple.tupleItemsOf (.ref t) >>= _) _ _ s
  refine wpAny_bind (tupleItemsOf_ ht ?_)
  refine wpAny_bind (wpAny_typeOf isS ?_)
  rw [if_pos (by decide)]
  refine wpAny_bind (applied2 hs pl pu ps ?_)
  show wpAny _ _ (if ((1 : Int) == 0 && (-1 : Int) == 1 && (2 : Nat) == 2) = true then _ else _) _ _ s
  rw [if_neg (by decide)]
  first
    | exact wpAny_bind (m := Builtin.Tuple.tupleExact _) (wpAny_newObj_type (wpAny_pure ⟨_, rfl, wpAny_pure h⟩) fits)
    | exact wpAny_bind (wpAny_bind (m := Builtin.Tuple.tupleExact _) (wpAny_newObj_type (wpAny_pure (wpAny_pure ⟨_, rfl, wpAny_pure h⟩)) fits))
    | exact wpAny_bind (wpAny_bind (m := Builtin.Tuple.tupleExact _) (wpAny_newObj_type (wpAny_pure ⟨_, rfl, wpAny_pure h⟩) fits))
end
/-- t[::-1], t a pair -/
def tTurn (K : PySem.W.Frag) (te : TE) : TE := fun σ H Q => te σ H fun x H1 => ∃ a x1 x2, x = .ref a ∧ SqT K H1 a [x1, x2] ∧ ∀ p H2, New H1 p (.tup [x2, x1]) H2 → Q (.ref p) H2
theorem pe_turn {X : Cx} {e : Expr} {te : TE} {k : Nat} {p1 p2 p3 pos : Pos} (he : PE X e te) : PE X (.Subscript e (.Slice none none (some (.UnaryOp .USub (.Constant (.int 1) k p1) p2)) p3) pos) (tTurn X.K te) := by
  refine ⟨fun pins s σ H Q I h => ?_⟩
  refine Subscript_ (thn (he.run pins s σ H _ I h) fun v s1 ⟨x, H1, I1, r1, q1⟩ => ?_)
  obtain ⟨a, x1, x2, ex, hx, q⟩ := q1
  subst ex
  cases r1
  have step : PO X (some (.UnaryOp .USub (.Constant (.int 1) k p1) p2)) (tPart (tUn (rU fun i => .int (-i)) (tC (.int 1)))) := po_some (pe_un un_neg pe_int)
  refine wpAny_Slice (thn (po_none.run pins s1 σ H1 (fun o H2 => o = none ∧ H2 = H1) I1 ⟨rfl, rfl⟩) fun vl s2 ⟨l, H2, I2, pl, el, e2⟩ => ?_)
  subst el e2
  refine thn (po_none.run pins s2 σ H2 (fun o H3 => o = none ∧ H3 = H2) I2 ⟨rfl, rfl⟩) fun vu s3 ⟨u, H3, I3, pu, eu, e3⟩ => ?_
  subst eu e3
  refine thn (step.run pins s3 σ H3 (fun o H4 => o = some (-1) ∧ H4 = H3) I3 ⟨1, rfl, -1, rfl, rfl, rfl⟩) fun vs s4 ⟨o, H4, I4, ps, eo, e4⟩ => ?_
  subst eo e4
  have I5 : Inv X pins σ H4 { s4 with heap := s4.heap.push { cls := .type "slice", data := .fields #[vl, vu, vs] } } := I4.kept (t' := s4.toks) fun b ob q => Heap.get?_push_of_some _ q
  obtain ⟨its, r, ht, hz⟩ := I5.tuple hx
  cases r with
  | cons r1 r2 =>
    cases r2 with
    | cons r3 r4 =>
      cases r4
      show wpAny (model X.prog X.w) X.A (subscriptTail e (.Slice none none (some (.UnaryOp .USub (.Constant (.int 1) k p1) p2)) p3) (.ref a) (.ref s4.heap.objs.size)) (EP X pins σ Q) X.xe { s4 with heap := s4.heap.push { cls := .type "slice", data := .fields #[vl, vu, vs] } }
      refine tail_any (ops := [.ref a, .ref s4.heap.objs.size]) (show Shared.TypeIs _ (.ref a) "tuple" from ht.typeIs) PyProof.Rows.slot_tuple_getitem.lookup ?_ (by with_unfolding_all rfl)
      refine get_turned ht (Heap.IsSliceOf.new _ vl vu vs) pl pu ps ?_
      refine ⟨.ref _, _, I5.laid (t' := s4.toks) (o := .tup [x2, x1]) (fun b ob q => Heap.get?_push_of_some _ q) (Nat.le_refl _) ?_, rfl, q _ _ (.mk' (I5.hok.fresh (Nat.le_refl _)))⟩
      exact ⟨by show 2 ≤ sizeLine; decide, _, .cons r3 (.cons r1 .nil), IsTup.new _ _⟩
end My
end
section
set_option Elab.async false
set_option linter.all false
set_option maxRecDepth 100000
set_option maxHeartbeats 2000000
namespace My
open PySem PySem.Spec PyProof.Rows L2
/-! ### a list that may hold a dict: it does not stand at sys.modules' place -/
section
variable {X : Cx}
def qLstB (t : TA) : TE := fun σ H Q => t σ H fun xs H1 => xs.length ≤ sizeLine ∧ ∀ p H2, p ≠ sysModules → New H1 p (.lst xs) H2 → Q (.ref p) H2
theorem pe_lstB {es : List Expr} {t : TA} {pos : Pos} (h : PA X es t) : PE X (.List es pos) (qLstB t) := by
  constructor
  intro pins s σ H Q I q
  apply wpAny_List_spliced
  apply thn (h.run pos pins s σ H _ I q)
  intro us s1 hv
  obtain ⟨xs, H1, J, r, z, k⟩ := hv
  have free : H1 s1.heap.objs.size = none := J.hok.fresh (Nat.le_refl _)
  have other : s1.heap.objs.size ≠ sysModules := Nat.ne_of_gt J.big
  constructor
  · rw [← r.length]
    exact z
  have laid : ObjOk X.prog X.w (upd H1 s1.heap.objs.size (.lst xs)) (s1.heap.push { cls := .type "list", data := .seq us.toArray }) s1.heap.objs.size (.lst xs) := ⟨z, us, 0, r, Heap.get?_push_size _ rfl⟩
  have J2 := J.laid (t' := s1.toks) (fun b u e => Heap.get?_push_of_some _ e) (Nat.le_refl _) laid
  exact ⟨.ref s1.heap.objs.size, _, J2, rfl, k _ _ other (.mk' free)⟩
end
end My
end
section
set_option Elab.async false
set_option linter.all false
set_option maxRecDepth 100000
set_option maxHeartbeats 2000000
namespace My
open PySem PySem.Spec PyProof.Rows L2
abbrev s_pick : Stmt := topS 20
abbrev s_shuf : Stmt := topS 21
section
variable {P : Program} {w : World} {K : PySem.W.Frag} {mg : Str → Option Value} {base : Heap}
theorem sc_pick : FnScope ["_law_pen_here", "_law_options"] ["_law_pen_here", "_law_options"] (defScope s_pick) := ⟨rfl, rfl, rfl, by decide +kernel, rfl, by decide +kernel, by decide +kernel⟩
theorem ok_pick {f fD : Addr} {fd fdD : FuncData} (F : Fun K "_law_pick" "_law_pick" s_pick f fd) (T : TDraw mg) (D : Def K mg "_law_draw" fD fdD ["_law_pen_here", "_law_many"]) (G : FnOk P w K mg base CX0 1 fD fdD ["_law_pen_here", "_law_many"] sp_draw) :
    FnOk P w K mg base CX0 2 f fd ["_law_pen_here", "_law_options"] (sp_pick K) := by
  refine F.ok sc_pick (fun vs H Q E h => ?_) (fun cdv A outer s H vs Q E hr h => ?_)
  · obtain ⟨p, c, a, xs, n, rfl, _⟩ := h
    rfl
  · obtain ⟨p, c, a, xs, n, rfl, hP, hn, hS, hap, h0, h1, k⟩ := h
    refine ⟨_, pss_one (ps_ret (pe_ix ix_list (pv 1) (pe_call G hr rfl D.mgf D.kp D.bd .nil pass0 (pa_cons (pv 0) (pa_cons (pe_callB call_len_seq (by rfl) T.len PySem.boot_len (pa_cons (pv 1) pa_nil)) pa_nil))) (fun _ _ => rfl))), ?_⟩
    refine ⟨_, rfl, _, rfl, _, rfl, a, _, rfl, .inl hS, p, c, _, n, rfl, hP, hn, by omega, by omega, fun H' r hD r0 r1 => ?_⟩
    obtain ⟨j, rfl⟩ : ∃ j : Nat, r = j := ⟨_, (Int.toNat_of_nonneg r0).symm⟩
    have hj : j < xs.length := by omega
    exact ⟨a, xs, _, xs[j], rfl, rfl, hD.but.seq hap hS, atI_nat (by simp [hj]), k _ _ hD (List.getElem_mem hj)⟩
theorem sc_shuf : FnScope ["_law_pen_here", "_law_items", "_law_left", "_law_found"] ["_law_pen_here", "_law_items"] (defScope s_shuf) := ⟨rfl, rfl, rfl, by decide +kernel, rfl, by decide +kernel, by decide +kernel⟩
theorem ok_shuf {f fD : Addr} {fd fdD : FuncData} (F : Fun K "_law_shuffled" "_law_shuffled" s_shuf f fd) (T : TDraw mg) (Tl : mg "list" = none) (D : Def K mg "_law_draw" fD fdD ["_law_pen_here", "_law_many"]) (G : FnOk P w K mg base CX0 1 fD fdD ["_law_pen_here", "_law_many"] sp_draw) :
    FnOk P w K mg base CX0 2 f fd ["_law_pen_here", "_law_items"] (sp_shuf K) := by
  refine F.ok sc_shuf (fun vs H Q E h => ?_) (fun cdv A outer s H vs Q E hr h => ?_)
  · obtain ⟨p, c, x, xs, n, rfl, _⟩ := h
    rfl
  · obtain ⟨p, c, x, xs, n, rfl, hP, hn, hS, hxl, k⟩ := h
    refine ⟨_, pss_cons (ps_par (i := 2) (j := 3) rfl sc_shuf.nd rfl rfl (by decide) rfl rfl (pa_cons (pe_callTy (call_listAny hr.hd) (by rfl) Tl (by decide +kernel) (pa_cons (pv 1) pa_nil)) (pa_cons (pe_lst' pa_nil) pa_nil)) (by rfl))
      (pss_cons (ps_while PassesOwn.never (pt_cmpR (op_neNil hr.units0) (pv 2) (pe_lst' pa_nil) (nomark _))
        (pss_one (ps_expr (pe_bm PySem.F.plainAttrs_list PySem.F.slot_list_append PySem.F.type_list_append mt_append' (pv 3) (pa_cons
          (pe_bm PySem.F.plainAttrs_list PySem.F.slot_list_pop PySem.F.type_list_pop mt_popAt' (pv 2) (pa_cons (pe_call G hr rfl D.mgf D.kp D.bd .nil pass0 (pa_cons (pv 0) (pa_cons (pe_callB call_len_seq (by rfl) T.len PySem.boot_len (pa_cons (pv 2) pa_nil)) pa_nil))) pa_nil)) pa_nil)))))
      (pss_one (ps_ret (pv 3)))), ?_⟩
    refine ⟨_, rfl, x, xs, rfl, hS, fun a H1 n1 => ⟨by decide, fun b H2 n2 => ⟨_, _, rfl, ?_⟩⟩⟩
    have hpa : p ≠ a := hP.ne n1.free
    have hpb : p ≠ b := (hP.same n1.same).ne n2.free
    have hca : c ≠ a := hP.neC n1.free
    have hcb : c ≠ b := (hP.same n1.same).neC n2.free
    have hab : a ≠ b := ne_of_none n1.here n2.free
    have hb0 : H b = none := by
      cases e : H b with
      | none => rfl
      | some o => have := n1.same _ _ e; rw [n2.free] at this; cases this
    have s2 : Same H H2 := n1.same.trans n2.same
    refine while_by (fun σ H' => ∃ (left found : List V) (m : Nat), σ = [some (.ref p), some x, some (.ref a), some (.ref b)] ∧ H' a = some (.lst left) ∧ H' b = some (.lst found) ∧ But p H H' ∧ PenAt H' p c m ∧ m + left.length ≤ n + xs.length ∧ (found ++ left).Perm xs)
      (fun _ H' => match H' a with | some (.lst l) => l.length | _ => 0) ⟨xs, [], n, rfl, n2.same _ _ n1.here, n2.here, .of s2, hP.same s2, Nat.le_refl _, by simp⟩ ?_ ?_
    · rintro σ H3 ⟨left, found, m, rfl, ha, hb, hB, hP3, hm, hperm⟩
      have hlen := hperm.length_eq
      rw [List.length_append] at hlen
      refine ⟨_, rfl, by decide, fun q H4 n4 => ⟨a, q, left, rfl, rfl, SqL.of (n4.same _ _ ha), n4.here, _, rfl, ?_⟩⟩
      have ha4 := n4.same _ _ ha
      have hb4 := n4.same _ _ hb
      have hP4 := hP3.same n4.same
      refine ite2 (fun ht => ?_) (fun hf => ?_)
      · have hpos : 0 < left.length := by
          cases left with
          | nil => simp at ht
          | cons _ _ => simp
        refine ⟨_, rfl, .inl ⟨rfl, _, SqL.of hb4⟩, _, rfl, .inl ⟨rfl, _, SqL.of ha4⟩, _, rfl, _, rfl, a, _, rfl, .inl (SqL.of ha4), p, c, _, m, rfl, hP4, by omega, by omega, by omega, fun H5 r hD r0 r1 => ?_⟩
        obtain ⟨j, rfl⟩ : ∃ j : Nat, r = j := ⟨_, (Int.toNat_of_nonneg r0).symm⟩
        have hj : j < left.length := by omega
        have ha5 := hD.but a _ hpa.symm ha4
        have hb5 := hD.but b _ hpb.symm hb4
        refine ⟨a, left, left[j], j, rfl, rfl, ha5, by simp [hj], by omega, fun H6 w6 => ?_⟩
        have hb6 : H6 b = some (.lst found) := (w6.els b hab.symm).trans hb5
        have fits : found.length < sizeLine := Nat.lt_of_le_of_lt (show found.length ≤ 1000000 by omega) (by decide)
        refine ⟨b, found, left[j], rfl, rfl, hb6, fits, fun H7 w7 => ?_⟩
        refine ⟨⟨left.eraseIdx j, found ++ [left[j]], m + 1, rfl, (w7.els a hab).trans w6.here, w7.here, ?_, ?_, ?_, ?_⟩, ?_⟩
        · exact But.wr (But.wr ((hB.trans (.of n4.same)).trans hD.but) n1.free w6) hb0 w7
        · exact (hD.pen.els w6 hpa hca).els w7 hpb hcb
        · rw [List.length_eraseIdx_of_lt hj]
          omega
        · rw [List.append_assoc]
          exact (List.Perm.append_left found (perm_eraseIdx hj)).trans hperm
        · show (match H7 a with | some (.lst l) => l.length | _ => 0) < (match H3 a with | some (.lst l) => l.length | _ => 0)
          rw [(w7.els a hab).trans w6.here, ha]
          show (left.eraseIdx j).length < left.length
          rw [List.length_eraseIdx_of_lt hj]
          omega
      · have hnil : left = [] := by
          cases left with
          | nil => rfl
          | cons _ _ => simp at hf
        subst hnil
        rw [List.append_nil] at hperm
        exact ⟨_, rfl, k _ b found ⟨hB.trans (.of n4.same), hP4.mono (by rw [List.length_nil] at hm; omega)⟩ hb0 hb4 hperm⟩
    · intro σ H Q Q' m h
      obtain ⟨v, e, h0, h⟩ := h
      refine ⟨v, e, h0, fun q H' n => ?_⟩
      obtain ⟨a, b, xs, e1, e2, h1, h2, k, e3, h3⟩ := h q H' n
      exact ⟨a, b, xs, e1, e2, h1, h2, k, e3, m _ _ h3⟩
end
end My
end
section
set_option Elab.async false
set_option linter.all false
set_option maxRecDepth 100000
set_option maxHeartbeats 4000000
namespace My
open PySem PySem.Spec PyProof.Rows L2
abbrev s_font : Stmt := topS 23
/-- the signs of a turn -/
def spread (e : Nat × Nat) : List Nat := if e.1 = e.2 then [e.1] else [e.1, e.2]
/-- a font: signs and turns -/
structure Good (m : Nat) (S : Str) (ps : List (Nat × Nat)) : Prop where
  lo : 2 ≤ S.length
  hi : S.length ≤ m
  nd : S.cps.toList.Nodup
  ab : ∀ c ∈ S.cps.toList, c ∈ alphabet.cps.toList
  tnd : (ps.flatMap spread).Nodup
  tin : ∀ c ∈ ps.flatMap spread, c ∈ S.cps.toList
def sp_font (K : PySem.W.Frag) : Sp := fun vs H Q _ => ∃ (p c : Addr) (m n : Nat), vs = [.ref p, .int m] ∧ PenAt H p c n ∧ n < 2 ^ 50 ∧ 2 ≤ m ∧ m ≤ 10 ∧
  ∀ H' t a S ys ps, DrewP H p c (n + 40) H' → H t = none → H a = none → H' t = some (.tup [.str S, .ref a]) → H' a = some (.lst ys) → PairsAt H' ps ys → Good m S ps → a ≠ sysModules → Q (.ref t) H'
/-- the sign of a text of one sign -/
def ofSg : V → Nat
  | .str z => z.cps.toList.headD 0
  | _ => 0
theorem perm_signs {l : List Nat} {ys : List V} (h : ys.Perm (l.map sg)) : ∃ k : List Nat, ys = k.map sg ∧ k.Perm l := by
  have back : ∀ k : List Nat, (k.map sg).map ofSg = k := by
    intro k
    rw [List.map_map]
    exact List.map_id k
  refine ⟨ys.map ofSg, ?_, ?_⟩
  · rw [List.map_map]
    have : ∀ y ∈ ys, (sg ∘ ofSg) y = y := by
      intro y hy
      obtain ⟨c, _, rfl⟩ := List.mem_map.mp (h.mem_iff.mp hy)
      rfl
    rw [List.map_congr_left this]
    exact (List.map_id ys).symm
  · have := h.map ofSg
    rw [back] at this
    exact this
theorem join_signs : ∀ l : List Nat, Str.join Str.empty (l.map fun c => (⟨#[c]⟩ : Str)) = ⟨l.toArray⟩
  | [] => rfl
  | [c] => rfl
  | c :: d :: r => by
    have ih := join_signs (d :: r)
    show (⟨#[c]⟩ : Str) ++ Str.empty ++ Str.join Str.empty ((d :: r).map fun c => (⟨#[c]⟩ : Str)) = _
    rw [ih]
    show (⟨(#[c] ++ #[]) ++ (d :: r).toArray⟩ : Str) = _
    congr 1
    simp
theorem sum_ones : ∀ l : List Nat, ((l.map fun c => (⟨#[c]⟩ : Str)).map (·.length)).sum = l.length
  | [] => rfl
  | c :: l => by
    have ih := sum_ones l
    rw [List.map_cons, List.map_cons, List.sum_cons, ih, List.length_cons]
    show 1 + l.length = _
    omega
section
variable {P : Program} {w : World} {K : PySem.W.Frag} {mg : Str → Option Value} {base : Heap}
theorem sc_font : FnScope ["_law_pen_here", "_law_most", "_law_many", "_law_pool", "_law_signs", "_law_left", "_law_turns", "_law_one", "_law_way"] ["_law_pen_here", "_law_most"] (defScope s_font) := ⟨rfl, rfl, rfl, by decide +kernel, rfl, by decide +kernel, by decide +kernel⟩
theorem ok_font {f fD fP fS : Addr} {fd fdD fdP fdS : FuncData} (F : Fun K "_law_font" "_law_font" s_font f fd) (D : Def K mg "_law_draw" fD fdD ["_law_pen_here", "_law_many"]) (G : FnOk P w K mg base CX0 1 fD fdD ["_law_pen_here", "_law_many"] sp_draw)
    (DP : Def K mg "_law_pick" fP fdP ["_law_pen_here", "_law_options"]) (GP : FnOk P w K mg base CX0 2 fP fdP ["_law_pen_here", "_law_options"] (sp_pick K))
    (DS : Def K mg "_law_shuffled" fS fdS ["_law_pen_here", "_law_items"]) (GS : FnOk P w K mg base CX0 2 fS fdS ["_law_pen_here", "_law_items"] (sp_shuf K)) :
    FnOk P w K mg base CX0 3 f fd ["_law_pen_here", "_law_most"] (sp_font K) := by
  refine F.ok sc_font (fun vs H Q E h => ?_) (fun cdv A outer s H vs Q E hr h => ?_)
  · obtain ⟨p, c, m, n, rfl, _⟩ := h
    rfl
  · obtain ⟨p, c, m, n, rfl, hP, hn, hm2, hm, k⟩ := h
    have hr1 : Room 1 _ := hr.mono (by decide)
    refine ⟨_, pss_cons (ps_set (i := 2) sc_font.nd rfl (Or.inl rfl) (pe_op op_add pe_int (pe_call G hr1 rfl D.mgf D.kp D.bd .nil pass0 (pa_cons (pv 0) (pa_cons (pe_op op_sub (pv 1) pe_int) pa_nil)))))
      (pss_cons (ps_set (i := 3) sc_font.nd rfl (Or.inl rfl) (pe_call GP hr rfl DP.mgf DP.kp DP.bd .nil pass0 (pa_cons (pv 0) (pa_cons (pe_lst' (pa_cons pe_str (pa_cons pe_str (pa_cons pe_str (pa_cons pe_str pa_nil))))) pa_nil))))
      (pss_cons (ps_set (i := 4) sc_font.nd rfl (Or.inl rfl) (pe_join pe_str (pe_slice sl_list' (pe_call GS hr rfl DS.mgf DS.kp DS.bd .nil pass0 (pa_cons (pv 0) (pa_cons (pe_slice sl_str (pv 3) po_none (po_some pe_int)) pa_nil))) po_none (po_some (pv 2)))))
      (pss_cons (ps_par (i := 5) (j := 6) rfl sc_font.nd rfl rfl (by decide) rfl rfl (pa_cons (pe_call GS hr rfl DS.mgf DS.kp DS.bd .nil pass0 (pa_cons (pv 0) (pa_cons (pv 4) pa_nil))) (pa_cons (pe_lstB pa_nil) pa_nil)) (by rfl))
      (pss_cons (ps_while PassesOwn.never (pt_cmpR (op_neNil hr.units0) (pv 5) (pe_lst' pa_nil) (nomark _))
        (pss_cons (ps_par (i := 7) (j := 8) rfl sc_font.nd rfl rfl (by decide) rfl rfl (pa_cons (pe_bm0 PySem.F.plainAttrs_list PySem.F.slot_list_pop PySem.F.type_list_pop mt_pop' (pv 5)) (pa_cons (pe_call G hr1 rfl D.mgf D.kp D.bd .nil pass0 (pa_cons (pv 0) (pa_cons pe_int pa_nil))) pa_nil)) (by rfl))
        (pss_cons (ps_if (pt_cmpR op_eq (pv 8) pe_int (nomark _)) (pss_one (ps_expr (pe_bm PySem.F.plainAttrs_list PySem.F.slot_list_append PySem.F.type_list_append mt_append' (pv 6) (pa_cons (pe_tup' (pa_cons (pv 7) (pa_cons (pv 7) pa_nil))) pa_nil)))) pss_nil)
        (pss_one (ps_if (PW.pt (pw_and (pt_cmpR op_eq (pv 8) pe_int (nomark _)) (pw_and1 (pt_cmpR (op_neNil hr.units0) (pv 5) (pe_lst' pa_nil) (nomark _)))))
          (pss_one (ps_expr (pe_bm PySem.F.plainAttrs_list PySem.F.slot_list_append PySem.F.type_list_append mt_append' (pv 6) (pa_cons (pe_tup' (pa_cons (pv 7) (pa_cons (pe_bm0 PySem.F.plainAttrs_list PySem.F.slot_list_pop PySem.F.type_list_pop mt_pop' (pv 5)) pa_nil))) pa_nil)))) pss_nil)))))
      (pss_one (ps_ret (pe_tup' (pa_cons (pv 4) (pa_cons (pv 6) pa_nil))))))))), ?_⟩
    refine ⟨_, rfl, _, rfl, _, _, rfl, rfl, p, c, (m : Int) - 1, n, rfl, hP, by omega, by omega, by omega, fun H1 r d1 r0 r1 => ?_⟩
    refine ⟨_, _, rfl, rfl, ?_⟩
    obtain ⟨j, rfl⟩ : ∃ j : Nat, r = j := ⟨_, (Int.toNat_of_nonneg r0).symm⟩
    have hk2 : ((2 : Int) + (j : Int)) = ((2 + j : Nat) : Int) := by omega
    have hkm : 2 + j ≤ m := by omega
    refine ⟨_, rfl, by show 4 ≤ sizeLine; decide, fun a2 H2 n2 => ?_⟩
    have P2 := d1.pen.same n2.same
    refine ⟨p, c, a2, _, n + 1, rfl, P2, by omega, SqL.of n2.here, fun e => d1.pen.ne n2.free e.symm, by show 0 < 4; decide, by show 4 ≤ 1000000; decide, fun H3 v d3 hv => ?_⟩
    have pool : ∃ z : Str, v = .str z ∧ 10 ≤ z.length ∧ z.length ≤ 26 ∧ z.cps.toList.Nodup ∧ ∀ c ∈ z.cps.toList, c ∈ alphabet.cps.toList := by
      rcases List.mem_cons.mp hv with rfl | hv
      · exact ⟨_, rfl, by decide, by decide, by decide +kernel, by decide +kernel⟩
      rcases List.mem_cons.mp hv with rfl | hv
      · exact ⟨_, rfl, by decide, by decide, by decide +kernel, by decide +kernel⟩
      rcases List.mem_cons.mp hv with rfl | hv
      · exact ⟨_, rfl, by decide, by decide, by decide +kernel, by decide +kernel⟩
      rcases List.mem_cons.mp hv with rfl | hv
      · exact ⟨_, rfl, by decide, by decide, by decide +kernel, by decide +kernel⟩
      cases hv
    obtain ⟨z, rfl, z10, z26, znd, zab⟩ := pool
    have cutE : (cutS z none (some (10 : Int))).cps.toList = z.cps.toList.take 10 := by
      show (((z.cps.toList.drop (HT.sIx z.length 0 none)).take (HT.sIx z.length z.length (some ((10 : Nat) : Int)) - HT.sIx z.length 0 none)).toArray).toList = _
      rw [HT.sIx_none, HT.sIx_nat, List.drop_zero, Nat.sub_zero, Nat.min_eq_left z10]
    have cutL : (signs (cutS z none (some (10 : Int)))).length = 10 := by
      unfold signs
      rw [List.length_map, cutE, List.length_take]
      have : z.cps.toList.length = z.length := Array.length_toList
      omega
    have dA : DrewP H p c (n + 2) H3 := ⟨(d1.but.trans (.of n2.same)).trans d3.but, d3.pen⟩
    refine ⟨⟨_, rfl⟩, _, rfl, _, rfl, 10, rfl, z, rfl, Nat.le_trans z26 (by decide), ?_⟩
    refine ⟨p, c, _, _, n + 2, rfl, dA.pen, by rw [cutL]; omega, SqA.str (by rw [← signs_len, cutL]; decide), by rw [cutL]; decide, fun H4 r4 ys4 d4 f4 h4 hp4 => ?_⟩
    obtain ⟨l4, rfl, hl4⟩ := perm_signs hp4
    rw [cutE] at hl4
    have len4 : l4.length = 10 := by
      rw [hl4.length_eq, List.length_take]
      have : z.cps.toList.length = z.length := Array.length_toList
      omega
    refine ⟨_, rfl, _, rfl, r4, _, rfl, SqL.of h4, fun q5 H5 n5 => ?_⟩
    have cut5 : cutV (l4.map sg) none (some ((2 : Int) + (j : Int))) = ((l4.take (2 + j)).map fun c => (⟨#[c]⟩ : Str)).map V.str := by
      rw [hk2, cutV_to, List.map_map, ← List.map_take]
      rfl
    have n5' : New H4 q5 (.lst (((l4.take (2 + j)).map fun c => (⟨#[c]⟩ : Str)).map V.str)) H5 := by
      rw [← cut5]
      exact n5
    have hjl : (l4.take (2 + j)).length = 2 + j := by
      rw [List.length_take]
      omega
    refine ⟨_, q5, _, rfl, rfl, .inl (SqL.of n5'.here), ?_, ?_⟩
    · rw [sum_ones, hjl]
      have : (PySem.Str.ofString "").length = 0 := by decide
      rw [this]
      omega
    have jE : Txt.join (PySem.Str.ofString "") ((l4.take (2 + j)).map fun c => (⟨#[c]⟩ : Str)) = ⟨(l4.take (2 + j)).toArray⟩ := by
      rw [TL.join_eq]
      exact join_signs _
    rw [jE]
    have good : ∃ S : Str, S = ⟨(l4.take (2 + j)).toArray⟩ ∧ 2 ≤ S.length ∧ S.length ≤ m ∧ S.cps.toList.Nodup ∧ ∀ c ∈ S.cps.toList, c ∈ alphabet.cps.toList := by
      refine ⟨_, rfl, ?_, ?_, ?_, ?_⟩
      · show 2 ≤ (l4.take (2 + j)).toArray.size
        rw [List.size_toArray, hjl]
        omega
      · show (l4.take (2 + j)).toArray.size ≤ m
        rw [List.size_toArray, hjl]
        exact hkm
      · show (l4.take (2 + j)).Nodup
        exact (hl4.nodup_iff.mpr (znd.sublist (List.take_sublist _ _))).sublist (List.take_sublist _ _)
      · intro c hc
        have hc : c ∈ l4.take (2 + j) := hc
        exact zab c (List.mem_of_mem_take (hl4.mem_iff.mp (List.mem_of_mem_take hc)))
    obtain ⟨S, eS, S2, Sm, Snd, Sab⟩ := good
    rw [← eS]
    have dB : DrewP H p c (n + 12) H5 := by
      have d4' : DrewP H3 p c (n + 12) H4 := by
        have e : n + 2 + (signs (cutS z none (some (10 : Int)))).length = n + 12 := by rw [cutL]
        rw [← e]
        exact d4
      exact (dA.trans d4').new n5
    have lS : (signs S).length = S.length := signs_len S
    refine ⟨_, rfl, _, rfl, p, c, .str S, _, n + 12, rfl, dB.pen, by omega, SqA.str (Nat.le_trans Sm (Nat.le_trans hm (by decide))), by rw [lS]; omega, fun H6 a ys6 d6 f6 h6 hp6 => ⟨by decide, fun b H7 bs n7 => ⟨_, _, rfl, ?_⟩⟩⟩
    obtain ⟨l6, rfl, hl6⟩ := perm_signs hp6
    have dC : DrewP H p c (n + 22) H7 := ((dB.trans d6).new n7).mono (by rw [lS]; omega)
    have len6 : l6.length ≤ 10 := by
      rw [hl6.length_eq]
      have : S.cps.toList.length = S.length := Array.length_toList
      omega
    have hpa : p ≠ a := dB.pen.ne f6
    have hca : c ≠ a := dB.pen.neC f6
    have hpb : p ≠ b := d6.pen.ne n7.free
    have hcb : c ≠ b := d6.pen.neC n7.free
    have hab : a ≠ b := ne_of_none h6 n7.free
    have ha0 : H a = none := dB.but.free hpa.symm f6
    have hb0 : H b = none := (dB.but.trans d6.but).free hpb.symm n7.free
    refine while_by (fun σ H' => ∃ (l : List Nat) (ps : List (Nat × Nat)) (ys : List V) (w1 w2 : Option V) (cnt : Nat), σ = [some (.ref p), some (.int m), some (.int ((2 : Int) + (j : Int))), some (.str z), some (.str S), some (.ref a), some (.ref b), w1, w2] ∧
        H' a = some (.lst (l.map sg)) ∧ H' b = some (.lst ys) ∧ PairsAt H' ps ys ∧ But p H H' ∧ PenAt H' p c cnt ∧ cnt + l.length ≤ n + 32 ∧ l.length + ps.length ≤ 10 ∧ (l ++ ps.flatMap spread).Nodup ∧ ∀ c ∈ l ++ ps.flatMap spread, c ∈ S.cps.toList)
      (fun _ H' => match H' a with | some (.lst l) => l.length | _ => 0)
      ⟨l6, [], [], none, none, n + 22, rfl, n7.same _ _ h6, n7.here, .nil, dC.but, dC.pen, by omega, by simpa using len6, by simpa using hl6.nodup_iff.mpr Snd, by simpa using fun c hc => hl6.mem_iff.mp hc⟩ ?_ ?_
    · rintro σ H3 ⟨l, ps, ys, w1, w2, cnt, rfl, ha, hb, hPs, hB, hPen, hcnt, hlp, hnd, hin⟩
      refine ⟨_, rfl, by decide, fun q H4 n4 => ⟨a, q, _, rfl, rfl, SqL.of (n4.same _ _ ha), n4.here, _, rfl, ?_⟩⟩
      have ha4 := n4.same _ _ ha
      have hb4 := n4.same _ _ hb
      have hP4 := hPen.same n4.same
      have hPs4 := hPs.same n4.same
      have hB4 : But p H H4 := hB.trans (.of n4.same)
      refine ite2 (fun ht => ?_) (fun hf => ?_)
      · have lne : l ≠ [] := by
          intro e
          rw [e] at ht
          simp at ht
        obtain ⟨l', o, rfl⟩ : ∃ l' o, l = l' ++ [o] := ⟨l.dropLast, l.getLast lne, (List.dropLast_concat_getLast lne).symm⟩
        have hmap : (l' ++ [o]).map sg = l'.map sg ++ [sg o] := by simp
        rw [hmap] at ha4
        refine ⟨_, rfl, .inl ⟨rfl, _, SqL.of ha4⟩, a, _, sg o, rfl, rfl, ha4, by simp, fun H5 w5 => ⟨_, rfl, p, c, 3, cnt, rfl, hP4.els w5 hpa hca, by omega, by decide, by decide, fun H8 r d8 r0 r1 => ⟨_, _, rfl, ?_⟩⟩⟩
        rw [List.dropLast_concat] at w5
        rw [List.length_append, List.length_singleton] at hcnt hlp
        have hb5 : H5 b = some (.lst ys) := (w5.els b hab.symm).trans hb4
        have hPs5 : PairsAt H5 ps ys := Paired.map (fun e y hy => by
          obtain ⟨q', e1, e2⟩ := hy
          exact ⟨q', e1, (w5.els q' (ne_of e2 ha4 (by intro z; cases z))).trans e2⟩) hPs4
        have ha8 : H8 a = some (.lst (l'.map sg)) := d8.but _ _ hpa.symm w5.here
        have hb8 : H8 b = some (.lst ys) := d8.but _ _ hpb.symm hb5
        have hPs8 : PairsAt H8 ps ys := Paired.map (fun e y hy => by
          obtain ⟨q', e1, e2⟩ := hy
          exact ⟨q', e1, d8.but _ _ ((hP4.els w5 hpa hca).neT e2) e2⟩) hPs5
        have hB8 : But p H H8 := (But.wr hB4 ha0 w5).trans d8.but
        have ylen := hPs8.length
        have small : ys.length < sizeLine := Nat.lt_of_le_of_lt (show ys.length ≤ 100 by omega) (by decide)
        have less : l'.length < (l' ++ [o]).length := by simp
        have hr3 : r = 0 ∨ r = 1 ∨ r = 2 := by omega
        rcases hr3 with rfl | rfl | rfl
        · refine ⟨_, rfl, rfl, _, rfl, ?_⟩
          refine iteF ⟨_, rfl, rfl, _, rfl, ?_⟩
          refine iteF (iteF ?_)
          refine ⟨⟨l', ps, ys, _, _, cnt + 1, rfl, ha8, hb8, hPs8, hB8, d8.pen, by omega, by omega, ?_, ?_⟩, ?_⟩
          · exact (hnd.sublist (List.Sublist.append_right (List.sublist_append_left _ _) _))
          · intro c hc
            refine hin c ?_
            rw [List.append_assoc]
            rcases List.mem_append.mp hc with hc | hc
            · exact List.mem_append_left _ hc
            · exact List.mem_append_right _ (List.mem_append_right _ hc)
          · show (match H8 a with | some (.lst l) => l.length | _ => 0) < (match H3 a with | some (.lst l) => l.length | _ => 0)
            rw [ha8, ha]
            simp
        · refine ⟨_, rfl, rfl, _, rfl, ?_⟩
          refine iteT ⟨_, rfl, .inl ⟨rfl, _, SqL.of hb8⟩, _, rfl, _, rfl, by show 2 ≤ sizeLine; decide, fun e H9 n9 => ⟨b, ys, .ref e, rfl, rfl, n9.same _ _ hb8, small, fun H10 w10 => ?_⟩⟩
          refine ⟨_, rfl, rfl, _, rfl, ?_⟩
          refine iteF (iteF ?_)
          have hbe : e ≠ b := (ne_of_none hb8 n9.free).symm
          have hb9 : H9 b = some (.lst ys) := n9.same _ _ hb8
          have hP9 : PairsAt H10 (ps ++ [(o, o)]) (ys ++ [.ref e]) := Paired.snoc (Paired.map (fun e' y hy => by
            obtain ⟨q', e1, e2⟩ := hy
            exact ⟨q', e1, (w10.els q' (ne_of e2 hb9 (by intro z; cases z))).trans e2⟩) (hPs8.same n9.same)) ⟨e, rfl, (w10.els e hbe).trans n9.here⟩
          have fm : (ps ++ [(o, o)]).flatMap spread = ps.flatMap spread ++ [o] := by
            rw [List.flatMap_append]
            simp [spread]
          have pm : (l' ++ (ps ++ [(o, o)]).flatMap spread).Perm (l' ++ [o] ++ ps.flatMap spread) := by
            rw [fm, List.append_assoc]
            exact List.Perm.append_left l' List.perm_append_comm
          refine ⟨⟨l', ps ++ [(o, o)], ys ++ [.ref e], _, _, cnt + 1, rfl, (w10.els a hab).trans (n9.same _ _ ha8), w10.here, hP9, But.wr (hB8.trans (.of n9.same)) hb0 w10, (d8.pen.same n9.same).els w10 hpb hcb, by omega, by rw [List.length_append, List.length_singleton]; omega, pm.nodup_iff.mpr hnd, fun c hc => hin c (pm.mem_iff.mp hc)⟩, ?_⟩
          show (match H10 a with | some (.lst l) => l.length | _ => 0) < (match H3 a with | some (.lst l) => l.length | _ => 0)
          rw [(w10.els a hab).trans (n9.same _ _ ha8), ha]
          simp
        · refine ⟨_, rfl, rfl, _, rfl, ?_⟩
          refine iteF ⟨_, rfl, rfl, _, rfl, ?_⟩
          refine iteT ⟨_, rfl, by decide, fun q2 H9 n9 => ⟨a, q2, _, rfl, rfl, SqL.of (n9.same _ _ ha8), n9.here, _, rfl, ?_⟩⟩
          have ha9 := n9.same _ _ ha8
          have hb9 := n9.same _ _ hb8
          refine ite2 (fun ht2 => ?_) (fun hf2 => ?_)
          · have lne2 : l' ≠ [] := by
              intro e
              rw [e] at ht2
              simp at ht2
            obtain ⟨k', o2, rfl⟩ : ∃ k' o2, l' = k' ++ [o2] := ⟨l'.dropLast, l'.getLast lne2, (List.dropLast_concat_getLast lne2).symm⟩
            have hmap2 : (k' ++ [o2]).map sg = k'.map sg ++ [sg o2] := by simp
            rw [hmap2] at ha9
            refine ⟨_, rfl, .inl ⟨rfl, _, SqL.of hb9⟩, _, rfl, _, rfl, .inl ⟨rfl, _, SqL.of ha9⟩, a, _, sg o2, rfl, rfl, ha9, by simp, fun H10 w10 => ⟨by show 2 ≤ sizeLine; decide, fun e H11 n11 => ?_⟩⟩
            rw [List.dropLast_concat] at w10
            have hb10 : H10 b = some (.lst ys) := (w10.els b hab.symm).trans hb9
            have hb11 : H11 b = some (.lst ys) := n11.same _ _ hb10
            refine ⟨b, ys, .ref e, rfl, rfl, hb11, small, fun H12 w12 => ?_⟩
            have hbe : e ≠ b := (ne_of_none hb10 n11.free).symm
            have hP10 : PairsAt H10 ps ys := Paired.map (fun e' y hy => by
              obtain ⟨q', e1, e2⟩ := hy
              exact ⟨q', e1, (w10.els q' (ne_of e2 ha9 (by intro z; cases z))).trans e2⟩) (hPs8.same n9.same)
            have hP12 : PairsAt H12 (ps ++ [(o, o2)]) (ys ++ [.ref e]) := Paired.snoc (Paired.map (fun e' y hy => by
              obtain ⟨q', e1, e2⟩ := hy
              exact ⟨q', e1, (w12.els q' (ne_of e2 hb11 (by intro z; cases z))).trans e2⟩) (hP10.same n11.same)) ⟨e, rfl, (w12.els e hbe).trans n11.here⟩
            have one : o ≠ o2 := by
              intro z
              rw [z] at hnd
              have h1 : (k' ++ [o2] ++ [o2]).Nodup := hnd.sublist (List.sublist_append_left _ _)
              rw [List.append_assoc] at h1
              have h2 : ([o2] ++ [o2] : List Nat).Nodup := h1.sublist (List.sublist_append_right _ _)
              simp at h2
            have fm : (ps ++ [(o, o2)]).flatMap spread = ps.flatMap spread ++ [o, o2] := by
              rw [List.flatMap_append]
              simp [spread, one]
            have pm : (k' ++ (ps ++ [(o, o2)]).flatMap spread).Perm (k' ++ [o2] ++ [o] ++ ps.flatMap spread) := by
              rw [fm, List.append_assoc, List.append_assoc]
              refine List.Perm.append_left k' ?_
              refine List.perm_append_comm.trans ?_
              show (o :: o2 :: ps.flatMap spread).Perm (o2 :: o :: ps.flatMap spread)
              exact List.Perm.swap _ _ _
            have ha12 : H12 a = some (.lst (k'.map sg)) := (w12.els a hab).trans (n11.same _ _ w10.here)
            rw [List.length_append, List.length_singleton] at hcnt hlp
            refine ⟨⟨k', ps ++ [(o, o2)], ys ++ [.ref e], _, _, cnt + 1, rfl, ha12, w12.here, hP12, But.wr ((But.wr (hB8.trans (.of n9.same)) ha0 w10).trans (.of n11.same)) hb0 w12, (((d8.pen.same n9.same).els w10 hpa hca).same n11.same).els w12 hpb hcb, by omega, by rw [List.length_append, List.length_singleton]; omega, pm.nodup_iff.mpr hnd, fun c hc => hin c (pm.mem_iff.mp hc)⟩, ?_⟩
            show (match H12 a with | some (.lst l) => l.length | _ => 0) < (match H3 a with | some (.lst l) => l.length | _ => 0)
            rw [ha12, ha]
            simp
          · refine ⟨⟨l', ps, ys, _, _, cnt + 1, rfl, ha9, hb9, hPs8.same n9.same, hB8.trans (.of n9.same), d8.pen.same n9.same, by omega, by omega, ?_, ?_⟩, ?_⟩
            · exact (hnd.sublist (List.Sublist.append_right (List.sublist_append_left _ _) _))
            · intro c hc
              refine hin c ?_
              rw [List.append_assoc]
              rcases List.mem_append.mp hc with hc | hc
              · exact List.mem_append_left _ hc
              · exact List.mem_append_right _ (List.mem_append_right _ hc)
            · show (match H9 a with | some (.lst l) => l.length | _ => 0) < (match H3 a with | some (.lst l) => l.length | _ => 0)
              rw [ha9, ha]
              simp
      · have lnil : l = [] := by
          cases l with
          | nil => rfl
          | cons _ _ => simp at hf
        subst lnil
        rw [List.nil_append] at hnd hin
        refine ⟨_, rfl, _, rfl, by show 2 ≤ sizeLine; decide, fun t H9 n9 => k H9 t b S ys ps ⟨hB4.trans (.of n9.same), (hP4.same n9.same).mono (by rw [List.length_nil] at hcnt; omega)⟩ ?_ hb0 n9.here (n9.same _ _ hb4) (hPs4.same n9.same) ⟨S2, Sm, Snd, Sab, hnd, hin⟩ bs⟩
        exact hB4.free (fun e => by rw [e] at n9; exact hP4.ne n9.free rfl) n9.free
    · intro σ H Q Q' m h
      obtain ⟨v, e, h0, h⟩ := h
      refine ⟨v, e, h0, fun q H' n => ?_⟩
      obtain ⟨a, b, xs, e1, e2, h1, h2, k, e3, h3⟩ := h q H' n
      exact ⟨a, b, xs, e1, e2, h1, h2, k, e3, m _ _ h3⟩
end
end My
end
section
set_option Elab.async false
set_option linter.all false
set_option maxRecDepth 100000
set_option maxHeartbeats 4000000
namespace My
open PySem PySem.Spec PyProof.Rows L2
abbrev s_odd : Stmt := topS 22
def lenD : PyData → Nat
  | .list ds => ds.length
  | .tuple ds => ds.length
  | _ => 0
/-- some value of any kind -/
def sp_odd (K : PySem.W.Frag) : Sp := fun vs H Q _ => ∃ (p c : Addr) (n : Nat), vs = [.ref p] ∧ PenAt H p c n ∧ n < 2 ^ 60 ∧ ∀ H' v d, DrewP H p c (n + 1) H' → Rp K p H' true v d → fit d = true → d.depth ≤ 4 → d.showable = true → d.shown.length ≤ 200 → lenD d ≤ 100 → Q v H'
section
variable {P : Program} {w : World} {K : PySem.W.Frag} {mg : Str → Option Value} {base : Heap}
theorem sc_odd : FnScope ["_law_pen_here", "_law_some"] ["_law_pen_here"] (defScope s_odd) := ⟨rfl, rfl, rfl, by decide +kernel, rfl, by decide +kernel, by decide +kernel⟩
theorem ok_odd {f fP : Addr} {fd fdP : FuncData} (F : Fun K "_law_odd" "_law_odd" s_odd f fd) (D : Def K mg "_law_pick" fP fdP ["_law_pen_here", "_law_options"]) (G : FnOk P w K mg base CX0 2 fP fdP ["_law_pen_here", "_law_options"] (sp_pick K)) :
    FnOk P w K mg base CX0 3 f fd ["_law_pen_here"] (sp_odd K) := by
  refine F.ok sc_odd (fun vs H Q E h => ?_) (fun cdv A outer s H vs Q E hr h => ?_)
  · obtain ⟨p, c, n, rfl, _⟩ := h
    rfl
  · obtain ⟨p, c, n, rfl, hP, hn, k⟩ := h
    refine ⟨_, pss_cons (ps_set (i := 1) sc_odd.nd rfl (Or.inl rfl) (pe_lst' (pa_cons pe_non (pa_cons pe_bl (pa_cons pe_bl (pa_cons pe_int (pa_cons pe_int (pa_cons (pe_un un_neg pe_int) (pa_cons pe_int (pa_cons pe_int
        (pa_cons (pe_op op_pow pe_int pe_int) (pa_cons (pe_op op_add (pe_op op_pow pe_int pe_int) pe_int) (pa_cons (pe_op op_mulW (pe_op op_pow pe_int pe_int) (pe_op op_pow pe_int pe_int))
        (pa_cons pe_str (pa_cons pe_str (pa_cons pe_str (pa_cons pe_str (pa_cons pe_str (pa_cons pe_str pa_nil)))))))))))))))))))
      (pss_cons (ps_set (i := 1) sc_odd.nd rfl (Or.inl rfl) (pe_op op_cat' (pv 1) (pe_lst' (pa_cons pe_str (pa_cons pe_str (pa_cons pe_str (pa_cons (pe_tup' pa_nil) (pa_cons (pe_lstB pa_nil) (pa_cons pe_dnew' (pa_cons (pe_tup' (pa_cons pe_str pa_nil))
        (pa_cons (pe_lstB (pa_cons pe_str pa_nil)) (pa_cons (pe_disp (pps_cons pe_str pe_int pps_nil) (by rfl) (by rfl) (fun z => by cases z) (by decide)) (pa_cons (pe_tup' (pa_cons pe_str (pa_cons pe_str pa_nil))) (pa_cons (pe_tup' (pa_cons pe_str (pa_cons pe_int pa_nil)))
        (pa_cons (pe_lstB (pa_cons (pe_tup' (pa_cons pe_str (pa_cons pe_int pa_nil))) pa_nil)) (pa_cons pe_str pa_nil))))))))))))))))
      (pss_one (ps_ret (pe_call G hr rfl D.mgf D.kp D.bd .nil pass0 (pa_cons (pv 0) (pa_cons (pv 1) pa_nil)))))), ?_⟩
    have pw : ∀ e : Int, 0 ≤ e → e ≤ 1000000 → CPow 10 e := fun e h1 h2 => ⟨h1, h2, by decide⟩
    have mulw : CMulW ((10 : Int) ^ (49 : Int).toNat) ((10 : Int) ^ (50 : Int).toNat) := by
      refine wide_mul (a := 200) (b := 200) ?_ ?_ (by decide) (by decide) (by decide) <;> decide +kernel
    refine ⟨1, rfl, _, _, rfl, rfl, pw 30 (by decide) (by decide), _, _, rfl, rfl, pw 30 (by decide) (by decide), _, _, rfl, rfl, _, _, rfl, rfl, pw 49 (by decide) (by decide), _, _, rfl, rfl, pw 50 (by decide) (by decide), _, _, rfl, rfl, mulw, by show 17 ≤ sizeLine; decide, fun a H1 n1 => ?_⟩
    refine ⟨_, rfl, by show 0 ≤ sizeLine; decide, fun q1 H2 n2 => ⟨by show 0 ≤ sizeLine; decide, fun q2 H3 b2 n3 => fun q3 H4 n4 => ⟨by show 1 ≤ sizeLine; decide, fun q4 H5 n5 => ⟨by show 1 ≤ sizeLine; decide, fun q5 H6 b5 n6 => fun q6 hq6 => ⟨upd_same, [(.inr "a", .int 1)], rfl, by decide, ?_⟩⟩⟩⟩⟩
    have n7 : New H6 q6 (.dK [(.inr "a", .int 1)]) (upd (upd H6 q6 (.dK [])) q6 (.dK (mergeK [] [(.inr "a", .int 1)]))) := ⟨hq6, upd_same, fun b hb => by rw [upd_ne hb, upd_ne hb]⟩
    generalize upd (upd H6 q6 (HO.dK [])) q6 (HO.dK (mergeK [] [(Sum.inr (PySem.Str.ofString "a"), V.int 1)])) = H7 at n7 ⊢
    refine ⟨by show 2 ≤ sizeLine; decide, fun q7 H8 n8 => ⟨by show 2 ≤ sizeLine; decide, fun q8 H9 n9 => ⟨by show 2 ≤ sizeLine; decide, fun q9 H10 n10 => ⟨by show 1 ≤ sizeLine; decide, fun q10 H11 b10 n11 => ⟨by show 13 ≤ sizeLine; decide, fun b H12 n12 => ?_⟩⟩⟩⟩⟩
    have sB : Same H1 H12 := ((((((((((n2.same.trans n3.same).trans n4.same).trans n5.same).trans n6.same).trans n7.same).trans n8.same).trans n9.same).trans n10.same).trans n11.same).trans n12.same)
    refine ⟨a, b, _, _, rfl, rfl, sB _ _ n1.here, n12.here, by show 30 ≤ sizeLine; decide, fun e H13 n13 => ?_⟩
    have s13 : Same H H13 := (n1.same.trans sB).trans n13.same
    have nep : ∀ {q : Addr} {G : Hp}, Same H G → G q = none → q ≠ p := fun s f z => (hP.same s).ne f z.symm
    have t1 : Same H H1 := n1.same
    have t2 := t1.trans n2.same
    have t3 := t2.trans n3.same
    have t4 := t3.trans n4.same
    have t5 := t4.trans n5.same
    have t6 := t5.trans n6.same
    have t7 := t6.trans n7.same
    have t8 := t7.trans n8.same
    have t9 := t8.trans n9.same
    have t10 := t9.trans n10.same
    have t11 := t10.trans n11.same
    have t12 := t11.trans n12.same
    refine ⟨_, rfl, _, rfl, p, c, e, _, n, rfl, hP.same s13, hn, SqL.of n13.here, nep t12 n13.free, by show 0 < 30; decide, by show 30 ≤ 1000000; decide, fun H14 v d14 hv => ?_⟩
    have dr : DrewP H p c (n + 1) H14 := ⟨(But.of s13).trans d14.but, d14.pen⟩
    have back : ∀ {q : Addr} {o : HO} {G : Hp}, q ≠ p → G q = some o → Same G H13 → H14 q = some o := fun hq hg s => d14.but _ _ hq (s _ _ hg)
    have u12 : Same H12 H13 := n13.same
    have u11 := n12.same.trans u12
    have u10 := n11.same.trans u11
    have u9 := n10.same.trans u10
    have u8 := n9.same.trans u9
    have u7 := n8.same.trans u8
    have u6 := n7.same.trans u7
    have u5 := n6.same.trans u6
    have u4 := n5.same.trans u5
    have u3 := n4.same.trans u4
    have u2 := n3.same.trans u3
    have i1 := back (nep t1 n2.free) n2.here u2
    have i2 := back (nep t2 n3.free) n3.here u3
    have i3 := back (nep t3 n4.free) n4.here u4
    have i4 := back (nep t4 n5.free) n5.here u5
    have i5 := back (nep t5 n6.free) n6.here u6
    have i6 := back (nep t6 n7.free) n7.here u7
    have i7 := back (nep t7 n8.free) n8.here u8
    have i8 := back (nep t8 n9.free) n9.here u9
    have i9 := back (nep t9 n10.free) n10.here u10
    have i10 := back (nep t10 n11.free) n11.here u11
    have fine : ∀ (v : V) (d : PyData), Rp K p H14 true v d → (fit d && decide (d.depth ≤ 4) && d.showable && decide (d.shown.length ≤ 200) && decide (lenD d ≤ 100)) = true → Q v H14 := fun v d hd ho => by
      simp only [Bool.and_eq_true, decide_eq_true_eq] at ho
      exact k H14 v d dr hd ho.1.1.1.1 ho.1.1.1.2 ho.1.1.2 ho.1.2 ho.2
    rcases List.mem_cons.mp hv with rfl | hv
    · exact fine _ _ (.non _) (by decide +kernel)
    rcases List.mem_cons.mp hv with rfl | hv
    · exact fine _ _ (.bl _ _) (by decide +kernel)
    rcases List.mem_cons.mp hv with rfl | hv
    · exact fine _ _ (.bl _ _) (by decide +kernel)
    iterate 8
      rcases List.mem_cons.mp hv with rfl | hv
      · exact fine _ _ (.int _ _) (by decide +kernel)
    iterate 9
      rcases List.mem_cons.mp hv with rfl | hv
      · exact fine _ _ (.str _ _) (by decide +kernel)
    have no : ∀ {P : Prop}, false = true → P := fun z => by cases z
    rcases List.mem_cons.mp hv with rfl | hv
    · exact fine _ (.tuple []) (.tup i1 (nep t1 n2.free) (.nil _)) (by decide +kernel)
    rcases List.mem_cons.mp hv with rfl | hv
    · exact fine _ (.list []) (.lst i2 (nep t2 n3.free) (fun _ => b2) (.nil _)) (by decide +kernel)
    rcases List.mem_cons.mp hv with rfl | hv
    · exact fine _ (.dict (([] : List PyData).zip [])) (.dct i3 (nep t3 n4.free) (.nil _) (.nil _) rfl) (by decide +kernel)
    rcases List.mem_cons.mp hv with rfl | hv
    · exact fine _ (.tuple [.str "a"]) (.tup i4 (nep t4 n5.free) (.cons (.str _ _) (.nil _))) (by decide +kernel)
    rcases List.mem_cons.mp hv with rfl | hv
    · exact fine _ (.list [.str "a"]) (.lst i5 (nep t5 n6.free) (fun _ => b5) (.cons (.str _ _) (.nil _))) (by decide +kernel)
    rcases List.mem_cons.mp hv with rfl | hv
    · exact fine _ (.dict ([PyData.str "a"].zip [PyData.int 1])) (.dct i6 (nep t6 n7.free) (.cons (.str _ _) (.nil _)) (.cons (.int _ _) (.nil _)) rfl) (by decide +kernel)
    rcases List.mem_cons.mp hv with rfl | hv
    · exact fine _ (.tuple [.str "a", .str "a"]) (.tup i7 (nep t7 n8.free) (.cons (.str _ _) (.cons (.str _ _) (.nil _)))) (by decide +kernel)
    rcases List.mem_cons.mp hv with rfl | hv
    · exact fine _ (.tuple [.str "0", .int 1]) (.tup i8 (nep t8 n9.free) (.cons (.str _ _) (.cons (.int _ _) (.nil _)))) (by decide +kernel)
    rcases List.mem_cons.mp hv with rfl | hv
    · exact fine _ (.list [.tuple [.str "0", .int 1]]) (.lst i10 (nep t10 n11.free) (fun _ => b10) (.cons (.tup i9 (nep t9 n10.free) (.cons (.str _ _) (.cons (.int _ _) (.nil _)))) (.nil _))) (by decide +kernel)
    rcases List.mem_cons.mp hv with rfl | hv
    · exact fine _ _ (.str _ _) (by decide +kernel)
    cases hv
end
end My
end
section
set_option Elab.async false
set_option linter.all false
set_option maxRecDepth 100000
set_option maxHeartbeats 4000000
/-! B1: set(xs) of texts, with the order of its table: sorted(set(xs)), len(set(xs)). -/
namespace My
open PySem PySem.Spec PyProof.Rows L2
/-! ### one set of texts -/
def WordE (w : World) (e : Int × Value) : Prop := ∃ z t, e.2 = Value.str z t ∧ e.1 = hashStr w z
def wordOf (e : Int × Value) : Str := match e.2 with
  | .str z _ => z
  | _ => ⟨#[]⟩
/-- the texts ks stand in the set at a, each once -/
def Lex (w : World) (h : Heap) (a : Addr) (S : Str → Bool) (n : Nat) : Prop :=
  ∃ (o : Obj) (es : Array (Int × Value)) (ep : Nat) (t : SetTable), (h.get? a = some o ∧ o.ExactSet ∧ o.data = .set es ep t) ∧ (∀ e ∈ es.toList, WordE w e) ∧ (es.toList.map wordOf).Nodup ∧ (∀ z, S z = true ↔ z ∈ es.toList.map wordOf) ∧
    (es.size < scanBound ∧ t.fits es.size = true ∧ es.size = n) ∧ Ris t.place.toList ∧ (w.params.followText "set-order" = true ∨ t.led = true)
section
variable {P : Program} {w : World} {A : Around} {E : Value → Shared → Prop} {s : Shared} {a : Addr} {S : Str → Bool} {n : Nat}
theorem Lex.at {h h' : Heap} (L : Lex w h a S n) (k : ∀ o, h.get? a = some o → h'.get? a = some o) : Lex w h' a S n := by
  obtain ⟨o, es, ep, t, ⟨h1, h2⟩, r⟩ := L
  exact ⟨o, es, ep, t, ⟨k o h1, h2⟩, r⟩
theorem Lex.as {h : Heap} {T : Str → Bool} (L : Lex w h a S n) (e : ∀ z, T z = S z) : Lex w h a T n := (funext e : T = S) ▸ L
theorem word_elems {l : List (Int × Value)} (g : ∀ e ∈ l, WordE w e) : ElemsOf (PySem.strKind P w) l := by
  intro e m
  obtain ⟨z, t, h1, h2⟩ := g e m
  rw [h1]
  exact ⟨⟨z, strKind_is P w z t, h2⟩, rfl⟩
theorem word_is {e : Int × Value} (g : WordE w e) (z : Str) : (PySem.strKind P w).is z e.2 = true ↔ wordOf e = z := by
  obtain ⟨y, t, h1, _⟩ := g
  unfold wordOf
  rw [h1]
  constructor
  · intro q
    have q1 : Value.isStrOf z (Value.str y t) = true := q
    obtain ⟨u, hu⟩ := Value.isStrOf_shape q1
    injection hu
  · rintro rfl
    exact strKind_is P w _ t
theorem word_mem {l : List (Int × Value)} (g : ∀ e ∈ l, WordE w e) (z : Str) : z ∈ l.map wordOf ↔ ∃ e ∈ l, (PySem.strKind P w).is z e.2 = true := by
  rw [List.mem_map]
  exact ⟨fun ⟨e, m, q⟩ => ⟨e, m, (word_is (g e m) z).mpr q⟩, fun ⟨e, m, q⟩ => ⟨e, m, (word_is (g e m) z).mp q⟩⟩
theorem Lex.of {h : Heap} (L : Lex w h a S n) : h.SetOf (PySem.strKind P w) a S n := by
  obtain ⟨o, es, ep, t, ⟨h1, h2, h3⟩, g, _, m, ⟨b, f, z⟩, _⟩ := L
  exact ⟨o, es, ep, t, h1, h2, h3, word_elems g, fun x => (m x).trans (word_mem g x), b, f, z⟩
/-- what is stored when one came to it -/
theorem lex_tail {gv : Bool → Sem Unit} (hg : ∀ (b : Bool) (s₁ : Shared) (Q' : Unit → Shared → Prop), Q' () s₁ → wpAny (model P w) A (gv b) Q' E s₁)
    {o : Obj} {es es1 : Array (Int × Value)} {ep : Nat} {t t2 : SetTable} {T : Str → Bool} {dum : Bool} {R : Option Bool → Shared → Prop}
    (ho : s.heap.get? a = some o) (ex : o.ExactSet) (hd : o.data = .set es ep t) (g1 : ∀ e ∈ es1.toList, WordE w e) (d1 : (es1.toList.map wordOf).Nodup) (m1 : ∀ z, T z = true ↔ z ∈ es1.toList.map wordOf)
    (b1 : es1.size < scanBound) (f2 : t2.fits es1.size = true) (r2 : Ris t2.place.toList) (l2 : w.params.followText "set-order" = true ∨ t2.led = true)
    (hR : ∀ h', Heap.SameBut a s.heap h' → Lex w h' a T es1.size → R (some true) { s with heap := h' }) :
    wpAny (model P w) A (storeSet a es1 t2 >>= fun _ => if (!dum && t2.tooFull) = true then (gv (relayAll t2 es1 (SetTable.grown es1.size)).2.2 >>= fun _ =>
      storeSet a (relayAll t2 es1 (SetTable.grown es1.size)).1 (relayAll t2 es1 (SetTable.grown es1.size)).2.1 >>= fun _ => pure (some true)) else pure (some true)) R E s := by
  apply wpAny_bind
  apply wpAny_storeSet_of ho hd _ (fits_of_scanBound b1)
  have sb1 := Heap.SameBut.update s.heap a (Obj.putSet es1 t2)
  have at1 := store_at (es' := es1) (t' := t2) ho hd
  split
  · obtain ⟨pm, f3, r3, l3⟩ := And.intro (relayAll_perm t2 es1 (SetTable.grown es1.size)) (And.intro (relayAll_fits t2 es1 (SetTable.grown es1.size)) (And.intro (relayAll_ris t2 es1 (SetTable.grown es1.size)) (relayAll_led t2 es1 (SetTable.grown es1.size))))
    revert pm f3 r3 l3
    generalize relayAll t2 es1 (SetTable.grown es1.size) = Z
    obtain ⟨es2, t3, gave⟩ := Z
    intro pm f3 r3 l3
    have n2 : es2.size = es1.size := by
      have := pm.length_eq
      simpa using this
    have b2 : es2.size < scanBound := n2 ▸ b1
    apply wpAny_bind
    apply hg
    apply wpAny_bind
    apply wpAny_storeSet_of at1 rfl _ (fits_of_scanBound b2)
    have at2 := store_at (es' := es2) (t' := t3) at1 rfl
    apply wpAny_pure
    apply hR _ (sb1.trans (Heap.SameBut.update _ a _))
    exact ⟨_, es2, _, t3, ⟨at2, ex, rfl⟩, fun e m => g1 e (pm.mem_iff.mp m), (pm.map wordOf).nodup_iff.mpr d1, fun z => (m1 z).trans (pm.map wordOf).mem_iff.symm, ⟨b2, f3, n2⟩, r3, l2.imp id fun z => l3.trans z⟩
  · exact wpAny_pure (hR _ sb1 ⟨_, es1, _, t2, ⟨at1, ex, rfl⟩, g1, d1, m1, ⟨b1, f2, rfl⟩, r2, l2⟩)
theorem lex_add {z : Str} {tk : Tok} {Q : Bool → Shared → Prop} (L : Lex w s.heap a S n) (room : n + 1 < scanBound)
    (fin : ∀ h', Heap.SameBut a s.heap h' → Lex w h' a (fun y => S y || decide (y = z)) (if S z = true then n else n + 1) → Q (!S z) { s with heap := h' }) :
    wpAny (model P w) A (setAddHashed a (.str z tk) ((PySem.strKind P w).hash z)) Q E s := by
  obtain ⟨o, es, ep, t, ⟨ho, ex, hd⟩, g, nd, hm, ⟨hb, hf, hn⟩, hr, hl⟩ := L
  have key : (PySem.strKind P w).is z (.str z tk) = true := strKind_is P w z tk
  have sc : (Value.str z tk).scannable = true := rfl
  have el : ElemsOf (PySem.strKind P w) es.toList := word_elems g
  unfold setAddHashed setAddHashedIn
  apply wpAny_holding
  apply wpAny_bind
  apply wpAny_setState_of ho hd hf
  dsimp only
  rw [byScan_of sc hb el]
  simp only [↓reduceIte]
  unfold setAddByScan
  apply wpAny_bind
  apply wpAny_bind
  apply wpAny_rule
  apply wpAny_bind
  apply wpAny_setScan_of key ho hd hf el
  cases find : List.findIdx? (fun e => (PySem.strKind P w).is z e.2) es.toList with
  | some j =>
    dsimp only
    obtain ⟨hj, pj, _⟩ := List.findIdx?_eq_some_iff_getElem.mp find
    have yes : S z = true := (hm z).mpr ((word_mem (P := P) g z).mpr ⟨_, List.getElem_mem hj, pj⟩)
    apply wpAny_pure
    apply wpAny_pure
    have same : ∀ y, (S y || decide (y = z)) = true ↔ y ∈ es.toList.map wordOf := by
      intro y
      rw [Bool.or_eq_true, decide_eq_true_eq, ← hm y]
      exact ⟨fun q => q.elim id (fun e => e ▸ yes), Or.inl⟩
    have q := fin s.heap (Heap.SameBut.refl a s.heap) ⟨o, es, ep, t, ⟨ho, ex, hd⟩, g, nd, same, ⟨hb, hf, by rw [if_pos yes]; exact hn⟩, hr, hl⟩
    rw [yes] at q
    exact q
  | none =>
    dsimp only
    have out : z ∉ es.toList.map wordOf := by
      intro q
      obtain ⟨e, he, q⟩ := (word_mem (P := P) g z).mp q
      have c := List.findIdx?_eq_none_iff.mp find e he
      rw [q] at c
      cases c
    have no : S z = false := Bool.eq_false_iff.mpr fun q => out ((hm z).mp q)
    obtain ⟨pm, f1, r1, l1⟩ := And.intro (layNew_perm t es ((PySem.strKind P w).hash z) (.str z tk)) (And.intro (layNew_fits t es ((PySem.strKind P w).hash z) (.str z tk)) (And.intro (layNew_ris t es ((PySem.strKind P w).hash z) (.str z tk) hr) (layNew_led t es ((PySem.strKind P w).hash z) (.str z tk))))
    revert pm f1 r1 l1
    generalize layNew t es ((PySem.strKind P w).hash z) (.str z tk) = Z
    obtain ⟨es1, t1, dum, gave⟩ := Z
    intro pm f1 r1 l1
    dsimp only at pm f1 r1 l1 ⊢
    have pc : es1.toList.Perm (((PySem.strKind P w).hash z, Value.str z tk) :: es.toList) := by
      rw [Array.toList_push] at pm
      exact pm.trans (List.perm_append_singleton _ _)
    have pk : (es1.toList.map wordOf).Perm (z :: es.toList.map wordOf) := pc.map wordOf
    have g1 : ∀ e ∈ es1.toList, WordE w e := by
      intro e he
      rcases List.mem_cons.mp (pc.mem_iff.mp he) with q | q
      · exact ⟨z, tk, by rw [q], by rw [q] <;> rfl⟩
      · exact g e q
    have d1 : (es1.toList.map wordOf).Nodup := pk.nodup_iff.mpr (List.nodup_cons.mpr ⟨out, nd⟩)
    have m1 : ∀ y, (S y || decide (y = z)) = true ↔ y ∈ es1.toList.map wordOf := by
      intro y
      rw [Bool.or_eq_true, decide_eq_true_eq, hm y, pk.mem_iff, List.mem_cons]
      exact Or.comm
    have n1 : es1.size = n + 1 := by
      have := pc.length_eq
      rw [List.length_cons, Array.length_toList, Array.length_toList, hn] at this
      exact this
    have b1 : es1.size < scanBound := n1 ▸ room
    have led1 : w.params.followText "set-order" = true ∨ t1.led = true := hl.imp id fun q => l1.trans q
    have done : ∀ h', Heap.SameBut a s.heap h' → Lex w h' a (fun y => S y || decide (y = z)) es1.size → Q true { s with heap := h' } := by
      intro h' sb r
      have q := fin h' sb
      rw [no] at q
      rw [n1] at r
      exact q r
    have way : ∀ (b : Bool) (s₁ : Shared) (Q' : Unit → Shared → Prop), Q' () s₁ → wpAny (model P w) A (match b with | true => rule "set.scan.the-table-gave-way" | false => pure ()) Q' E s₁ := by
      rintro (_ | _) s₁ Q' q
      · exact wpAny_pure q
      · exact wpAny_rule q
    apply wpAny_bind
    apply way
    split
    · apply wpAny_bind
      rw [hashByValue_scannable 8 sc]
      apply wpAny_pure
      refine lex_tail way ho ex hd g1 d1 m1 b1 ?_ ?_ ?_ fun h' sb r => wpAny_pure (done h' sb r)
      · first | (split <;> first | exact f1 | exact SetTable.fits_plain_off f1) | exact f1
      · first | (split <;> exact r1) | exact r1
      · first | (split <;> exact led1) | exact led1
    · apply wpAny_bind
      apply wpAny_pure
      simp only [↓reduceIte]
      exact lex_tail way ho ex hd g1 d1 m1 b1 f1 r1 led1 fun h' sb r => wpAny_pure (done h' sb r)
end
end My
end
section
set_option Elab.async false
set_option linter.all false
set_option maxRecDepth 100000
set_option maxHeartbeats 6400000
/-! B2: set(xs) of a list or tuple of texts. -/
namespace My
open PySem PySem.Spec PyProof.Rows L2
/-! ### how many different texts -/
theorem sub_perm : ∀ (ks xs : List Str), ks.Nodup → (∀ z ∈ ks, z ∈ xs) → ks.length ≤ xs.length ∧ (ks.length = xs.length → ks.Perm xs) := by
  intro ks
  induction ks with
  | nil =>
    intro xs _ _
    refine ⟨Nat.zero_le _, fun e => ?_⟩
    rw [List.length_eq_zero_iff.mp e.symm]
  | cons k ks ih =>
    intro xs nd sub
    obtain ⟨n1, n2⟩ := List.nodup_cons.mp nd
    have pm : xs.Perm (k :: xs.erase k) := List.perm_cons_erase (sub k List.mem_cons_self)
    have len := pm.length_eq
    rw [List.length_cons] at len
    obtain ⟨i1, i2⟩ := ih (xs.erase k) n2 fun z hz => (List.mem_erase_of_ne (fun (e : z = k) => n1 (e ▸ hz))).mpr (sub z (List.mem_cons_of_mem _ hz))
    rw [List.length_cons]
    exact ⟨by omega, fun e => ((i2 (by omega)).cons k).trans pm.symm⟩
theorem count_of {ks xs : List Str} (nd : ks.Nodup) (m : ∀ z, z ∈ xs ↔ z ∈ ks) : ks.length ≤ xs.length ∧ (ks.length = xs.length ↔ xs.Nodup) := by
  obtain ⟨h1, h2⟩ := sub_perm ks xs nd fun z hz => (m z).mpr hz
  exact ⟨h1, fun e => (h2 e).nodup_iff.mp nd, fun n => ((List.perm_ext_iff_of_nodup nd n).mpr fun z => (m z).symm).length_eq⟩
theorem Lex.count {w : World} {h : Heap} {a : Addr} {xs : List Str} {n : Nat} (L : Lex w h a (fun z => decide (z ∈ xs)) n) : n ≤ xs.length ∧ (n = xs.length ↔ xs.Nodup) := by
  obtain ⟨o, es, ep, t, _, _, nd, m, ⟨_, _, hn⟩, _⟩ := L
  have e : (es.toList.map wordOf).length = n := by
    rw [List.length_map, Array.length_toList]
    exact hn
  rw [← e]
  exact count_of nd fun z => (decide_eq_true_iff (p := z ∈ xs)).symm.trans (m z)
section
variable {prog : Program} {w : World} {A : Around} {R : Result → Shared → Prop} {I : Addr} {fp wr : List Addr} {G : Array GenState → Array GenState → Prop} {n : Nat} {Pv : Nat → Value → Prop} {St : Nat → Shared → Prop}
theorem lex_loop (W : WalksS prog w A.in1 I fp wr G n Pv St) (S : Addr) (notIn : S ∉ fp) (xs : List Str) (few : xs.length + 1 < scanBound) (hn : n = xs.length) (val : ∀ i v, Pv i v → ∃ z t, xs[i]? = some z ∧ v = .str z t) :
    ∀ (left i : Nat) (s : Shared), n - i = left → i ≤ n → St i s → (∃ c, c ≤ i ∧ Lex w s.heap S (fun z => decide (z ∈ xs.take i)) c) →
      (∀ s' c, Moved (S :: wr) G s s' → Lex w s'.heap S (fun z => decide (z ∈ xs)) c → R (.ok (.ret .none)) s') →
      codeAny (model prog w) A (.builtin "set.update.loop" ⟨[.ref S, .ref I], []⟩) R s := by
  have notW : S ∉ wr := fun m => notIn (W.sub _ m)
  have more : ∀ b ∈ wr, b ∈ S :: wr := fun b m => List.mem_cons_of_mem _ m
  have stays : ∀ {s s' : Shared} {T : Str → Bool} {m : Nat}, Moved wr G s s' → Lex w s.heap S T m → Lex w s'.heap S T m := fun mv L => L.at fun o e => mv.heap S o notW e
  intro left
  induction left with
  | zero =>
    rintro i s hl hi st ⟨c, hc, set_⟩ fin
    obtain rfl : i = n := by omega
    apply codeAny_builtin PyProof.Rows.F.entry_set_update_loop
    rw [Around.under_plainId PyProof.Rows.F.plain_set_update_loop _]
    show wpAny _ A.in1 (pyNext (.ref I) >>= _) _ _ s
    apply wpAny_bind
    apply W.done s _ _ st
    intro s' mv
    apply wpAny_pure
    apply fin s' c (mv.mono more)
    have q := stays mv set_
    rw [show xs.take i = xs from List.take_of_length_le (by omega)] at q
    exact q
  | succ left ih =>
    rintro i s hl hi st ⟨c, hc, set_⟩ fin
    have lt : i < n := by omega
    apply codeAny_builtin PyProof.Rows.F.entry_set_update_loop
    rw [Around.under_plainId PyProof.Rows.F.plain_set_update_loop _]
    show wpAny _ A.in1 (pyNext (.ref I) >>= _) _ _ s
    apply wpAny_bind
    apply W.item i s _ _ lt st
    intro v s' at_ st' mv
    obtain ⟨z, t, hz, rfl⟩ := val i v at_
    show wpAny _ A.in1 (holding [Value.str z t] (setAdd S (.str z t)) >>= _) _ _ s'
    apply wpAny_bind
    apply wpAny_holding
    unfold setAdd
    apply wpAny_holding
    apply wpAny_bind
    apply (PySem.strKind prog w).pyHash (k := z) (strKind_is _ _ _ _)
    refine lex_add (s := { s' with toks := s'.toks + 1 }) (show Lex w s'.heap S _ c from stays mv set_) (by omega) fun h' but set2 => ?_
    have set3 : Lex w h' S (fun y => decide (y ∈ xs.take (i + 1))) (if decide (z ∈ xs.take i) = true then c else c + 1) := set2.as fun y => by
      rw [List.take_add_one, hz]
      simp [List.mem_append]
    refine wpAny_pure ⟨plainId_quiet PyProof.Rows.F.plain_set_update_loop _, ih (i + 1) _ (by omega) lt (W.frame _ s' _ _ st' (Nat.le_succ _) fun b hb o e => ?_) ⟨_, by split <;> omega, set3⟩ fun s'' c2 mv2 set4 => ?_⟩
    · rw [but.2 b (fun e2 => notIn (e2 ▸ hb))]
      exact e
    · refine fin s'' c2 (Moved.trans W.gtrans ((mv.mono more).then_heap (Nat.le_succ _) fun b o hb e => ?_) mv2) set4
      rw [but.2 b (fun e2 => hb (e2 ▸ List.mem_cons_self))]
      exact e
end
section
variable {prog : Program} {w : World} {A : Around} {E : Value → Shared → Prop} {s : Shared}
abbrev newSetL (w : World) : Obj := newSet (!w.params.followText "set-order")
theorem lex_new {h : Heap} {a : Addr} {xs : List Str} (at_ : h.get? a = some (newSetL w)) : Lex w h a (fun z => decide (z ∈ xs.take 0)) 0 := by
  refine ⟨_, #[], 0, _, ⟨at_, ⟨rfl, rfl, rfl⟩, rfl⟩, fun e m => by simp at m, by simp, fun z => by simp, ⟨by decide, by rfl, rfl⟩, List.Pairwise.nil, ?_⟩
  show _ ∨ (!w.params.followText "set-order") = true
  cases w.params.followText "set-order"
  · exact .inr rfl
  · exact .inl rfl
/-- the body of set.__init__ over a list or tuple of texts -/
theorem set_init_seq {A2 : Around} (hh : A2.handled = none) {l : Addr} {items : Array Value} {xs : List Str} {Qf : Fin → Shared → Prop} {Ef : Value → Shared → Prop} (few : xs.length + 1 < scanBound)
    (hl : s.heap.IsList l items ∨ s.heap.IsTuple l items) (are : StrsAre items.toList xs)
    (fin : ∀ h' tk c, Lex w h' s.heap.objs.size (fun z => decide (z ∈ xs)) c → (∀ b o, s.heap.get? b = some o → h'.get? b = some o) → Qf (.done (.ret .none)) { s with heap := h', toks := tk }) :
    wpAny (model prog w) A2 (Builtin.«set.__init__» ⟨[.ref s.heap.objs.size, .ref l], []⟩) Qf Ef { s with heap := s.heap.push (newSetL w) } := by
  have at_ : (s.heap.push (newSetL w)).get? s.heap.objs.size = some (newSetL w) := Heap.get?_push_size _ rfl
  have ty : Shared.TypeIs { s with heap := s.heap.push (newSetL w) } (.ref s.heap.objs.size) "set" := ⟨_, at_, rfl⟩
  have sz : (s.heap.push (newSetL w)).objs.size = s.heap.objs.size + 1 := Heap.size_push _ _
  have len : items.size = xs.length := by
    have := are.len_eq
    rwa [Array.length_toList] at this
  have val : ∀ (i : Nat) (v : Value), items[i]? = some v → ∃ z t, xs[i]? = some z ∧ v = .str z t := by
    intro i v e
    obtain ⟨z, t, e1, e2⟩ := are.item i v (by rw [Array.getElem?_toList]; exact e)
    exact ⟨z, t, e2, e1⟩
  have lt : l < s.heap.objs.size := by
    rcases hl with ⟨o, e, _⟩ | ⟨o, e, _⟩ <;> exact Heap.lt_size e
  have apart : s.heap.objs.size ∉ [(s.heap.push (newSetL w)).objs.size, l] := by
    rw [sz]
    simp only [List.mem_cons, List.not_mem_nil, or_false, not_or]
    exact ⟨Nat.ne_of_lt (Nat.lt_succ_self _), Nat.ne_of_gt lt⟩
  have other : l ≠ (s.heap.push (newSetL w)).objs.size := by
    rw [sz]
    exact Nat.ne_of_lt (Nat.lt_succ_of_lt lt)
  have hh2 : A2.in1.handled = none := hh
  have last : ∀ (s' : Shared) (c : Nat) {it : Obj}, Moved (s.heap.objs.size :: [(s.heap.push (newSetL w)).objs.size]) (fun x y => y = x) { s with heap := (s.heap.push (newSetL w)).push it } s' → Lex w s'.heap s.heap.objs.size (fun z => decide (z ∈ xs)) c →
      wpAny (model prog w) A2 (ret Value.none) Qf Ef s' := by
    intro s' c it mv set_
    obtain ⟨h', g', d', tk', os'⟩ := s'
    obtain rfl : g' = s.gens := mv.gens
    obtain rfl : d' = s.drawn := mv.drawn
    obtain rfl : os' = s.os := mv.os
    refine wpAny_pure (fin h' tk' c set_ fun b ob e => ?_)
    have lb := Heap.lt_size e
    refine mv.heap b ob (fun m => ?_) (Heap.get?_push_of_some _ (Heap.get?_push_of_some _ e))
    rw [sz] at m
    rcases List.mem_cons.mp m with e2 | m
    · exact Nat.ne_of_lt lb e2
    · exact Nat.ne_of_lt (Nat.lt_succ_of_lt lb) (List.mem_singleton.mp m)
  rcases hl with hl | hl
  · have no1 := PySem.F.sub_list_set
    have no2 := PySem.F.sub_list_frozenset
    have no3 : (Value.type "list" == Value.type "dict") = false := by decide
    obtain ⟨⟨cls, dd, data, sl⟩, e, hc, k, hd⟩ := hl
    simp only at hc hd
    subst hc hd
    have e1 := Heap.get?_push_of_some (newSetL w) e
    have is1 : (s.heap.push (newSetL w)).IsList l items := ⟨_, e1, rfl, k, rfl⟩
    unfold Builtin.«set.__init__» noKeywords Builtin.Frozenset.updateFrom
    generalize walkOf : pyIter = PI
    wp_walk
    subst walkOf
    apply wpAny_pyIter_list is1
    apply wpAny_bind
    apply wpAny_runValue
    refine lex_loop ((Walks.list hh2 _ l other items).toS) s.heap.objs.size apart xs few len val (items.size - 0) 0 _ rfl (Nat.zero_le _) ⟨⟨_, Heap.get?_push_size _ rfl, rfl, rfl⟩, is1.push _⟩ ⟨0, Nat.le_refl _, lex_new (Heap.get?_push_of_some _ at_)⟩ ?_
    intro s' c mv set_
    exact wpAny_pure (last s' c mv set_)
  · have no1 := PySem.F.sub_tuple_set
    have no2 := PySem.F.sub_tuple_frozenset
    have no3 : (Value.type "tuple" == Value.type "dict") = false := by decide
    obtain ⟨⟨cls, dd, data, sl⟩, e, hc, k, hd⟩ := hl
    simp only at hc hd
    subst hc hd
    have e1 := Heap.get?_push_of_some (newSetL w) e
    have is1 : (s.heap.push (newSetL w)).IsTuple l items := ⟨_, e1, rfl, k, rfl⟩
    unfold Builtin.«set.__init__» noKeywords Builtin.Frozenset.updateFrom
    generalize walkOf : pyIter = PI
    wp_walk
    subst walkOf
    apply wpAny_pyIter_tuple is1
    apply wpAny_bind
    apply wpAny_runValue
    refine lex_loop ((Walks.tuple hh2 _ l other items).toS) s.heap.objs.size apart xs few len val (items.size - 0) 0 _ rfl (Nat.zero_le _) ⟨⟨_, Heap.get?_push_size _ rfl, rfl, rfl⟩, is1.push _⟩ ⟨0, Nat.le_refl _, lex_new (Heap.get?_push_of_some _ at_)⟩ ?_
    intro s' c mv set_
    exact wpAny_pure (last s' c mv set_)
theorem call_set_seq (hh : A.handled = none) {l : Addr} {items : Array Value} {xs : List Str} {Q : Value → Shared → Prop} (few : xs.length + 1 < scanBound) (hl : s.heap.IsList l items ∨ s.heap.IsTuple l items) (are : StrsAre items.toList xs)
    (fin : ∀ h' tk c, Lex w h' s.heap.objs.size (fun z => decide (z ∈ xs)) c → (∀ b o, s.heap.get? b = some o → h'.get? b = some o) → Q (.ref s.heap.objs.size) { s with heap := h', toks := tk }) :
    wpAny (model prog w) A (call (.type "set") [.ref l]) Q E s := by
  obtain ⟨c, tl, mro_⟩ := PySem.F.called_set.mro
  have made_ := PySem.F.called_set.made
  have sub_ := PySem.F.called_set.sub
  apply wpAny_call
  apply codeAny_of_tree
  show wpAny _ _ (callAny (.type "set") _) _ _ _
  refine wpAny_pure ⟨Code.quiet_builtin _ (by decide +kernel), codeAny_builtin PySem.F.entry_type_call ?_⟩
  rw [Around.under_plain (weight_type_call_type "set" [.ref l] []) rfl]
  have nt_ := PySem.F.called_set.notType
  have can_ := PySem.F.called_set.canCreate
  have chk_ := PySem.F.typeCall_set_1 (.ref l)
  repeat (any_goals (first | assumption | wp_step))
  apply codeAny_mono (code_set_led1 (.ref l) (E := E) (Q₁ := fun ob s1 => ob = .ref s.heap.objs.size ∧ s1 = { s with heap := s.heap.push (newSetL w) }) ⟨rfl, rfl⟩)
  intro r s1 hr
  match r, hr with
  | .error _, hr => exact hr
  | .ok .next, hr => exact hr.elim
  | .ok .brk, hr => exact hr.elim
  | .ok .cont, hr => exact hr.elim
  | .ok (.ret ob), hr =>
    obtain ⟨rfl, rfl⟩ := hr
    have at_ : (s.heap.push (newSetL w)).get? s.heap.objs.size = some (newSetL w) := Heap.get?_push_size _ rfl
    have ty : Shared.TypeIs { s with heap := s.heap.push (newSetL w) } (.ref s.heap.objs.size) "set" := ⟨_, at_, rfl⟩
    have look_ := PySem.F.called_set.init.lookup
    have bind_ := PySem.F.called_set.init.bind (.ref s.heap.objs.size)
    repeat (any_goals (first | assumption | wp_step))
    refine codeAny_mono (codeAny_call_builtin (R := wants (fun r s2 => r = .none ∧ ∃ h' tk c, s2 = { s with heap := h', toks := tk } ∧ Lex w h' s.heap.objs.size (fun z => decide (z ∈ xs)) c ∧
        ∀ b o, s.heap.get? b = some o → h'.get? b = some o) E) PySem.F.called_set.init.plain PySem.F.entry_set_init (check_set_init_1 ty (set_init_seq (A2 := A.in1.in1) hh few hl are fun h' tk c h1 h2 => ⟨rfl, h', tk, c, rfl, h1, h2⟩))) ?_
    intro r2 s2 hr2
    match r2, hr2 with
    | .error _, hr2 => exact hr2
    | .ok .next, hr2 => exact hr2.elim
    | .ok .brk, hr2 => exact hr2.elim
    | .ok .cont, hr2 => exact hr2.elim
    | .ok (.ret _), hr2 =>
      obtain ⟨rfl, h', tk, c, rfl, h1, h2⟩ := hr2
      repeat (any_goals (first | assumption | wp_step))
      exact fin h' tk c h1 h2
/-! ### sorted -/
theorem sorted_lex {a : Addr} {S : Str → Bool} {n : Nat} {Q : Value → Shared → Prop} (L : Lex w s.heap a S n) (hh : A.handled = none) (few : n < 64)
    (fin : ∀ s' p (out : Array Value) (c : Nat) (ys : List Str), (∀ b o, s.heap.get? b = some o → s'.heap.get? b = some o) → s'.gens = s.gens → s'.os = s.os → s.heap.objs.size ≤ p →
      s'.heap.get? p = some (seqObj "list" out c) → StrsAre out.toList ys → ys.Nodup → (∀ z, z ∈ ys ↔ S z = true) → ys.length = n → Q (.ref p) s') :
    wpAny (model prog w) A (call (.builtin "sorted") [.ref a]) Q E s := by
  obtain ⟨o, es, ep, t, ⟨ho, ex, hd⟩, g, nd, hm, ⟨hb, hf, hn⟩, hr, hl⟩ := L
  apply Calls.call_function_entry kind_sorted plain_sorted entry_sorted (args_sorted1 _)
  unfold Builtin.«sorted»
  apply wpAny_bind (m := checkCount "sorted" 1 1 _)
  apply wpAny_pure
  apply wpAny_bind
  apply collect_set (A := A.in1) hh ⟨o, ho, ex.1, hd⟩ hf hb hr hl
  intro s1 vs k1 hz g1 o1 pm
  have lv : vs.length = n := by
    rw [pm.length_eq, List.length_map, Array.length_toList]
    exact hn
  have are : StrsAre vs (vs.map PyProof.Rows.strOf) := strsAre_map vs fun v hv => by
    obtain ⟨e, he, q⟩ := List.mem_map.mp (pm.mem_iff.mp hv)
    obtain ⟨z, tk, h1, _⟩ := g e he
    exact ⟨z, tk, by rw [← q]; exact h1⟩
  have ke : ∀ (es : List (Int × Value)), (∀ e ∈ es, WordE w e) → (es.map (·.2)).map PyProof.Rows.strOf = es.map wordOf := by
    intro es ge
    rw [List.map_map]
    apply List.map_congr_left
    intro e he
    obtain ⟨z, tk, h1, _⟩ := ge e he
    show PyProof.Rows.strOf e.2 = wordOf e
    unfold wordOf
    rw [h1]
    rfl
  have pk : (vs.map PyProof.Rows.strOf).Perm (es.toList.map wordOf) := by
    rw [← ke es.toList g]
    exact pm.map _
  apply wpAny_bind
  refine wpAny_newList ?_ (by rw [lv, sizeLine_eq]; omega)
  have atL : (s1.heap.push (seqObj "list" vs.toArray 0)).get? s1.heap.objs.size = some (seqObj "list" vs.toArray 0) := Heap.get?_push_size _ rfl
  apply wpAny_bind
  refine wpAny_holding (wpAny_call_entry slot_list_sort ⟨_, atL, rfl⟩ entry_list_sort (list_sort_treeK strKind_oneLt atL are.keysOf (fun v₁ v₂ rest e => keyKind_strs (by rw [← e]; exact are)) (by rw [lv]; exact few) fun st' hp hs => ⟨_, rfl, ?_⟩) (args_list_sort _))
  obtain ⟨ys, y1, y2, _⟩ := sorted_out_str are hp hs
  obtain ⟨c, hc⟩ := sortedHeap_at (vs := vs) (out := (arrOf st').map (·.2)) atL
  have pn : ys.Perm (es.toList.map wordOf) := y2.trans pk
  refine wpAny_pure ⟨_, rfl, fin _ s1.heap.objs.size _ c ys (fun b u e => ?_) g1 o1 hz hc y1 (pn.nodup_iff.mpr nd) (fun z => by rw [pn.mem_iff, ← hm z]) ?_⟩
  · have q := k1 b u e
    have lb := Heap.lt_size q
    show (sortedHeap (s1.heap.push (seqObj "list" vs.toArray 0)) s1.heap.objs.size vs _).get? b = some u
    rw [sortedHeap_old (Nat.ne_of_lt lb) (by rw [size_push']; exact Nat.lt_succ_of_lt lb)]
    exact Heap.get?_push_of_some _ q
  · rw [pn.length_eq, List.length_map, Array.length_toList]
    exact hn
end
end My
end
section
set_option Elab.async false
set_option linter.all false
set_option maxRecDepth 100000
set_option maxHeartbeats 4000000
/-! B3: sorted(set(xs)), len(set(xs)) of texts as rules. -/
namespace My
open PySem PySem.Spec PyProof.Rows L2
theorem vals_strs : ∀ {us : List Value} {ys : List Str}, StrsAre us ys → Vals (ys.map V.str) us
  | _, _, .nil => .nil
  | _, _, .cons y t h => .cons ⟨t, rfl⟩ (vals_strs h)
section
variable {X : Cx}
theorem seq_of {pins : List (Addr × Obj)} {σ : L2.St} {H : Hp} {s : Shared} {l : Addr} {xs : List Str} (I : Inv X pins σ H s) (h : SqL X.K H l (xs.map V.str) ∨ SqT X.K H l (xs.map V.str)) :
    ∃ items : Array Value, (s.heap.IsList l items ∨ s.heap.IsTuple l items) ∧ StrsAre items.toList xs := by
  rcases h with h | h
  · obtain ⟨its, r, pl, _⟩ := I.list h
    exact ⟨its.toArray, .inl pl.isList, by simpa using strsAre_of r⟩
  · obtain ⟨its, r, pl, _⟩ := I.tuple h
    exact ⟨its.toArray, .inr pl, by simpa using strsAre_of r⟩
/-- sorted(set(xs)), xs a list or tuple of texts -/
def qSortSet (K : PySem.W.Frag) (ta : TE) : TE := fun σ H Q => ta σ H fun x H1 => ∃ (l : Addr) (xs : List Str), x = .ref l ∧ (SqL K H1 l (xs.map V.str) ∨ SqT K H1 l (xs.map V.str)) ∧ xs.length < 64 ∧
  ∀ (p : Addr) (H2 : Hp) (ys : List Str), New H1 p (.lst (ys.map V.str)) H2 → ys.Nodup → (∀ z, z ∈ ys ↔ z ∈ xs) → Q (.ref p) H2
theorem pe_sortSet {a : Expr} {ta : TE} {p p2 q pos : Pos} (hg : Gl X "sorted") (hm : X.mg "sorted" = none) (hg2 : Gl X "set") (hm2 : X.mg "set" = none) (ha : PE X a ta) (hc : X.calm = true := by rfl)
    (na : starEach [a] X.env = (false, eval a X.env) :: starEach [] X.env := by rfl) : PE X (.Call (.Name "sorted" p) [.Call (.Name "set" p2) [a] [] q] [] pos) (qSortSet X.K ta) := by
  constructor
  intro pins s σ H Q I h
  apply Call_ (ld_blt I hg hm boot_sorted _)
  apply PyProof.Rows.callWith_builtin1 (PyProof.Rows.args_cons _ rfl) rfl rfl
  apply Call_ (ld_blt I hg2 hm2 boot_set _)
  refine PyProof.Rows.callWith_type1 (PyProof.Rows.args_cons (thn (ha.run pins s σ H _ I h) fun v s1 ⟨x, H1, I1, r1, q1⟩ => PyProof.Rows.args_nil ?_) na) na rfl
  obtain ⟨l, xs, rfl, hs, few, q1⟩ := q1
  cases r1
  obtain ⟨items, hl, are⟩ := seq_of I1 hs
  refine call_set_seq (I1.ok.hd hc) (by unfold scanBound; omega) hl are fun h' tk n L kept => ?_
  apply PyProof.Rows.args_nil
  have I2 : Inv X pins σ H1 { s1 with heap := h', toks := tk } := I1.kept kept
  refine sorted_lex (s := { s1 with heap := h', toks := tk }) L (I2.ok.hd hc) (Nat.lt_of_le_of_lt L.count.1 few) fun s' p out c ys k g o hp hout are2 nd mem len => ?_
  have free : H1 p = none := I2.hok.fresh hp
  have le : (ys.map V.str).length ≤ sizeLine := by
    have := L.count.1
    rw [List.length_map, sizeLine_eq]
    omega
  have J : Inv X pins σ (upd H1 p (.lst (ys.map V.str))) { ({ s1 with heap := h', toks := tk } : Shared) with heap := s'.heap, gens := s'.gens, drawn := s'.drawn, toks := s'.toks } :=
    I2.call (ch := []) (Un.laid k hp free) (I2.hok.laid k hp ⟨le, out.toList, c, vals_strs are2, hout⟩) (by rw [g]; exact I2.bare) (fun _ z => nomatch z)
  have e : s' = { s1 with heap := s'.heap, gens := s'.gens, drawn := s'.drawn, toks := s'.toks } := by
    cases s'
    cases s1
    cases o
    rfl
  rw [e]
  exact ⟨.ref p, _, J, rfl, q1 p _ ys (.mk' free) nd fun z => (mem z).trans decide_eq_true_iff⟩
/-- len(set(xs)), xs a list or tuple of texts -/
def qCntSet (K : PySem.W.Frag) (ta : TE) : TE := fun σ H Q => ta σ H fun x H1 => ∃ (l : Addr) (xs : List Str), x = .ref l ∧ (SqL K H1 l (xs.map V.str) ∨ SqT K H1 l (xs.map V.str)) ∧ xs.length ≤ 4000 ∧
  ∀ n : Nat, n ≤ xs.length → (n = xs.length ↔ xs.Nodup) → Q (.int n) H1
theorem pe_cntSet {a : Expr} {ta : TE} {p p2 q pos : Pos} (hg : Gl X "len") (hm : X.mg "len" = none) (hg2 : Gl X "set") (hm2 : X.mg "set" = none) (ha : PE X a ta) (hc : X.calm = true := by rfl)
    (na : starEach [a] X.env = (false, eval a X.env) :: starEach [] X.env := by rfl) : PE X (.Call (.Name "len" p) [.Call (.Name "set" p2) [a] [] q] [] pos) (qCntSet X.K ta) := by
  constructor
  intro pins s σ H Q I h
  apply Call_ (ld_blt I hg hm boot_len _)
  apply PyProof.Rows.callWith_builtin1 (PyProof.Rows.args_cons _ rfl) rfl rfl
  apply Call_ (ld_blt I hg2 hm2 boot_set _)
  refine PyProof.Rows.callWith_type1 (PyProof.Rows.args_cons (thn (ha.run pins s σ H _ I h) fun v s1 ⟨x, H1, I1, r1, q1⟩ => PyProof.Rows.args_nil ?_) na) na rfl
  obtain ⟨l, xs, rfl, hs, few, q1⟩ := q1
  cases r1
  obtain ⟨items, hl, are⟩ := seq_of I1 hs
  refine call_set_seq (I1.ok.hd hc) (by unfold scanBound; omega) hl are fun h' tk n L kept => ?_
  apply PyProof.Rows.args_nil
  have I2 : Inv X pins σ H1 { s1 with heap := h', toks := tk } := I1.kept kept
  obtain ⟨c1, c2⟩ := L.count
  obtain ⟨o, es, ep, t, ⟨ho, ex, hd⟩, _, _, _, ⟨hb, hf, hn⟩, _⟩ := L
  have q2 := q1 n c1 c2
  rw [← hn] at q2
  exact call_len_set ho ex hd hf (by omega) ⟨.int (es.size : Nat), H1, I2.tok _, ⟨_, rfl⟩, q2⟩
end
end My
end
section
set_option Elab.async false
set_option linter.all false
set_option maxRecDepth 100000
set_option maxHeartbeats 4000000
namespace My
open PySem PySem.Spec PyProof.Rows L2
open PySem.HandSPX (excO)
/-! ### own errors over any built-in error -/
/-- what is asked of the chain of an own error's class -/
structure Chain (F : String) (bm : List Value) : Prop where
  base : bm.contains (.type F) = true
  attr : bm.contains (.type "AttributeError") = false
  name : bm.contains (.type "NameError") = false
  obj : bm.contains (.type "object") = true
  some : bm.isEmpty = false
  pass : ∀ self : Value, refuseLoop self "__setattr__" bm = pure ()
section
variable {prog : Program} {w : World} {A : Around} {E : Value → Shared → Prop} {R : Result → Shared → Prop} {h : Heap} {g : Array GenState} {d : Drawn} {t : Nat} {os : OsState}
variable {nm q : Str} {C N : Addr} {bs bm bmB : List Value} {sn : List Str} {sub : List Value} {ab : Bool} {col : Option Bool} {dd : Option Addr} {k0 k1 k2 k3 k5 : Option Value} {B newId initId : String}
/-- C(..): a fresh error, then the class's own __init__ -/
theorem make_own (F : ExcBaseFacts B newId initId bmB) (T : Chain B bm) {rest : List Value} {fI : Addr}
    (hC : h.get? C = some (excClassObj nm q C N bs bm true sn sub ab col dd k0 k1 k2 k3 k5 newId))
    (hi : PySem.W.Looks (model prog w) h (typeLookup (.ref C) "__init__") (some (.ref fI)))
    (hb : ∀ self, PySem.W.Looks (model prog w) h (bindSpecial (.ref fI) self) (.ref fI, [self])) (hl : rest.length ≤ sizeLine)
    (hq : codeAny (model prog w) (A.under (.builtin "type.__call__" ⟨.ref C :: rest, []⟩)) (.call (.ref fI) ⟨.ref (h.objs.size + 1) :: rest, []⟩) (PySem.W.InitBack (h.objs.size + 1) R)
      ⟨(h.push (PySem.W.kdv_tup rest)).push (excO C h.objs.size), g, d, t, os⟩) :
    codeAny (model prog w) A (.call (.ref C) ⟨rest, []⟩) R ⟨h, g, d, t, os⟩ := by
  have isB : (Value.ref C :: bm).contains (.type B) = true := by
    rw [List.contains_cons, T.base, Bool.or_true]
  have notA : (Value.ref C :: bm).contains (.type "AttributeError") = false := by
    rw [List.contains_cons, T.attr]; rfl
  have notN : (Value.ref C :: bm).contains (.type "NameError") = false := by
    rw [List.contains_cons, T.name]; rfl
  have isC : (Value.ref C :: bm).contains (.ref C) = true := by simp
  have ty : (⟨h, g, d, t, os⟩ : Shared).TypeIs (.ref C) "type" := ⟨_, hC, rfl⟩
  have t1 := tc_lookup
  have t2 := tc_bind (.ref C)
  have star := F.noStar
  have ends := F.ends
  have k : ∀ b o, h.get? b = some o → ((h.push (PySem.W.kdv_tup rest)).push (excO C h.objs.size)).get? b = some o := fun b o e =>
    Heap.get?_push_of_some _ (Heap.get?_push_of_some _ e)
  have i1 := hi.keeps k
  have b1 := (hb (.ref (h.objs.size + 1))).keeps k
  have new1 : ((h.push (PySem.W.kdv_tup rest)).push (excO C h.objs.size)).get? (h.objs.size + 1) = some (excO C h.objs.size) := by heap_get
  have hC1 := k _ _ hC
  refine codeAny_of_tree ?_
  show wpAny _ _ (callAny (.ref C) _) _ _ _
  repeat (any_goals (first
    | assumption
    | with_reducible refine wpAny_loadPart_at hC ?_
    | wp_step))
  refine ⟨rfl, ?_⟩
  refine codeAny_call_builtin_at (Code.quiet_builtin _ (by decide +kernel)) entry_typeCall (wpAny_check_type_call_sub hC ?_)
  repeat (first
    | with_reducible refine wpAny_loadPart_at hC ?_
    | with_reducible refine wpAny_madeBy_exc hC ?_
    | wp_step)
  refine codeAny_call_builtin_code (Code.quiet_builtin _ F.quiet) ?_
  · simp only [checkBuiltinCall, F.newKind, F.newSplit, F.newRow]
    repeat (first
      | refine wpAny_loadPart_at hC ?_
      | (refine wpAny_isSubtype_exc hC ?_
         rw [isB])
      | refine wpAny_staticBase_exc hC ?_
      | refine wpAny_madeBy_exc hC ?_
      | simp only [bne_self_eq_false, Bool.false_eq_true, if_false]
      | wp_step)
    refine codeAny_builtinAt F.entry ?_
    unfold Builtin.«BaseException.__new__»
    refine PySem.wpAt_bind ?_
    show PySem.wpAt _ _ _ (stack >>= _) _ _ _
    refine PySem.wpAt_bind (PySem.wpAt_stack fun p below => PySem.wpAt_of_wpAny ?_)
    wp_walk
    refine PySem.wpAt_of_wpAny ?_
    rw [F.owner]
    repeat (first
      | with_reducible refine wpAny_madeHere_exc F.canon hC ?_
      | with_reducible refine wpAny_loadPart_at hC ?_
      | (with_reducible refine wpAny_isSubtype_exc hC ?_
         first
           | rw [isB]
           | rw [notA]
           | rw [notN])
      | wp_step)
    rw [Heap.size_push]
    show wpAny _ _ (isSubtype (.ref C) (.ref C)) _ _ ⟨(h.push (PySem.W.kdv_tup rest)).push (excO C h.objs.size), g, d, t, os⟩
    refine wpAny_isSubtype_exc hC1 ?_
    rw [isC]
    repeat (first
      | with_reducible refine wpAny_loadPart_at new1 ?_
      | wp_step)
    show wpAny _ _ (typeLookup (.ref C) _) _ _ _
    refine i1.at ?_
    refine wpAny_holding (wpAny_bind (b1.at ?_))
    refine wpAny_bind (wpAny_call (codeAny_mono hq fun r s' z => ?_))
    rcases r with e | (v | _ | _ | _) <;> first | exact z | exact z.elim | skip
    obtain ⟨rfl, z⟩ := z
    first
      | exact wpAny_pure (wpAny_pure z)
      | (wp_walk; exact z)
end
end My
end
section
set_option Elab.async false
set_option linter.all false
set_option maxRecDepth 100000
set_option maxHeartbeats 4000000
namespace My
open PySem PySem.Spec PyProof.Rows L2
open PySem.HandSPX (excO)
/-! ### the field of an own error -/
section
open Builtin Builtin.ObjectAttr
variable {prog : Program} {w : World} {A : Around} {E : Value → Shared → Prop} {R : Result → Shared → Prop} {hp : Heap} {g : Array GenState} {d : Drawn} {t : Nat} {os : OsState}
/-- e.f = v, e an own error without a dict as yet -/
theorem err_store {K : PySem.W.Frag} {B : String} {bm : List Value} {f : Str} {tk : Tok} {v : Value} {x C : Addr} {fv : Array Value} {cd : ClassData} (T : Chain B bm)
    (X : K.In hp) (hx : hp.get? x = some { cls := .ref C, data := .fields fv }) (hcd : PySem.W.clsIn K C = some cd) (hm : cd.mro = .ref C :: bm) (hh : cd.hasDict = true)
    (ha : PySem.W.findIn K (.ref C) f = some none)
    (hq : ∀ h' tk' dx, (∀ b o, b ≠ x → hp.get? b = some o → h'.get? b = some o) → hp.objs.size ≤ dx → dx ≠ x →
      h'.get? x = some { cls := .ref C, dict := some dx, data := .fields fv } → h'.Ns1 dx (fun y => if y = f then some v else none) → R (.ok (.ret .none)) ⟨h', g, d, tk', os⟩) :
    codeAny (model prog w) A (.call (.builtin "object.__setattr__") ⟨[.ref x, .str f tk, v], []⟩) R ⟨hp, g, d, t, os⟩ := by
  have at0 : PySem.W.InstAt hp x { cls := .ref C, data := .fields fv } C none := ⟨hx, rfl, rfl, trivial⟩
  have st := F.store_object
  have obj : cd.mro.contains (.type "object") = true := by
    rw [hm, List.contains_cons, T.obj, Bool.or_true]
  have full : cd.mro.isEmpty = false := by rw [hm]; rfl
  have free : refuseLoop (.ref x) "__setattr__" cd.mro = pure () := by
    rw [hm, refuseLoop_ref]
    exact T.pass _
  have other : x ≠ hp.objs.size := Nat.ne_of_lt (Heap.lt_size hx)
  have isO : PySem.W.Looks (model prog w) hp (isInstance (.ref x) (.type "object")) true := at0.type.andThen
    (PySem.W.looks_mroIn X (by unfold PySem.W.mroIn; rw [hcd, Option.bind_some, if_neg (by rw [full]; decide), obj]))
  refine codeAny_call_builtin st.slot.plain st.entry (@PySem.W.check_slot (model prog w) _ _ ⟨hp, g, d, t, os⟩ "object.__setattr__" "object" "__setattr__"
    (.ref x) [.str f tk, v] [] _ st.kind st.split isO (st.args (.ref x) (.str f tk) v) ?_)
  have mro : PySem.W.Looks (model prog w) hp (mroOf (.ref C)) cd.mro := (PySem.W.looks_clsIn X hcd).andThen .now
  have taker : PySem.W.Looks (model prog w) hp (storeTaker? none) none := .now
  have data : PySem.W.Looks (model prog w) hp (classData C) cd := PySem.W.looks_clsIn X hcd
  rw [PySem.W.osa_eq, refuse_eq]
  refine wpAny_bind (wpAny_bind (at0.type.at (wpAny_bind (mro.at ?_))))
  rw [free]
  refine wpAny_pure (wpAny_bind (at0.type.at (wpAny_bind ((PySem.W.looks_findIn X ha).at (wpAny_bind (taker.at ?_))))))
  show wpAny _ _ (storeInOwnDict (.ref x) (.ref C) (.str f tk) f v false) _ _ _
  obtain ⟨nm, bs, mro, ns, qn, hd, sn, sb, ab, col, del⟩ := cd
  dsimp only at hh
  subst hh
  unfold storeInOwnDict ownDictForStores
  repeat (first
    | with_reducible refine PySem.HandSPX.store_in_new ?_ ?_
    | with_reducible refine wpAny_loadPart_at hx ?_
    | with_reducible refine data.at ?_
    | wp_step)
  · exact ⟨_, #[], _, (Heap.get?_update_ne _ _ _ _ other.symm).trans (Heap.get?_push_at rfl rfl), rfl, fun e he => absurd he (by simp), fun _ => rfl⟩
  · intro h' tk' hn' hs
    have hx1 : (hp.push { cls := .type "dict", data := .dict #[] }).get? x = some { cls := .ref C, data := .fields fv } := Heap.get?_push_of_some _ hx
    refine hq h' tk' hp.objs.size (fun b o hb ho => ?_) (Nat.le_refl _) other.symm ?_ hn'
    · exact (hs.2 b (Nat.ne_of_lt (Heap.lt_size ho))).trans ((Heap.get?_update_ne _ _ _ _ hb).trans (Heap.get?_push_of_some _ ho))
    · exact (hs.2 x other).trans (Heap.get?_update_self _ hx1 rfl)
end
/-! ### the class of an error that keeps one value -/
def eArgs (f : Str) (p1 p2 : Pos) : Arguments := { posonlyargs := [], args := [{ arg := "self", annotation := none, pos := p1 }, { arg := f, annotation := none, pos := p2 }], vararg := none, kwonlyargs := [], kw_defaults := [], kwarg := none, defaults := [] }
def eBody (f : Str) (q1 q2 q3 q4 : Pos) : List Stmt := [.Assign [.Attribute (.Name "self" q1) f q2] (.Name f q3) q4]
def eScope (f : Str) : Scope := { kind := .function, names := [(PySem.Str.ofString "self", .local), (f, .local)], isGenerator := false, isCoroutine := false, more := [] }
/-- the name of a field: no name that means something else in __init__ -/
structure Fld (f : Str) : Prop where
  bind : ∀ (qi : Str) (p1 p2 : Pos) (b : List Stmt) (doc pm : Value) (an : Option Addr) (cdv ct a v : Value),
    bindArgs (PySem.W.fnOf "__init__" qi (eArgs f p1 p2) b (eScope f) .none .none doc pm an cdv ct) ⟨[a, v], []⟩ = pure [(("self" : Str), a), (f, v)]
  loc : (eScope f).names.lookup f = some .local
  first : ∀ (qi : Str) (L a : Addr) (cd p v : Value), bindL (envOfC qi (eScope f) L a cd).kindOf [("self", p), (f, v)] (fun _ => none) "self" = some p
  snd : ∀ (qi : Str) (L a : Addr) (cd p v : Value), bindL (envOfC qi (eScope f) L a cd).kindOf [("self", p), (f, v)] (fun _ => none) f = some v
  dbg : (f == ("__debug__" : Str)) = false
theorem fld_value : Fld "value" where
  bind := fun _ _ _ _ _ _ _ _ _ _ _ => by first | rfl | with_unfolding_all rfl
  loc := by decide +kernel
  first := fun _ _ _ _ _ _ => by first | rfl | with_unfolding_all rfl
  snd := fun _ _ _ _ _ _ => by first | rfl | with_unfolding_all rfl
  dbg := by decide
/-- what the written part says of the class x at C, over the built-in error B, with the field f, and of its __init__ at fI -/
structure ErrC (K : PySem.W.Frag) (mg : Str → Option Value) (x f qi : Str) (B newId initId : String) (bmB bm : List Value) (C fI : Addr) : Prop where
  facts : ExcBaseFacts B newId initId bmB
  chain : Chain B bm
  gC : mg x = some (.ref C)
  cls : ∃ nm q N bs sn sub ab col dd k0 k1 k2 k3 k5, K.lookup C = some (excClassObj nm q C N bs bm true sn sub ab col dd k0 k1 k2 k3 k5 newId)
  sa : PySem.W.findIn K (.ref C) "__setattr__" = some (some (.builtin "object.__setattr__"))
  ga : PySem.W.findIn K (.ref C) "__getattribute__" = some (some (.builtin "BaseException.__getattribute__"))
  gg : PySem.W.findIn K (.ref C) "__getattr__" = some none
  noN : PySem.W.findIn K (.ref C) f = some none
  iC : PySem.W.findIn K (.ref C) "__init__" = some (some (.ref fI))
  tC : PySem.W.typeIn K (.ref fI) = some (.type "function")
  kC : PySem.W.keepIn K (.ref C) = true
  exC : PySem.W.subIn K (.ref C) (.type "BaseException") = some true
  tyC : PySem.W.typeIn K (.ref C) = some (.type "type")
  hdC : PySem.W.hasDictIn K C = true
  te : PySem.W.exmOne K (.ref C) (.ref C) = some true
  fn : ∃ (oc : Value) (od : Option Addr) (doc pm : Value) (an : Option Addr) (cdv ct : Value) (osl : Array (Option Value)) (p1 p2 q1 q2 q3 q4 : Pos),
    K.lookup fI = some ⟨oc, od, .func (PySem.W.fnOf "__init__" qi (eArgs f p1 p2) (eBody f q1 q2 q3 q4) (eScope f) .none .none doc pm an cdv ct), osl⟩ ∧ PySem.W.codeIn K cdv qi = true
/-- what __init__ leaves -/
structure Kept1 (h h' : Heap) (x C dx t1 : Addr) (f : Str) (v : Value) : Prop where
  keep : ∀ b o, b ≠ x → h.get? b = some o → h'.get? b = some o
  obj : h'.get? x = some { cls := .ref C, dict := some dx, data := .fields #[.ref t1, .none, .none, .none, .bool false, .none] }
  big : h.objs.size ≤ dx
  ne : dx ≠ x
  ns : h'.Ns1 dx (fun y => if y = f then some v else none)
/-- what C(v) leaves: the error at e, its dict at dx -/
structure Made1 (h h' : Heap) (e C dx : Addr) (f : Str) (v : Value) : Prop where
  keep : ∀ b o, h.get? b = some o → h'.get? b = some o
  new : h.objs.size ≤ e
  obj : ∃ oe vs, h'.get? e = some oe ∧ oe.cls = .ref C ∧ oe.dict = some dx ∧ oe.data = .fields vs ∧ vs[1]? = some .none
  big : h.objs.size ≤ dx
  ne : dx ≠ e
  ns : h'.Ns1 dx (fun y => if y = f then some v else none)
section
variable {prog : Program} {w : World} {A : Around} {E : Value → Shared → Prop} {R : Result → Shared → Prop} {s : Shared} {K : PySem.W.Frag} {mg : Str → Option Value} {x f qi : Str} {B newId initId : String} {bmB bm : List Value} {C fI : Addr}
theorem ld_local {M : Model} {s : Shared} {name : Str} {scope : Scope} {L a : Addr} {cd : Value} {m : Str → Option Value} {x : Str} {pos : Pos} {v : Value} {Q : Value → Shared → Prop} {A : Around} {E : Value → Shared → Prop}
    (hn : s.heap.Ns L m) (hv : m x = some v) (h : Q v s) (hk : scope.kind = .function) (hl : (envOfC name scope L a cd).kindOf x = some .local) (hd : (x == ("__debug__" : Str)) = false) :
    wpAny M A (eval (.Name x pos) (envOfC name scope L a cd)) Q E s :=
  wpAny_Name (wpAny_loadName_local hk hl hn hv h) hd
theorem err_init (T : ErrC K mg x f qi B newId initId bmB bm C fI) (Z : Fld f) {p t0 : Addr} {v : Value} (X : K.In s.heap) (hlim : s.heap.NoLimit) (hx : s.heap.get? p = some (excO C t0)) (room : A.depth < recursionLimit)
    (hq : ∀ h' tk dx, Kept1 s.heap h' p C dx t0 f v → R (.ok (.ret .none)) { s with heap := h', toks := tk }) :
    codeAny (model prog w) A (.call (.ref fI) ⟨[.ref p, v], []⟩) R s := by
  obtain ⟨oc, od, doc, pm, an, cdv, ct, osl, p1, p2, q1, q2, q3, q4, ho, hcd⟩ := T.fn
  obtain ⟨nm, q, N, bs, sn, sub, ab, col, dd, k0, k1, k2, k3, k5, hC⟩ := T.cls
  have hcl : PySem.W.clsIn K C = some { name := nm, bases := bs, mro := .ref C :: bm, ns := N, qualname := q, hasDict := true, slotNames := sn, subclasses := sub, abstract := ab, collection := col, hasDel := false } := by
    unfold PySem.W.clsIn
    rw [hC] <;> rfl
  refine Att.call_fn (binds := [("self", .ref p), (f, v)]) X hlim ho hcd room (BindsTo.of_eq (Z.bind ..)) ?_ (fun s₁ IC => ?_) rfl rfl rfl
  · have e : (eScope f).names.lookup ("self" : Str) = some .local := rfl
    show ((((eScope f).names.lookup ("self" : Str) == some .local) || ((eScope f).names.lookup ("self" : Str) == some .cell)) && ((((eScope f).names.lookup f == some .local) || ((eScope f).names.lookup f == some .cell)) && true)) = true
    rw [e, Z.loc]
    rfl
  obtain ⟨h₁, tk₁, rfl⟩ := IC.toInCall.same
  have k : ∀ b o, s.heap.get? b = some o → h₁.get? b = some o := IC.toInCall.keep
  have hn := IC.toInCall.ns
  have X1 : K.In h₁ := X.keeps k
  have hx1 := k _ _ hx
  show wpAny _ _ (execs _ _) _ _ _
  refine wpAny_execs_cons (plainObj_wpAny_Assign_Attribute ?_)
  refine ld_local (v := v) hn (Z.snd ..) (ld_local (v := .ref p) hn (Z.first ..) ?_ rfl rfl (by decide)) rfl Z.loc Z.dbg
  refine PySem.W.set_plain X1 (ox := excO C t0) (od := none) ⟨hx1, rfl, rfl, trivial⟩ T.sa ?_
  refine err_store T.chain X1 hx1 hcl rfl rfl T.noN (fun h₃ tk₃ dx k₃ dn dne hx₃ hn₃ => ?_)
  show wpAny _ _ (execs _ _) _ _ _
  have z : s.heap.objs.size < h₁.objs.size := hn.lt
  exact wpAny_execs_nil (hq h₃ tk₃ dx ⟨fun b o hb e => k₃ b o hb (k b o e), hx₃, Nat.le_of_lt (Nat.lt_of_lt_of_le z dn), dne, hn₃⟩)
theorem err_made (T : ErrC K mg x f qi B newId initId bmB bm C fI) (Z : Fld f) {v : Value} (X : K.In s.heap) (hlim : s.heap.NoLimit) (room : A.depth + 1 < recursionLimit)
    (hq : ∀ h' tk e d, Made1 s.heap h' e C d f v → R (.ok (.ret (.ref e))) { s with heap := h', toks := tk }) :
    codeAny (model prog w) A (.call (.ref C) ⟨[v], []⟩) R s := by
  obtain ⟨nm, q, N, bs, sn, sub, ab, col, dd, k0, k1, k2, k3, k5, hC⟩ := T.cls
  obtain ⟨hp, g, dr, tk, os⟩ := s
  have k : ∀ b o, hp.get? b = some o → ((hp.push (PySem.W.kdv_tup [v])).push (excO C hp.objs.size)).get? b = some o := fun b o e =>
    Heap.get?_push_of_some _ (Heap.get?_push_of_some _ e)
  have here : ((hp.push (PySem.W.kdv_tup [v])).push (excO C hp.objs.size)).get? (hp.objs.size + 1) = some (excO C hp.objs.size) := by heap_get
  have one : [v].length ≤ sizeLine := by
    rw [sizeLine_eq]
    exact (by decide : 1 ≤ 16777216)
  refine make_own T.facts T.chain (X _ _ hC) (PySem.W.looks_findIn X T.iC) (fun self => PySem.W.bind_fn X self T.tC) one ?_
  refine err_init (s := ⟨(hp.push (PySem.W.kdv_tup [v])).push (excO C hp.objs.size), g, dr, tk, os⟩) T Z (X.keeps k) (hlim.keeps k) here ?_ fun h' tk' dx ⟨k', hx, dn, dne, hns⟩ => ?_
  · show A.depth + 1 < recursionLimit
    exact room
  · have old : ∀ b o, hp.get? b = some o → h'.get? b = some o := fun b o e => k' b o (Nat.ne_of_lt (Nat.lt_succ_of_lt (Heap.lt_size e))) (k b o e)
    have z : hp.objs.size + 1 + 1 ≤ dx := by
      have q := dn
      rw [Heap.size_push, Heap.size_push] at q
      exact q
    exact ⟨rfl, hq h' tk' (hp.objs.size + 1) dx ⟨old, Nat.le_succ _, ⟨_, _, hx, rfl, rfl, rfl, rfl⟩, Nat.le_trans (Nat.le_trans (Nat.le_succ _) (Nat.le_succ _)) z, dne, hns⟩⟩
end
/-! ### the error in rules -/
theorem relO_one {f : Str} {v : V} {v' : Value} (r : RelV v v') (y : Str) : RelO (List.lookup y [(f, v)]) (if y = f then some v' else none) := by
  by_cases e : y = f
  · subst e
    rw [if_pos rfl]
    have q : List.lookup y [(y, v)] = some v := by simp [List.lookup]
    rw [q]
    exact r
  · rw [if_neg e]
    have q1 : (y == f) = false := by simpa using e
    have q2 : List.lookup y [(f, v)] = none := by simp [List.lookup, q1]
    rw [q2]
    trivial
section
variable {X : Cx} {x f qi : Str} {B newId initId : String} {bmB bm : List Value} {C fI : Addr}
/-- C(e) -/
def tErr (C : Addr) (f : Str) (ta : TA) : L2.St → Hp → XK → Prop := fun σ H Q => ta σ H fun vs H1 => ∃ v, vs = [v] ∧ ∀ d, H1 d = none → Q (.ref C) (some d) (upd H1 d (.xd [(f, v)]))
theorem pmk_err {a : Expr} {ta : TA} {p pos : Pos} {k : Nat} (T : ErrC X.K X.mg x f qi B newId initId bmB bm C fI) (Z : Fld f) (hr : Room k X.A) (hk : 1 ≤ k) (ha : PA X [a] ta) (hg : Gl X x)
    (hdb : (x == ("__debug__" : Str)) = false := by decide)
    (he : starEach (a :: []) X.env = (false, eval a X.env) :: starEach [] X.env := by rfl) (hpl : (backTo pos (starEach [] X.env)).any (·.1) = false := by rfl) :
    PMk X (.Call (.Name x p) [a] [] pos) (tErr C f ta) := by
  intro pins s σ H Q I h
  refine wpAny_Call_Name_kw (ld_glob I hg T.gC ?_ hdb)
  refine PySem.W.callWith_K (h₀ := X.base) I.ok.mod.kin T.kC (thn (ha.run pos pins s σ H _ I h) fun us s1 hh => ?_) he hpl
  obtain ⟨vs, H1, I1, r1, v, ev, q1⟩ := hh
  subst ev
  refine ⟨I1.kIn, ?_⟩
  obtain ⟨v', rfl, rv⟩ := vals1 r1
  show wpAny _ _ (call (.ref C) [v']) _ _ _
  have hlim := I1.nolimit
  obtain ⟨hp, g, dr, tk, os⟩ := s1
  refine wpAny_call (err_made T Z I1.kIn hlim (by have := hr.dp; omega) fun h' tk' e d M => ?_)
  show MkP X pins σ Q (.ref e) ⟨h', g, dr, tk', os⟩
  obtain ⟨oe, fv, hoe, hc, hd, hdat, h1⟩ := M.obj
  have hns := M.ns
  obtain ⟨G', g1, g2⟩ := restrict h' fun b => decide (b ≠ e)
  have gk : ∀ b, b ≠ e → G'.get? b = h'.get? b := fun b hb => g1 b (decide_eq_true hb)
  have ge : G'.get? e = none := g2 e (by simp)
  have old : ∀ b o, hp.get? b = some o → G'.get? b = some o := fun b o q => (gk b (Nat.ne_of_lt (Nat.lt_of_lt_of_le (Heap.lt_size q) M.new))).trans (M.keep b o q)
  have ob : ObjOk X.prog X.w (upd H1 d (.xd [(f, v)])) G' d (.xd [(f, v)]) := ⟨_, hns.at (fun o q => (gk d M.ne).trans q), fun y => relO_one rv y⟩
  have J : Inv X pins σ (upd H1 d (.xd [(f, v)])) ⟨G', g, dr, tk', os⟩ := I1.laid (t' := tk') old M.big ob
  refine ⟨e, oe, fv, ⟨G', g, dr, tk', os⟩, _, .ref C, some d, rfl, J, fun b o q => ?_, ge, hoe, ⟨hc, hd⟩, hdat, h1, ?_, rfl, I1.bare, raises_own T.exC T.tyC, q1 d (I1.hok.fresh M.big)⟩
  · by_cases hb : b = e
    · have q' : G'.get? b = some o := q
      rw [hb, ge] at q'
      cases q'
    · exact (gk b hb).symm.trans q
  · rw [upd_ne (Ne.symm M.ne)]
    exact I1.hok.fresh M.new
/-- raise C(e) -/
def tRaiseErr (C : Addr) (f : Str) (W : WX) (ta : TA) : TS := fun _ σ H => tErr C f ta σ H fun cls d H' => W cls d σ H'
theorem ps_raiseErr {a : Expr} {ta : TA} {W : WX} {p pos pos2 : Pos} {k : Nat} (hc : X.calm = true) (T : ErrC X.K X.mg x f qi B newId initId bmB bm C fI) (Z : Fld f) (hr : Room k X.A) (hk : 1 ≤ k) (tk : Takes X W) (ha : PA X [a] ta) (hg : Gl X x)
    (hdb : (x == ("__debug__" : Str)) = false := by decide)
    (he : starEach (a :: []) X.env = (false, eval a X.env) :: starEach [] X.env := by rfl) (hpl : (backTo pos (starEach [] X.env)).any (·.1) = false := by rfl) :
    PS X (.Raise (some (.Call (.Name x p) [a] [] pos)) none pos2) (tRaiseErr C f W ta) := ps_raise hc tk (pmk_err T Z hr hk ha hg hdb he hpl)
/-- e.f in the suite that holds e -/
def tErrF (C : Addr) (f : Str) (a : Addr) (cls : Value) (d : Option Addr) (te : TE) : TE := fun σ H Q => te σ H fun y H1 => y = .ref a ∧ cls = .ref C ∧ ∃ (dd : Addr) (v : V), d = some dd ∧ H1 dd = some (.xd [(f, v)]) ∧ Q v H1
theorem pe_errF {a : Addr} {oe : Obj} {cls : Value} {d : Option Addr} {pn : List (Addr × Obj)} {e : Expr} {te : TE} {pos : Pos} (T : ErrC X.K X.mg x f qi B newId initId bmB bm C fI) (hz : Zc cls d oe) (hf : ∃ vs, oe.data = .fields vs) (he : PE (X.suite a ((a, oe) :: pn)) e te)
    (hb : attributeBase e f X.env (eval e X.env) = eval e X.env := by rfl) :
    PE (X.suite a ((a, oe) :: pn)) (.Attribute e f pos) (tErrF C f a cls d te) := by
  refine ⟨fun pins s σ H Q I h => ?_⟩
  refine attr_of hb (thn (he.run pins s σ H _ I h) fun u s1 hh => ?_)
  obtain ⟨y, H1, I1, ry, ey, ec, dd, v, ed, ea, q⟩ := hh
  subst ey
  obtain rfl : u = Value.ref a := ry
  subst ec
  subst ed
  obtain ⟨ha, _⟩ := I1.pin (a, oe) (List.mem_append_left _ List.mem_cons_self)
  obtain ⟨vs, hd⟩ := hf
  have hx : ObjOk X.prog X.w H1 s1.heap dd (.xd [(f, v)]) := I1.hok dd _ ea
  obtain ⟨mA, hns, hr⟩ := hx
  obtain ⟨od, ho, hl⟩ := lookIn_ns hns
  have l : List.lookup f [(f, v)] = some v := by simp [List.lookup]
  obtain ⟨u, hu, ru⟩ := RelO.some_of (v := v) (o := mA f) (by rw [← l]; exact hr f)
  have J : PySem.W.InstAt s1.heap a oe C (some od) := ⟨ha, hz.1, by unfold PySem.W.notCls; rw [hd] <;> rfl, by rw [hz.2]; exact ho⟩
  exact HandSPX.exc_get I1.kIn J T.ga T.gg T.exC (PySem.W.findObj_own T.hdC T.noN rfl (by rw [hl, hu])) (handed_of ru) ⟨v, H1, I1.tok _, ru, q⟩
end
/-! ### the chains of the built-in errors -/
abbrev bmValue : List Value := [.type "ValueError", .type "Exception", .type "BaseException", .type "object"]
abbrev bmLookup : List Value := [.type "LookupError", .type "Exception", .type "BaseException", .type "object"]
abbrev bmKey : List Value := [.type "KeyError", .type "LookupError", .type "Exception", .type "BaseException", .type "object"]
theorem chain_Value : Chain "ValueError" bmValue := ⟨by decide +kernel, by decide +kernel, by decide +kernel, by decide +kernel, rfl, PySem.F.store_ValueError.passes⟩
theorem key_pass (self : Value) : refuseLoop self "__setattr__" bmKey = pure () := by
  first
    | kernel_rfl
    | rfl
theorem chain_Key : Chain "LookupError" bmKey := ⟨by decide +kernel, by decide +kernel, by decide +kernel, by decide +kernel, rfl, key_pass⟩
end My
end
section
set_option Elab.async false
set_option linter.all false
set_option maxRecDepth 100000
set_option maxHeartbeats 4000000
/-! D1: Font.__init__ with what it raises. -/
namespace My
open PySem PySem.Spec PyProof.Rows L2
abbrev VErr (K : PySem.W.Frag) (mg : Str → Option Value) (x qi : Str) (U fI : Addr) : Prop := ErrC K mg x "value" qi "ValueError" "ValueError.__new__" "ValueError.__init__" bmValue bmValue U fI
/-- a statement of a class body -/
def inCls (s : Stmt) (i : Nat) : Stmt := match s with
  | .ClassDef _ _ _ b _ _ _ _ _ _ _ => b.getD i (.Pass ⟨0, 0, 0, 0⟩)
  | _ => .Pass ⟨0, 0, 0, 0⟩
abbrev s_cls : Stmt := topS 10
abbrev s_init : Stmt := inCls s_cls 1
/-- what is wrong: true: the signs, false: the turns -/
def badD (d1 d2 : PyData) : Option Bool := match d1 with
  | .str S => if fontD (.str S) = true then (if (keptD S d2).isSome = true then none else some false) else some true
  | _ => some true
/-- what is told of an error over a value -/
def Err (E : XK) (U : Addr) (v : V) (H : Hp) : Prop := ∀ H' dd, Same H H' → H dd = none → H' dd = some (.xd [("value", v)]) → E (.ref U) (some dd) H'
theorem Err.at {E : XK} {U : Addr} {v : V} {H H1 : Hp} {dd : Addr} (h : Err E U v H) (s : Same H H1) (f : H1 dd = none) : E (.ref U) (some dd) (upd H1 dd (.xd [("value", v)])) := by
  have n : New H1 dd (.xd [("value", v)]) (upd H1 dd (.xd [("value", v)])) := .mk' f
  refine h _ dd (s.trans n.same) ?_ n.here
  cases e : H dd with
  | none => rfl
  | some o => have := s _ _ e; rw [f] at this; cases this
def sp_initX (K : PySem.W.Frag) (C IF IT : Addr) : Sp := fun vs H Q E => ∃ (a dx p : Addr) (v1 v2 : V) (d1 d2 : PyData), vs = [.ref a, v1, v2] ∧ H a = some (.ins C dx []) ∧ Rp K p H false v1 d1 ∧ fit d1 = true ∧ Rp K p H false v2 d2 ∧ fit d2 = true ∧
  (badD d1 d2 = some true → Err E IF v1 H) ∧ (badD d1 d2 = some false → Err E IT v2 H) ∧ (badD d1 d2 = none → ∀ H', But a H H' → Q .non H')
section
variable {P : Program} {w : World} {K : PySem.W.Frag} {mg : Str → Option Value} {base : Heap}
theorem sc_init : FnScope ["self", "signs", "turns", "pairs"] ["self", "signs", "turns"] (defScope s_init) := ⟨rfl, rfl, rfl, by decide +kernel, rfl, by decide +kernel, by decide +kernel⟩
theorem ok_initX {f fF fK C IF IT fIF fIT : Addr} {fd fdF fdK : FuncData} {dvs : List V} (F : FunD K "__init__" "Font.__init__" (defArgs s_init) (defBody s_init) (defScope s_init) dvs [] f fd) (c : Cls K C) (n1 : NoAttr K C "_signs") (n2 : NoAttr K C "_turns")
    (DF : Def K mg "is_font_signs" fF fdF ["value"]) (GF : FnOk P w K mg base CX0 2 fF fdF ["value"] (sp_isFont K)) (DK : Def K mg "kept_turns" fK fdK ["signs", "turns"]) (GK : FnOk P w K mg base CX0 3 fK fdK ["signs", "turns"] (sp_kept K))
    (TF : VErr K mg "InvalidFont" "InvalidFont.__init__" IF fIF) (TT : VErr K mg "InvalidTurns" "InvalidTurns.__init__" IT fIT) :
    FnOk P w K mg base (L2.CX P w) 4 f fd ["self", "signs", "turns"] (sp_initX K C IF IT) := by
  refine F.ok (CX := L2.CX P w) sc_init (fun vs H Q E h => ?_) (fun cdv A outer s H vs Q E hr h => ?_)
  · obtain ⟨a, dx, p, v1, v2, d1, d2, rfl, _⟩ := h
    rfl
  · obtain ⟨a, dx, p, v1, v2, d1, d2, rfl, ha, h1, hf1, h2, hf2, kF, kT, kQ⟩ := h
    have hr2 : Room 2 _ := hr.mono (by decide)
    refine ⟨_, pss_cons (ps_if (pt_not (pt_val (pe_call (E := E0) GF hr2 rfl DF.mgf DF.kp DF.bd .nil pass0 (pa_cons (pv 1) pa_nil)))) (pss_one (ps_raiseErr rfl TF fld_value hr (show 1 ≤ 3 by decide) (takes_of rfl rfl rfl rfl) (by exact (pa_cons (pv 1) pa_nil)) rfl)) pss_nil)
      (pss_cons (ps_set (i := 3) sc_init.nd rfl (Or.inl rfl) (pe_call (E := E0) GK hr rfl DK.mgf DK.kp DK.bd .nil pass0 (pa_cons (pv 1) (pa_cons (pv 2) pa_nil))))
      (pss_cons (ps_if (pt_cmp (pc_isN (pv 3))) (pss_one (ps_raiseErr rfl TT fld_value hr (show 1 ≤ 3 by decide) (takes_of rfl rfl rfl rfl) (by exact (pa_cons (pv 2) pa_nil)) rfl)) pss_nil)
      (PSs.nox (pss_cons (ps_fld (pv 0) (pv 1) rfl)
      (pss_one (ps_fld (pv 0) (pv 3) rfl)))))), ?_⟩
    refine ⟨_, rfl, v1, d1, p, rfl, h1, fit.text hf1, fun H1 s1 => ⟨_, rfl, ?_⟩⟩
    cases hF : fontD d1 with
    | false =>
      have b : badD d1 d2 = some true := by
        unfold badD
        cases d1 <;> first | rfl | (dsimp only; rw [if_neg (by rw [hF]; decide)])
      exact iteT ⟨_, rfl, _, rfl, fun dd hdd => (kF b).at s1 hdd⟩
    | true =>
      obtain ⟨S, rfl⟩ : ∃ S, d1 = .str S := by
        cases d1 with
        | str z => exact ⟨z, rfl⟩
        | _ => cases hF
      cases h1
      have hlen : S.length ≤ 10 := by
        rw [fontD_str, Bool.and_eq_true, decide_eq_true_eq] at hF
        exact hF.1.2
      refine iteF ?_
      refine ⟨_, rfl, _, rfl, S, v2, d2, p, rfl, h2.but (.of s1), hf2, Nat.le_trans hlen (by decide), fun hK => ?_, fun ps hK H2 r ys s2 f2 hr2 hP2 => ?_⟩
      · intro H2 s2
        have b : badD (.str S) d2 = some false := by
          unfold badD
          dsimp only
          rw [if_pos hF, hK]
          rfl
        exact ⟨_, rfl, _, rfl, iteT ⟨_, rfl, _, rfl, fun dd hdd => (kT b).at (s1.trans s2) hdd⟩⟩
      · have b : badD (.str S) d2 = none := by
          unfold badD
          dsimp only
          rw [if_pos hF, hK]
          rfl
        have s12 : Same H H2 := s1.trans s2
        have ha2 := s12 _ _ ha
        refine ⟨_, rfl, _, rfl, iteF ?_⟩
        refine ⟨_, rfl, _, rfl, a, C, dx, [], rfl, ha2, c, n1, by decide, ?_⟩
        have w3 : Wr H2 a (.ins C dx (putF "_signs" (.str S) [])) (upd H2 a (.ins C dx (putF "_signs" (.str S) []))) := .mk'
        generalize upd H2 a (HO.ins C dx (putF "_signs" (V.str S) [])) = H3 at w3 ⊢
        refine ⟨_, rfl, _, rfl, a, C, dx, _, rfl, w3.here, c, n2, (show 1 < 1000 by decide), ?_⟩
        exact kQ b _ (((But.of s12).trans w3.but).trans (Wr.but .mk'))
end
end My
end
section
set_option Elab.async false
set_option linter.all false
set_option maxRecDepth 100000
set_option maxHeartbeats 4000000
namespace My
open PySem PySem.Spec PyProof.Rows L2
section
variable {X : Cx} {CX : CXT} {k i : Nat} {C f p g : Addr} {mc : Value} {fd : FuncData} {ps : List Str} {sp : Sp} {dvs : List V} {ds : List Value} {E : XK} {x m : Str} {np pos apos : Pos} {o e : Expr} {es : List Expr} {ta : TE} {t : TA}
/-- c(a, ..), the name c a local that holds the class at C -/
def tMakeL (i : Nat) (C : Addr) (sp : Sp) (dvs : List V) (E : XK) (t : TA) : TE := fun σ H Q => σ[i]? = some (some (.ref C)) ∧ tMake C sp dvs E t σ H Q
theorem pe_makeL (M : Mk X.K C f) (F : FnOk X.prog X.w X.K X.mg X.base CX k f fd ps sp) (hr : Room (k + 1) X.A) (hN : X.N[i]? = some x) (hv : Vis X.env.scope x) (hb : Binds X.K fd ps ds) (hd : Vals dvs ds) (hx : Passes CX X E) (ha : PA X (e :: es) t)
    (hdb : (x == ("__debug__" : Str)) = false := by decide) (hcd : (x == ("__classdict__" : Str)) = false := by decide)
    (he : starEach (e :: es) X.env = (false, eval e X.env) :: starEach es X.env := by rfl) (hpl : (backTo pos (starEach es X.env)).any (·.1) = false := by rfl) :
    PE X (.Call (.Name x np) (e :: es) [] pos) (tMakeL i C sp dvs E t) := by
  refine ⟨fun pins s σ H Q I h => ?_⟩
  obtain ⟨hs, ht⟩ := h
  refine wpAny_Call_Name_kw (thn ((pe_var (pos := np) hN hv hdb hcd).run pins s σ H (fun v H1 => v = .ref C ∧ H1 = H) I ⟨.ref C, hs, rfl, rfl⟩) fun u s1 ⟨v, H1, I1, r1, q1⟩ => ?_)
  obtain ⟨rfl, rfl⟩ := q1
  cases r1
  refine PySem.W.callWith_K (h₀ := X.base) I.ok.mod.kin M.kp (thn (ha.run pos pins s1 σ _ _ I1 ht) fun us s2 ⟨vs, H2, I2, r, q⟩ => ⟨I2.kIn, ?_⟩) he hpl
  exact run_make M F hr hb hd hx I2 r q
/-- C.m(), m a classmethod -/
theorem pe_cmeth0 {pl : Sem Bool} (he : PE X o ta) (r : ClX.CRead X.K C mc) (c : ClX.CMet X.K C mc m p g) (F : FnR X.prog X.w X.K X.mg X.base CX k g sp) (hr : Room k X.A) (hx : Passes CX X E)
    (ht : eval (.Call (.Attribute o m apos) [] [] pos) X.env = (do
      let ov ← eval o X.env
      standAt apos.atName
      let (f, first) ← holding [ov] (getMethod ov m pl)
      callWith pos f first (backTo pos (starEach [] X.env)) (backToKw pos (keywordEach [] X.env))) := by rfl) :
    PE X (.Call (.Attribute o m apos) [] [] pos) (ClX.tCMeth C sp E ta tNil) := by
  refine ⟨fun pins s σ H Q I h => ?_⟩
  refine PySem.W.methodCall_KW (pl := pl) (thn (he.run pins s σ H _ I h) fun u s1 ⟨x, H1, I1, rx, ex, q⟩ => ?_) ht
  subst ex
  obtain rfl : u = Value.ref C := rx
  refine ClX.getmethcm_ok I1 r c fun s2 I2 => ?_
  have at_ : PySem.W.MethP X.K s1.heap.objs.size g (.ref C) s2.heap := ⟨ClX.pin_at I2, I2.kIn⟩
  exact PySem.W.callWith_M0 (first := []) at_ c.fi (ClX.run_cm (us := []) (vs := []) F hr hx I2 .nil q)
end
end My
end
section
set_option Elab.async false
set_option linter.all false
set_option maxRecDepth 100000
set_option maxHeartbeats 4000000
/-! D2: Font.of with what it raises. -/
namespace My
open PySem PySem.Spec PyProof.Rows L2
abbrev s_of : Stmt := inCls s_cls 3
/-- the text of these signs -/
abbrev mkS (l : List Nat) : Str := ⟨l.toArray⟩
theorem mkS_len (l : List Nat) : (mkS l).length = l.length := List.size_toArray
theorem Same.free {H H1 : Hp} {a : Addr} (s : Same H H1) (f : H1 a = none) : H a = none := by
  cases e : H a with
  | none => rfl
  | some o => have := s _ _ e; rw [f] at this; cases this
theorem Err.up {E : XK} {U : Addr} {v : V} {H H1 : Hp} (h : Err E U v H) (s : Same H H1) : Err E U v H1 := fun H' dd s2 f e => h H' dd (L2.Same.trans s s2) (My.Same.free s f) e
theorem made_same {H H' : Hp} {C x dx : Addr} (hx : H x = none) (hdx : H dx = none) (b : But x (upd (upd H dx (.own x)) x (.ins C dx [])) H') : Same H H' := fun q o e =>
  b q o (ne_of_none e hx) (by rw [upd_ne (ne_of_none e hx), upd_ne (ne_of_none e hdx)]; exact e)
theorem made_up {H : Hp} {C x dx : Addr} (hx : H x = none) (hdx : H dx = none) : Same H (upd (upd H dx (.own x)) x (.ins C dx [])) := fun q o e => by
  rw [upd_ne (ne_of_none e hx), upd_ne (ne_of_none e hdx)]
  exact e
theorem bad_nil (S : Str) : badD (.str S) (.tuple []) = some true ∨ badD (.str S) (.tuple []) = none := by
  unfold badD
  dsimp only
  by_cases h : fontD (.str S) = true
  · rw [if_pos h]
    exact .inr rfl
  · rw [if_neg h]
    exact .inl rfl
/-- a text of one sign -/
def oneV : V → Bool
  | .str z => decide (z.length = 1)
  | _ => false
theorem all_one : ∀ {xs : List V}, xs.all oneV = true → ∃ l : List Nat, xs = l.map sg := by
  intro xs
  induction xs with
  | nil => intro _; exact ⟨[], rfl⟩
  | cons x xs ih =>
    intro h
    rw [List.all_cons, Bool.and_eq_true] at h
    obtain ⟨l, rfl⟩ := ih h.2
    cases x with
    | str z =>
      obtain ⟨c, rfl⟩ := one_sign (of_decide_eq_true h.1)
      exact ⟨c :: l, rfl⟩
    | _ => cases h.1
theorem one_all : ∀ l : List Nat, (l.map sg).all oneV = true := by
  intro l
  induction l with
  | nil => rfl
  | cons c l ih =>
    rw [List.map_cons, List.all_cons, ih, Bool.and_true]
    rfl
def sp_ofXB (K : PySem.W.Frag) (C IF : Addr) : Sp := fun vs H Q E => ∃ (q p : Addr) (xs : List V) (ds : List PyData), vs = [.ref C, .ref q] ∧ H q = some (.tup xs) ∧ RpAll K p H false xs ds ∧ fitAll ds = true ∧ ds.length ≤ 10 ∧
  (xs.all oneV = false → Err E IF (.ref q) H) ∧ ∀ l : List Nat, xs = l.map sg → (badD (.str (mkS l)) (.tuple []) = some true → Err E IF (.str (mkS l)) H) ∧ (badD (.str (mkS l)) (.tuple []) = none → ∀ H' a, Same H H' → Q (.ref a) H')
def sp_ofX (K : PySem.W.Frag) (C IF : Addr) : Sp := fun vs H Q E => ∃ (p : Addr) (xs : List V) (ds : List PyData), vs = .ref C :: xs ∧ RpAll K p H false xs ds ∧ fitAll ds = true ∧ ds.length ≤ 10 ∧
  (xs.all oneV = false → ∀ q H1, New H q (.tup xs) H1 → Err E IF (.ref q) H1) ∧ ∀ l : List Nat, xs = l.map sg → (badD (.str (mkS l)) (.tuple []) = some true → Err E IF (.str (mkS l)) H) ∧ (badD (.str (mkS l)) (.tuple []) = none → ∀ H' a, Same H H' → Q (.ref a) H')
theorem call_isiK {X : Cx} {K : PySem.W.Frag} (h : X.K = K) : CallR X (.builtin "isinstance") (rIsi K) := h ▸ call_isi
section
variable {P : Program} {w : World} {K : PySem.W.Frag} {mg : Str → Option Value} {base : Heap}
theorem sc_of : FnScope ["cls", "signs", "sign"] ["cls", "signs"] (defScope s_of) := ⟨rfl, rfl, rfl, by decide +kernel, rfl, by decide +kernel, by decide +kernel⟩
theorem der_ofX {f fI C IF IT t0 fIF : Addr} {fdI : FuncData} {cdv : Value} {A : Around} {outer : List Env} {s : Shared} {H : Hp} {vs : List V} {Q : VK} {E : XK} (T : TB mg) (M : Mk K C fI) (G : FnOk P w K mg base (L2.CX P w) 4 fI fdI ["self", "signs", "turns"] (sp_initX K C IF IT)) (b : Binds K fdI ["self", "signs", "turns"] [.ref t0]) (ht0 : KEmp K t0)
    (TF : VErr K mg "InvalidFont" "InvalidFont.__init__" IF fIF) (hr : Room 5 (A.deeper (envOfC "Font.of" (defScope s_of) s.heap.objs.size f cdv))) (h : sp_ofXB K C IF vs H Q E) :
    ∃ t, PSs (cxOf (L2.CX P w) P w K mg base ["cls", "signs", "sign"] "Font.of" (defScope s_of) f cdv A outer s H E) (defBody s_of) t ∧ t { nx := fun _ H' => Q .non H', rt := Q } (L2.start ["cls", "signs", "sign"] vs) H := by
  obtain ⟨q, p, xs, ds, rfl, hq, hx, hf, hl, kE, kQ⟩ := h
  have hxl := hx.len
  refine ⟨_, pss_cons (ps_if (pt_not (pt_val (pe_callB (cr_all rfl) (by rfl) T.all (by decide +kernel) (pa_cons (pe_lc (own := [("sign", 2)]) (g := gName 2) (tt := tYes) rfl sc_of.nd (pi_tup (pv 1)) (blkOk_by (own := [("sign", 2)]) (N := ["cls", "signs", "sign"]) (sc := defScope s_of) (by decide +kernel))
      (fun _ _ _ _ _ => pg_name (i := 2) sc_of.nd rfl (Or.inl rfl)) (fun _ _ _ _ _ => pts_nil)
      (fun _ _ _ _ _ => pe_and (pe_callB (id := "isinstance") (call_isiK (K := K) (by rfl)) (by rfl) T.isi (by decide +kernel) (pa_cons (pv 2) (pa_cons (pe_bltn (v := .ty "str") (by rfl) T.str (by decide +kernel) rfl) pa_nil))) (pe_one (pe_cmpR op_eq (pe_callB call_len_str (by rfl) T.len PySem.boot_len (pa_cons (pv 2) pa_nil)) pe_int (nomark _))))) pa_nil)))) (pss_one (ps_raiseErr rfl TF fld_value hr (show 1 ≤ 5 by decide) (takes_of rfl rfl rfl rfl) (by exact (pa_cons (pv 1) pa_nil)) rfl)) pss_nil)
    (pss_one (ps_ret (pe_makeL (i := 0) (dvs := [.ref t0]) M G hr rfl (by first | exact Or.inl rfl | exact Or.inr (Or.inl rfl)) b (.cons rfl .nil) (passes_call (takes_of rfl rfl rfl rfl) (fun _ _ _ _ h => h)) (pa_cons (pe_join pe_str (pv 1)) pa_nil)))), ?_⟩
  have small : xs.length < sizeLine := Nat.lt_of_le_of_lt (show xs.length ≤ 10 by omega) (by decide)
  refine ⟨_, rfl, q, rfl, ⟨_, SqT.of hq⟩, fun D hD => lc_ff walk_tup (fun _ => true) (fun x => .bl (oneV x)) hD (fun H' sm => sm.tupl (SqT.of hq)) small (fun x => rfl) (fun x H' C _ _ h => h _ (Same.refl _)) ?_ ?_⟩
  · intro x H' C hx1 _ s5 hC
    obtain ⟨j, hj⟩ := List.getElem?_of_mem hx1
    have hjl : j < ds.length := by
      have := (List.getElem?_eq_some_iff.mp hj).1
      omega
    have hd : ds[j]? = some ds[j] := List.getElem?_eq_getElem hjl
    have rp := (hx.at hj hd).but (.of s5)
    have ft := fit.text (fitAll.at hf hd)
    generalize ds[j] = d at rp ft
    refine ⟨_, rfl, _, _, _, _, _, rfl, .ty "str", rp.ty, kit_str d, _, rfl, ?_⟩
    cases hs : isStrD d with
    | false =>
      have e : oneV x = false := by
        cases rp <;> first | rfl | cases hs
      rw [e] at hC
      exact iteF (hC H' (Same.refl _))
    | true =>
      cases rp <;> first | cases hs | skip
      rename_i z
      refine iteT ⟨_, rfl, z, rfl, Nat.le_trans (show z.length ≤ 4000 from ft) (by decide), rfl, ?_⟩
      have e : decide (V.int (z.length : Nat) = V.int 1) = oneV (.str z) := by
        show _ = decide (z.length = 1)
        rw [decide_eq_decide]
        constructor
        · intro h
          injection h with h
          exact Int.ofNat_inj.mp h
        · intro h
          rw [h]
          rfl
      first
        | exact e ▸ hC H' (Same.refl _)
        | (have hC2 := hC H' (Same.refl _); rw [← e] at hC2; exact hC2)
  · intro H2 s2 hl2
    have hm : H2 D = some (.lst ((xs.map oneV).map V.bl)) := by
      rw [hl2, pv_filter_true, List.map_map]
      rfl
    refine ⟨D, xs.map oneV, rfl, SqL.of hm, ?_⟩
    have e : (xs.map oneV).all id = xs.all oneV := by
      rw [List.all_map]
      rfl
    rw [e]
    refine ⟨_, rfl, ?_⟩
    cases ha : xs.all oneV with
    | false => exact iteT ⟨_, rfl, _, rfl, fun dd hdd => (kE ha).at s2 hdd⟩
    | true =>
      obtain ⟨l, rfl⟩ := all_one ha
      obtain ⟨kF, kN⟩ := kQ l rfl
      rw [List.length_map] at hxl
      refine iteF ?_
      refine ⟨rfl, ⟨_, rfl⟩, _, rfl, _, q, l.map (fun c => (⟨#[c]⟩ : Str)), rfl, rfl, .inr ?_, ?_, ?_⟩
      · rw [List.map_map]
        exact s2.tupl (SqT.of hq)
      · rw [sum_ones, List.length_map]
        have : (PySem.Str.ofString "").length = 0 := by decide
        rw [this]
        omega
      · have jE : Txt.join (PySem.Str.ofString "") (l.map fun c => (⟨#[c]⟩ : Str)) = mkS l := by
          rw [TL.join_eq]
          exact join_signs _
        rw [jE]
        intro x dx hx1 hdx ne
        have up := made_up (C := C) hx1 hdx
        have fl : fit (.str (mkS l)) = true := by
          show decide ((mkS l).length ≤ 4000) = true
          rw [mkS_len]
          exact decide_eq_true (by omega)
        refine ⟨x, dx, x, .str (mkS l), .ref t0, .str (mkS l), .tuple [], rfl, upd_same, .str _ _, fl, .emp ht0, by decide, fun hb => (kF hb).up (s2.trans up), fun hb => ?_, fun hb H' bt => ⟨rfl, kN hb H' x (s2.trans (made_same hx1 hdx bt))⟩⟩
        rcases bad_nil (mkS l) with e | e <;> (rw [e] at hb; cases hb)
theorem of_RX {f fI C IF IT t0 fIF : Addr} {fdI : FuncData} {oc kV doc pm cdv ct : Value} {od an : Option Addr} {osl : Array (Option Value)} (lk : K.lookup f = some ⟨oc, od, .func (PySem.W.fnOf "of" "Font.of" (defArgs s_of) (defBody s_of) (defScope s_of) .none kV doc pm an cdv ct), osl⟩) (hcd : PySem.W.codeIn K cdv "Font.of" = true)
    (T : TB mg) (M : Mk K C fI) (G : FnOk P w K mg base (L2.CX P w) 4 fI fdI ["self", "signs", "turns"] (sp_initX K C IF IT)) (b : Binds K fdI ["self", "signs", "turns"] [.ref t0]) (ht0 : KEmp K t0) (TF : VErr K mg "InvalidFont" "InvalidFont.__init__" IF fIF) :
    FnR P w K mg base (L2.CX P w) 6 f (sp_ofX K C IF) := by
  have F := StX.fn_star (CX := L2.CX P w) (k := 5) (ps := ["cls"]) (pv := "signs") (sp := sp_ofXB K C IF) lk hcd sc_of StX.cxUp (StX.bind_star1 (B := fun us => bindArgs (PySem.W.fnOf "of" "Font.of" (defArgs s_of) (defBody s_of) (defScope s_of) .none kV doc pm an cdv ct) ⟨us, []⟩) (p1 := "cls") (pv := "signs") (fun _ => rfl) (fun _ _ _ => rfl)) (fun A outer s H vs Q E hr h => der_ofX T M G b ht0 TF hr h)
  refine F.imp fun vs H Q E h => ?_
  obtain ⟨p, xs, ds, rfl, hx, hf, hl, kE, kQ⟩ := h
  have hxl := hx.len
  refine ⟨[.ref C], xs, rfl, rfl, Nat.le_trans (show xs.length ≤ 10 by omega) (by decide), fun q hq => ?_⟩
  have n : New H q (.tup xs) (upd H q (.tup xs)) := .mk' hq
  exact ⟨q, p, xs, ds, rfl, upd_same, hx.but2 n.same, hf, hl, fun ha => kE ha q _ n, fun l hl2 => ⟨fun hb => ((kQ l hl2).1 hb).up n.same, fun hb H' a s => (kQ l hl2).2 hb H' a (n.same.trans s)⟩⟩
end
end My
end
section
set_option Elab.async false
set_option linter.all false
set_option maxRecDepth 100000
set_option maxHeartbeats 4000000
namespace My
open PySem PySem.Spec PyProof.Rows L2
/-! ### try with several clauses, each «except C as n», one name n in slot i -/
abbrev Cl : Type := Value × (Addr → Value → Option Addr → TS)
inductive Clauses (X : Cx) (n : Str) : List ExceptHandler → List Cl → Prop
  | done : Clauses X n [] []
  | more {x : Str} {c : Value} {ts : Addr → Value → Option Addr → TS} {s0 : Stmt} {rest : List Stmt} {px py : Pos} {hs : List ExceptHandler} {l : List Cl} (named : Names X x c)
      (suite : ∀ (a : Addr) (oe : Obj) (cls : Value) (d : Option Addr) (pn : List (Addr × Obj)), Zc cls d oe → (∃ vs, oe.data = .fields vs) → PSs (X.suite a ((a, oe) :: pn)) (s0 :: rest) (ts a cls d)) (tl : Clauses X n hs l) :
      Clauses X n (.ExceptHandler (some (.Name x px)) (some n) (s0 :: rest) py :: hs) ((c, ts) :: l)
/-- where the suite of a clause goes on: its name is gone -/
def bare (i : Nat) (D : Ends) : Ends := { nx := fun σ H => D.nx (σ.set i none) H, rt := D.rt, bk := fun σ H => D.bk (σ.set i none) H, ct := fun σ H => D.ct (σ.set i none) H }
def wCl (K : PySem.W.Frag) (i : Nat) (out : WX) (D : Ends) : List Cl → WX
  | [] => out
  | q :: l => fun cls d σ H => ∃ hit, PySem.W.exmOne K cls q.1 = some hit ∧ (hit = true → ∀ a, H a = none → q.2 a cls d (bare i D) (σ.set i (some (.ref a))) H) ∧ (hit = false → wCl K i out D l cls d σ H)
theorem ps_try_cl {X : Cx} {n : Str} {i : Nat} {body : List Stmt} {h1 : ExceptHandler} {hs : List ExceptHandler} {l : List Cl} {pos : Pos} {tb : WX → TS} {out : WX}
    (st : X.stack = X.env :: X.outer) (fr : X.env.frame = some X.env.locals) (nd : X.N.Nodup) (at_ : X.N[i]? = some n) (kn : X.env.kindOf n = some .local) (tk : Takes X out)
    (hb : ∀ (W : WX) (pn : List (Addr × Obj)) (xe : Value → Shared → Prop), Takes (X.tr pn xe) W → PassesOwn (model X.prog X.w) X.A X.env xe → PSs (X.tr pn xe) body (tb W)) (hc : Clauses X n (h1 :: hs) l) :
    PS X (.Try body (h1 :: hs) [] [] pos) (fun D σ H => tb (wCl X.K i out D l) D σ H) := by
  constructor
  intro pins s σ H D I want
  have okX := I.ok
  have frs_ : X.A.frames = some (X.env :: X.outer) := okX.frames.trans (congrArg some st)
  apply wpAny_Try_except
  let caught : Value → Shared → Prop := fun e t => wpAny (model X.prog X.w) X.A (noteFrame e X.env) (fun _ t2 => wpAny (model X.prog X.w) X.A (setFlight e none) (fun _ t3 => wpAny (model X.prog X.w) X.A (handleBy e X.env (h1 :: hs)) (SP X pins D) X.xe t3) X.xe t2) X.xe t
  have takes : Takes (X.tr (X.pn ++ pins) caught) (wCl X.K i out D l) := by
    intro u sU fly
    obtain ⟨a, B, sI, pins2, σ2, H2, cls, d, rfl, Jt, fresh, ups, sk, an, eos, gs, wish⟩ := fly
    have J := Jt.ofTry okX
    rw [st] at sk
    have notF : ∀ {hp : Heap} {ob : Obj} {fv : Array Value}, hp.FunFrames B (X.env :: X.outer) → hp.get? a = some ob → ob.data = .fields fv → a ∉ frs (X.env :: X.outer) := by
      intro hp ob fv ff ea ed mem
      obtain ⟨_, ob2, eb, no⟩ := ff.mem mem
      rw [Option.some.inj (ea.symm.trans eb)] at ed
      exact no _ ed
    show wpAny _ _ (noteFrame (.ref a) X.env) _ _ _
    apply Sky.land Zc.steady frs_ fr sk
    intro ha fa ua
    have Ja : Inv X pins σ2 H2 { sU with heap := ha } := J.landed fresh fa.1 (ups.trans ua) eos gs
    obtain ⟨oa, va, ea, za, da⟩ := fa.there
    have nof := notF fa.2.2.1 ea da
    have noL : a ≠ X.env.locals := by
      intro z
      apply nof
      rw [frs, List.mem_filterMap]
      exact ⟨X.env, List.mem_cons_self, fr.trans (congrArg some z.symm)⟩
    have noS : a ∉ X.fs := by
      intro mem
      obtain ⟨e, me, q⟩ := List.mem_filterMap.mp mem
      apply nof
      rw [frs, List.mem_filterMap]
      exact ⟨e, List.mem_cons_of_mem _ me, q⟩
    have Sa := Ja.suite ea da an noL noS
    suffices look : ∀ (hs' : List ExceptHandler) (l' : List Cl), Clauses X n hs' l' → wCl X.K i out D l' cls d σ2 H2 → wpAny (model X.prog X.w) X.A (handleBy (.ref a) X.env hs') (SP X pins D) X.xe { sU with heap := ha } from look _ _ hc wish
    intro hs' l' cc
    induction cc with
    | done =>
      intro wo
      apply wpAny_handleBy_nil
      obtain ⟨_, _, _, ob, fv, Tt, _, _, e1, _, e3, e4, _⟩ := id fa
      unfold PySem.passOn
      apply wpAny_bind
      apply wpAny_field e1 e3 e4
      rw [if_neg (fun z => by simp at z)]
      have leave : wpAny (model X.prog X.w) X.A (setFlight (.ref a) X.env.frame) (fun _ t => wpAny (model X.prog X.w) X.A (throw (.ref a) : Sem Flow) (SP X pins D) X.xe t) X.xe { sU with heap := ha } := by
        rw [fr]
        apply HandSPX.setFlight_upZ fa
        intro hz held uz
        apply wpAny_throw
        apply tk
        refine ⟨a, B, sI, pins, σ2, H2, cls, d, rfl, J, fresh, (ups.trans ua).trans uz, ?_, an, eos, gs, wo⟩
        rw [st]
        exact Or.inr (Or.inr held)
      first
        | exact wpAny_bind leave
        | exact wpAny_bind (wpAny_pure (wpAny_bind leave))
    | @more x c ts s0 rest px py hs2 l2 named suite tl ih =>
      intro wo
      obtain ⟨hit, e1, yes, no⟩ := wo
      refine wpAny_handleBy_cons (codeAny_handlers_test ?_) (fun q => by cases q)
      have isC : PySem.W.Looks (model X.prog X.w) ha (typeOf (.ref a)) cls := by
        intro A' Q' E' t kp q
        apply wpAny_typeOf_ref (kp _ _ ea)
        rw [za.1]
        exact q
      have ask := PySem.W.exm_one (M := model X.prog X.w) Ja.kIn isC e1
      have name_ : ∀ (Q' : Value → Shared → Prop) (E' : Value → Shared → Prop), Q' c { sU with heap := ha } → wpAny (model X.prog X.w) (X.A.mark (some (.ref a))) (eval (.Name x px) X.env) Q' E' { sU with heap := ha } := by
        intro Q' E' q
        obtain ⟨gl, nodbg, known⟩ := named
        rcases known with m1 | ⟨m1, m2, m3⟩
        · exact ld_glob (X := X.suite a ((a, oa) :: (X.pn ++ pins))) Sa gl m1 q nodbg
        · exact ld_blt (X := X.suite a ((a, oa) :: (X.pn ++ pins))) Sa gl m1 m2 q m3 nodbg
      apply name_
      apply ask.here
      cases hit with
      | false => exact ih (no rfl)
      | true =>
        apply codeAny_handlers_suite_as
        apply HandSPX.lands_againZ fa
        intro hq fq uq
        have Jq : Inv X pins σ2 H2 { sU with heap := hq } := J.landed fresh fq.1 ((ups.trans ua).trans uq) eos gs
        obtain ⟨oq, vq, eq, zq, dq⟩ := fq.there
        have Sq := Jq.suite eq dq an noL noS
        apply store_ok (X := X.suite a ((a, oq) :: (X.pn ++ pins))) (v := .ref a) Sq nd at_ (Or.inl kn) rfl ?_ (Or.inr kn)
        intro t5 S5
        have gone : ∀ {σ6 : L2.St} {H6 : Hp} {t6 : Shared} {R : Shared → Prop}, Inv (X.suite a ((a, oq) :: (X.pn ++ pins))) [] σ6 H6 t6 → (∀ t7, Inv X pins (σ6.set i none) H6 t7 → R t7) → wpAny (model X.prog X.w) X.A (do bindName X.env n .none; unbindBehindTheSuite X.env n py) (fun _ t7 => R t7) X.xe t6 := by
          intro σ6 H6 t6 R S6 q
          exact gone_ok (S6.unsuite okX) nd at_ kn q
        apply wpAny_mono ((suite a oq cls d (X.pn ++ pins) zq ⟨_, dq⟩).run [] t5 _ H2 _ S5 (yes rfl a an)) ?_ (fun _ _ z => False.elim z)
        intro fl t6 ends
        match fl, ends with
        | .next, ⟨σ6, H6, S6, q⟩ => exact gone S6 fun t7 J7 => ⟨_, _, J7, q⟩
        | .brk, ⟨σ6, H6, S6, q⟩ => exact gone S6 fun t7 J7 => ⟨_, _, J7, q⟩
        | .cont, ⟨σ6, H6, S6, q⟩ => exact gone S6 fun t7 J7 => ⟨_, _, J7, q⟩
        | .ret u, ⟨v6, σ6, H6, S6, r6, q⟩ => exact gone S6 fun t7 J7 => ⟨_, _, _, J7, r6, q⟩
  refine wpAny_mono ((hb _ (X.pn ++ pins) caught takes PassesOwn.looking).run [] s σ H D (I.toTry _) want) (fun fl t ends => ?_) (fun _ _ z => z)
  match fl, ends with
  | .next, ⟨σ', H', J', q⟩ => exact wpAny_execs_nil ⟨σ', H', J'.ofTry okX, q⟩
  | .brk, ⟨σ', H', J', q⟩ => exact ⟨σ', H', J'.ofTry okX, q⟩
  | .cont, ⟨σ', H', J', q⟩ => exact ⟨σ', H', J'.ofTry okX, q⟩
  | .ret u, ⟨v, σ', H', J', r, q⟩ => exact ⟨v, σ', H', J'.ofTry okX, r, q⟩
end My
end
section
set_option Elab.async false
set_option linter.all false
set_option maxRecDepth 100000
set_option maxHeartbeats 4000000
/-! B4: isinstance(e, c) of an own error that keeps values, whatever c answers. -/
namespace My
open PySem PySem.Spec PySem.Calls PyProof.Rows L2
open PySem.W (Frag kitOne Looks findIn subIn hasDictIn specialIn takesIn mroIn InstAt findObj)
section
variable {prog : Program} {w : World} {A : Around} {E : Value → Shared → Prop} {s : Shared} {K : Frag} {a D : Addr} {oe : Obj} {od : Option Obj}
theorem find_cls (C : ExcC K D) : findObj K D od "__class__" = some (.bind (.builtin "getset_descriptor.__get__") (.builtin "object.__class__")) := by
  obtain ⟨cd, hc, _⟩ := PySem.W.any_some C.hd
  unfold findObj
  rw [hc, Option.bind_some, C.ha, Option.bind_some]
  simp [C.hn, C.ht]
theorem cls_asked {Q : Option Value → Shared → Prop} (C : ExcC K D) (X : K.In s.heap) (I : InstAt s.heap a oe D od) (q : Q (some (.ref D)) { s with toks := s.toks + 1 }) : wpAny (model prog w) A (getAttr? (.ref a) "__class__") Q E s := by
  obtain ⟨hh, gg, dd, tk, os⟩ := s
  have isD := I.type (M := model prog w)
  have own := PySem.W.looks_findIn (M := model prog w) X C.hg
  have hook := PySem.W.looks_findIn (M := model prog w) X C.hk
  have found := PySem.W.looks_find (M := model prog w) X I (find_cls C)
  have isB : Looks (model prog w) hh (isInstance (.ref a) (.type "BaseException")) true := isD.andThen (PySem.W.looks_subIn X C.hs)
  have n0 : (false && onTheHeap (Value.builtin "BaseException.__getattribute__")) = false := rfl
  have n1 : (Value.builtin "BaseException.__getattribute__" == Value.builtin "object.__getattribute__") = false := by decide +kernel
  have n2 : (onTheHeap (Value.ref D) && Value.builtin "BaseException.__getattribute__" == Value.builtin "object.__getattribute__") = false := by
    rw [n1]
    rfl
  unfold getAttr? getAttrBy? getAttrBy
  apply wpAny_bind
  apply wpAny_mkText
  apply wpAny_bind
  apply wpAny_attempt
  apply wpAny_holding
  apply wpAny_bind
  apply isD.at
  apply wpAny_bind
  apply own.at
  show wpAny _ _ (if (onTheHeap (Value.ref D) && Value.builtin "BaseException.__getattribute__" == Value.builtin "object.__getattribute__") = true then _ else _) _ _ _
  rw [n2, if_neg Bool.false_ne_true]
  unfold getAttrByItsOwn hookBefore
  apply wpAny_bind
  rw [if_pos (show onTheHeap (Value.ref D) = true from rfl)]
  apply hook.at
  apply wpAny_bind
  apply wpAny_attempt
  apply wpAny_holding
  unfold callGetattribute
  rw [n0, if_neg Bool.false_ne_true]
  unfold boundAndCalled
  rw [PySem.F.excAttr_ValueError.ga.bind (.ref a)]
  apply wpAny_bind
  apply wpAny_pure
  show wpAny _ _ (call (.builtin "BaseException.__getattribute__") [.ref a, .str "__class__" tk]) _ _ _
  refine wpAny_call (codeAny_call_builtin PySem.F.excAttr_ValueError.ga.plain PySem.F.entry_bexc_ga ?_)
  refine @PySem.W.check_slot (model prog w) _ _ ⟨hh, gg, dd, tk + 1, os⟩ "BaseException.__getattribute__" "BaseException" "__getattribute__" (.ref a) [.str "__class__" tk] [] _ (by decide +kernel) (by decide +kernel) isB (PySem.F.args_bexc_ga (.ref a) (.str "__class__" tk)) ?_
  unfold Builtin.«object.__getattribute__»
  refine wpAny_bind (wpAny_of_eq (a := ((Value.ref a : Value), [Value.str "__class__" tk])) (by first | rfl | (simp only [slotArgs]; rfl)) ?_)
  apply wpAny_bind
  apply wpAny_pure
  apply wpAny_bind
  apply isD.at
  apply wpAny_bind
  apply found.at
  show wpAny _ _ (holding [Value.builtin "object.__class__"] (call (.builtin "getset_descriptor.__get__") [.builtin "object.__class__", .ref a, .ref D]) >>= ret) _ _ _
  apply wpAny_bind
  apply wpAny_holding
  apply wpAny_call
  apply PySem.W.class_get (s := ⟨hh, gg, dd, tk + 1, os⟩) (ox := oe) (od := od) X I C.hm
  apply wpAny_pure
  show wpAny _ _ (handedOut (.ref D)) _ _ _
  rw [PySem.W.handedOut_of (v := .ref D) rfl]
  first
    | exact wpAny_pure (wpAny_pure q)
    | exact wpAny_pure q
    | exact wpAny_pure (wpAny_bind (wpAny_pure (wpAny_pure q)))
theorem kit_err (C : ExcC K D) : PySem.W.KitX K (.ref a) (.ref D) (fun h => InstAt h a oe D od) where
  ty := fun _ _ _ I => I.type
  it := fun _ _ X _ => by
    obtain ⟨cd, hc, _⟩ := PySem.W.any_some C.hd
    unfold PySem.W.clsIn at hc
    split at hc
    · rename_i ho
      intro A' Q' E' s' kp q
      unfold isType loadHead
      apply wpAny_bind
      apply wpAny_loadPart (kp _ _ (X _ _ ho))
      exact wpAny_pure q
    · cases hc
  ne := fun h tp _ its n sl X at_ => by
    apply Bool.eq_false_iff.mpr
    intro q
    obtain rfl : D = tp := Value.ref.inj (beq_iff_eq.mp q)
    obtain ⟨cd, hc, _⟩ := PySem.W.any_some C.hd
    unfold PySem.W.clsIn at hc
    split at hc
    · rename_i ho
      have z := (X _ _ ho).symm.trans at_
      cases z
    · cases hc
  ca := fun X I k => cls_asked C X I k
end
/-- isinstance(e, c), e the error that the suite holds, of the class at cls, with its dict at d -/
def rIsN (K : Frag) (a : Addr) (cls : Value) (d : Option Addr) : List V → Hp → VK → Prop := fun xs H Q => ∃ (D dd : Addr) (fs : List (Str × V)) (c : V) (cv : Value) (b : Bool), xs = [.ref a, c] ∧ cls = .ref D ∧ d = some dd ∧ H dd = some (.xd fs) ∧ ExcC K D ∧
  (∀ u, RelV c u → u = cv) ∧ kitOne K (.ref D) cv = some b ∧ Q (.bl b) H
theorem call_isN {X : Cx} {a : Addr} {oe : Obj} {cls : Value} {d : Option Addr} {pn : List (Addr × Obj)} (hz : Zc cls d oe) (hf : ∃ vs, oe.data = .fields vs) : CallR (X.suite a ((a, oe) :: pn)) (.builtin "isinstance") (rIsN X.K a cls d) := by
  intro pins s σ H xs us Q I r h
  obtain ⟨D, dd, fs, c, cv, b, rfl, rfl, rfl, hd, C, hcv, e, q⟩ := h
  obtain ⟨u1, u2, rfl, rx, rt⟩ := vals2 r
  obtain rfl : u1 = Value.ref a := rx
  obtain rfl := hcv _ rt
  obtain ⟨here, _⟩ := I.pin (a, oe) (List.mem_append.mpr (.inl List.mem_cons_self))
  obtain ⟨vs, hv⟩ := hf
  have hx : ObjOk X.prog X.w H s.heap dd (.xd fs) := I.hok dd _ hd
  obtain ⟨mA, hns, _⟩ := hx
  obtain ⟨od, ho, _⟩ := lookIn_ns hns
  have J : InstAt s.heap a oe D (some od) := ⟨here, hz.1, by unfold PySem.W.notCls; rw [hv] <;> rfl, by rw [hz.2]; exact ho⟩
  exact PySem.W.kia_one (kit_err C) I.kIn J e (fun z => nomatch z) fun tk => ⟨.bl b, H, I.kept (t' := tk) fun _ _ z => z, rfl, q⟩
end My
end
section
set_option Elab.async false
set_option linter.all false
set_option maxRecDepth 100000
set_option maxHeartbeats 4000000
namespace My
open PySem PySem.Spec PySem.Calls PyProof.Rows L2
open PySem.W (Frag kitOne Looks)
/-! ### isinstance(e, c), c above the class of an error that a suite holds -/
theorem ans_up {K : Frag} {x t c : Value} {H : Heap → Prop} (ty : ∀ (M : Model) (h : Heap), K.In h → H h → Looks M h (typeOf x) t) (ne : (t == c) = false) (e : kitOne K t c = some true) :
    Answers (fun s => K.In s.heap ∧ H s.heap) x c true := by
  intro dep tk prog w A R s hs
  obtain ⟨h0, g, d, tt, os⟩ := s
  obtain ⟨⟨X, p⟩, hq⟩ := hs
  have isT := ty (model prog w) h0 X p
  unfold PySem.W.kitOne at e
  unfold Builtin.«isinstance.nested»
  refine wpAny_bind (isT.at ?_)
  have q : ¬ (t == c) = true := by
    rw [ne]
    exact Bool.false_ne_true
  rw [if_neg q] at e
  rw [if_neg q]
  obtain ⟨cT, cI, up⟩ := PySem.W.kit_cls (M := model prog w) X e
  have inst : Looks (model prog w) h0 (isInstance x c) true := isT.andThen up
  refine wpAny_bind (cT.at ?_)
  rw [if_pos (by decide)]
  k_delta "plainIsInstance"
  refine wpAny_bind (wpAny_bind (cI.at ?_))
  simp only [Bool.not_true, Bool.false_eq_true, if_false]
  refine wpAny_bind (inst.at ?_)
  first
    | exact wpAny_pure (wpAny_pure (hq tt))
    | (simp only [if_true]
       first
         | exact wpAny_pure (wpAny_pure (hq tt))
         | exact wpAny_pure (hq tt)
         | exact wpAny_bind (wpAny_pure (wpAny_pure (hq tt))))
/-- isinstance(e, c), e the error that the suite holds, of the class at cls, c above it -/
def rIsUp (K : Frag) (a : Addr) (cls : Value) : List V → Hp → VK → Prop := fun xs H Q => ∃ (c : V) (cv : Value), xs = [.ref a, c] ∧ (∀ u, RelV c u → u = cv) ∧ kitOne K cls cv = some true ∧ (cls == cv) = false ∧ Q (.bl true) H
theorem call_isUp {X : Cx} {a : Addr} {oe : Obj} {cls : Value} {d : Option Addr} {pn : List (Addr × Obj)} (hz : Zc cls d oe) : CallR (X.suite a ((a, oe) :: pn)) (.builtin "isinstance") (rIsUp X.K a cls) := by
  intro pins s σ H xs us Q I r h
  obtain ⟨c, cv, rfl, hcv, e, ne, q⟩ := h
  obtain ⟨u1, u2, rfl, rx, rt⟩ := vals2 r
  obtain rfl : u1 = Value.ref a := rx
  obtain rfl := hcv _ rt
  obtain ⟨here, _⟩ := I.pin (a, oe) (List.mem_append.mpr (.inl List.mem_cons_self))
  have ty : ∀ (M : Model) (h : Heap), X.K.In h → h.get? a = some oe → Looks M h (typeOf (.ref a)) cls := fun M h _ g => hz.1 ▸ (PySem.W.Looks.ld g).andThen .now
  exact call_isinstance (S := fun _ R s => (X.K.In s.heap ∧ s.heap.get? a = some oe) ∧ ∀ tk, R (.ok (.ret (.bool true))) { s with toks := tk })
    (fun prog w A R s hs => isinstance_outer (ans_up (H := fun h => h.get? a = some oe) ty ne e 0 _ prog w A R s hs) (fun z => nomatch z)) ⟨⟨I.kIn, here⟩, fun tk => ⟨.bl true, H, I.kept (t' := tk) fun _ _ z => z, rfl, q⟩⟩
end My
end
section
set_option Elab.async false
set_option linter.all false
set_option maxRecDepth 100000
set_option maxHeartbeats 4000000
/-! D3: _law_refused. -/
namespace My
open PySem PySem.Spec PyProof.Rows L2 LamX
abbrev s_refused : Stmt := topS 24
/-- (word, the error's value) -/
def Told (word : Str) (U : Addr) (cls : Value) (d : Option Addr) (H' : Hp) (Q : VK) : Prop := cls = .ref U ∧ ∃ (dd : Addr) (v : V), d = some dd ∧ H' dd = some (.xd [("value", v)]) ∧ ∀ p H2, New H' p (.tup [.str word, v]) H2 → Q (.ref p) H2
/-- what a law makes of a call: the word and the value of an error, or None -/
def TTref (IF IT : Addr) : (XK → Hp → VK → Prop) → Hp → VK → Prop := fun tl H Q => tl (fun cls d H' => Told "font" IF cls d H' Q ∨ Told "turns" IT cls d H' Q) H (fun _ H' => Q .non H')
theorem takes_len {X : Cx} {W : WX} (t : Takes X W) : Takes X (fun c d σ H => σ.length = X.N.length → W c d σ H) := fun u s' ⟨a, B, sI, pins, σ, H, cls, d, e, I, nb, up, sky, na, os, ag, w⟩ =>
  t u s' ⟨a, B, sI, pins, σ, H, cls, d, e, I, nb, up, sky, na, os, ag, w I.len⟩
theorem set_at1 {σ : L2.St} {x : Option V} (h : σ.length = 2) : (σ.set 1 x)[1]? = some x := by
  rw [List.getElem?_set_self (by omega)]
theorem sc_refused : FnScope ["_law_call", "e"] ["_law_call"] (defScope s_refused) := ⟨rfl, rfl, rfl, by decide +kernel, rfl, by decide +kernel, by decide +kernel⟩
theorem refused_gives {X : Cx} {g IF IT fIF fIT : Addr} {cdg : Value} {q : Str} (TF : VErr X.K X.mg "InvalidFont" "InvalidFont.__init__" IF fIF) (TT : VErr X.K X.mg "InvalidTurns" "InvalidTurns.__init__" IT fIT) (hi : X.mg "isinstance" = none) (hk : X.mg "ValueError" = none)
    (upF : PySem.W.kitOne X.K (.ref IF) (.type "ValueError") = some true) (upT : PySem.W.kitOne X.K (.ref IT) (.type "ValueError") = some true) (no : PySem.W.kitOne X.K (.ref IF) (.ref IT) = some false) (no2 : PySem.W.exmOne X.K (.ref IT) (.ref IF) = some false) (CF : ExcC X.K IF) :
    GivesTo X ["_law_call", "e"] "_law_refused" (defScope s_refused) g cdg (defBody s_refused) "_law_call" q (TTref IF IT) := by
  intro f c' s H Q tl act hc h
  refine ⟨_, pss_cons (ps_try_cl (X := (cxOf C8.CX0 X.prog X.w X.K X.mg X.base ["_law_call", "e"] "_law_refused" (defScope s_refused) g cdg X.A X.stack s H C8.E0).nox) (n := "e") (i := 1) (out := fun _ _ _ _ => False)
      (tb := fun W D σ H => ∃ Ech : XK, (∀ cls d σ' H', Ech cls d H' → σ'.length = 2 → W cls d σ' H') ∧ σ[0]? = some (some (.ref f)) ∧ H c' = some (CodeO c' q) ∧ tl Ech H (fun _ H' => D.nx σ H'))
      rfl rfl sc_refused.nd rfl rfl L2.takes0 (fun W pn xe tk _ => ?B)
      (.more (c := .ref IF) ⟨(by rfl), (by decide), .inl TF.gC⟩ (fun a oe cls d pn hz hf => pss_one (ps_ret (pe_ifExp (PW.pt (pw_and (pt_val (pe_callB (id := "isinstance") (call_isN hz hf) (by rfl) hi (by decide +kernel) (pa_cons (pv 1) (pa_cons (pe_bltn (v := .ty "ValueError") (by rfl) hk (by decide +kernel) rfl) pa_nil))))
          (pw_and1 (pt_not (pt_val (pe_callB (id := "isinstance") (call_isN hz hf) (by rfl) hi (by decide +kernel) (pa_cons (pv 1) (pa_cons (pe_glob (v := .ref IT) rfl TT.gC rfl) pa_nil))))))))
        (pe_tup' (pa_cons pe_str (pa_cons (pe_errF TF hz hf (pv 1)) pa_nil))) pe_non)))
      (.more (c := .ref IT) ⟨(by rfl), (by decide), .inl TT.gC⟩ (fun a oe cls d pn hz hf => pss_one (ps_ret (pe_ifExp (pt_val (pe_callB (id := "isinstance") (call_isUp hz) (by rfl) hi (by decide +kernel) (pa_cons (pv 1) (pa_cons (pe_bltn (v := .ty "ValueError") (by rfl) hk (by decide +kernel) rfl) pa_nil))))
        (pe_tup' (pa_cons pe_str (pa_cons (pe_errF TT hz hf (pv 1)) pa_nil))) pe_non))) .done)))
    (pss_one (ps_ret pe_non)), ?_⟩
  case B =>
    refine ⟨fun pins s' σ H' D I h' => ?_⟩
    obtain ⟨Ech, hW, h1, h2, h3⟩ := h'
    exact (pss_one (ps_expr (act _ pn xe Ech _ _ (takes_len tk) hW))).run pins s' σ H' D I ⟨h1, h2, h3⟩
  · refine ⟨fun cls d H' => Told "font" IF cls d H' Q ∨ Told "turns" IT cls d H' Q, fun cls d σ' H' told hl => ?_, rfl, hc, h⟩
    rcases told with ⟨rfl, dd, v, rfl, hv, k⟩ | ⟨rfl, dd, v, rfl, hv, k⟩
    · refine ⟨true, TF.te, fun _ a0 _ => ?_, fun z => Bool.noConfusion z⟩
      refine ⟨.ref a0, set_at1 hl, IF, dd, _, .ty "ValueError", .type "ValueError", true, rfl, rfl, rfl, hv, CF, fun u hu => hu, upF, _, rfl, iteT ?_⟩
      refine ⟨.ref a0, set_at1 hl, IF, dd, _, .ref IT, .ref IT, false, rfl, rfl, rfl, hv, CF, fun u hu => hu, no, _, rfl, iteT ?_⟩
      exact ⟨.ref a0, set_at1 hl, rfl, rfl, dd, v, rfl, hv, by show 2 ≤ sizeLine; decide, fun p H2 n2 => k p H2 n2⟩
    · refine ⟨false, no2, fun z => Bool.noConfusion z, fun _ => ⟨true, TT.te, fun _ a0 _ => ?_, fun z => Bool.noConfusion z⟩⟩
      refine ⟨.ref a0, set_at1 hl, .ty "ValueError", .type "ValueError", rfl, fun u hu => hu, upT, rfl, _, rfl, iteT ?_⟩
      exact ⟨.ref a0, set_at1 hl, rfl, rfl, dd, v, rfl, hv, by show 2 ≤ sizeLine; decide, fun p H2 n2 => k p H2 n2⟩
end My
end
section
set_option Elab.async false
set_option linter.all false
set_option maxRecDepth 100000
set_option maxHeartbeats 4000000
/-! D4: mathematics of turns: when they are kept. -/
namespace My
open PySem PySem.Spec PyProof.Rows L2
def pairD (e : Nat × Nat) : PyData := .tuple [.str ⟨#[e.1]⟩, .str ⟨#[e.2]⟩]
theorem pair_self {S : Str} {e : Nat × Nat} (h : e.1 ∈ S.cps.toList ∧ e.2 ∈ S.cps.toList) : pairOf S (pairD e) = some e := by
  have one : ∀ c ∈ S.cps.toList, signD S (.str ⟨#[c]⟩) = true := by
    intro c hc
    rw [signD_str]
    have l1 : (⟨#[c]⟩ : Str).length = 1 := rfl
    rw [decide_eq_true l1, Bool.true_and]
    simpa using hc
  have y : (pairOf S (pairD e)).isSome = true := by
    unfold pairD
    rw [pairOf_two, one _ h.1, one _ h.2]
    rfl
  obtain ⟨⟨a, b⟩, q⟩ := Option.isSome_iff_exists.mp y
  obtain ⟨e1, _, _⟩ := pairOf_some q
  rw [q]
  unfold pairD at e1
  injection e1 with e1
  injection e1 with e2 e1
  injection e1 with e3 _
  injection e2 with e2
  injection e3 with e3
  rw [← sign_inj.mp e2, ← sign_inj.mp e3]
theorem heads_bad {S : Str} : ∀ (ds : List PyData) (h : List (Nat × Nat)), (∃ d ∈ ds, pairOf S d = none) → headsFrom S h ds = none := by
  intro ds
  induction ds with
  | nil =>
    rintro h ⟨d, hd, _⟩
    cases hd
  | cons d ds ih =>
    rintro h ⟨d', hd', e⟩
    rw [headsFrom_cons]
    cases q : pairOf S d with
    | none => rfl
    | some ab =>
      obtain ⟨a, b⟩ := ab
      have : ∃ d ∈ ds, pairOf S d = none := by
        rcases List.mem_cons.mp hd' with rfl | m
        · rw [q] at e
          cases e
        · exact ⟨d', m, e⟩
      show (if ((headOf h a).isSome || (headOf h b).isSome) = true then none else headsFrom S (putN (putN h a b) b a) ds) = none
      rw [ih _ this]
      split <;> rfl
theorem spread_mem {e : Nat × Nat} {c : Nat} : c ∈ spread e ↔ c = e.1 ∨ c = e.2 := by
  unfold spread
  split
  · rename_i h
    rw [List.mem_singleton, ← h]
    exact (or_self_iff).symm
  · simp
theorem spread_nd (e : Nat × Nat) : (spread e).Nodup := by
  unfold spread
  split
  · simp
  · rename_i h
    simp [h]
theorem heads_nd {S : Str} : ∀ (ps h : List (Nat × Nat)), (∀ e ∈ ps, e.1 ∈ S.cps.toList ∧ e.2 ∈ S.cps.toList) → ((headsFrom S h (ps.map pairD)).isSome = true ↔ (ps.flatMap spread).Nodup ∧ ∀ c ∈ ps.flatMap spread, headOf h c = none) := by
  intro ps
  induction ps with
  | nil =>
    intro h _
    refine ⟨fun _ => ⟨List.nodup_nil, fun c hc => by cases hc⟩, fun _ => rfl⟩
  | cons e ps ih =>
    intro h m
    obtain ⟨a, b⟩ := e
    have e1 : headsFrom S h (((a, b) :: ps).map pairD) = if ((headOf h a).isSome || (headOf h b).isSome) = true then none else headsFrom S (putN (putN h a b) b a) (ps.map pairD) := by
      rw [List.map_cons, headsFrom_cons, pair_self (m _ List.mem_cons_self)]
    rw [e1, List.flatMap_cons, List.nodup_append]
    have inA : a ∈ spread (a, b) := spread_mem.mpr (.inl rfl)
    have inB : b ∈ spread (a, b) := spread_mem.mpr (.inr rfl)
    by_cases hb : ((headOf h a).isSome || (headOf h b).isSome) = true
    · rw [if_pos hb]
      refine ⟨(fun z => by cases z), fun ⟨_, f⟩ => ?_⟩
      rw [f a (List.mem_append_left _ inA), f b (List.mem_append_left _ inB)] at hb
      cases hb
    · rw [if_neg hb, ih _ fun e he => m e (List.mem_cons_of_mem _ he)]
      have ha0 : headOf h a = none := by
        cases q : headOf h a with
        | none => rfl
        | some _ => rw [q] at hb; exact absurd rfl hb
      have hb0 : headOf h b = none := by
        cases q : headOf h b with
        | none => rfl
        | some _ => rw [q, Option.isSome_some, Bool.or_true] at hb; exact absurd rfl hb
      have put : ∀ c, headOf (putN (putN h a b) b a) c = none ↔ c ≠ a ∧ c ≠ b ∧ headOf h c = none := by
        intro c
        rw [headOf_putN, headOf_putN]
        by_cases c1 : c = b
        · rw [if_pos c1]
          exact ⟨(fun z => by cases z), fun z => absurd c1 z.2.1⟩
        · rw [if_neg c1]
          by_cases c2 : c = a
          · rw [if_pos c2]
            exact ⟨(fun z => by cases z), fun z => absurd c2 z.1⟩
          · rw [if_neg c2]
            exact ⟨fun z => ⟨c2, c1, z⟩, fun z => z.2.2⟩
      constructor
      · rintro ⟨n, f⟩
        refine ⟨⟨spread_nd _, n, fun x hx y hy e => ?_⟩, fun c hc => ?_⟩
        · have := (put y).mp (f y hy)
          rcases spread_mem.mp hx with q | q
          · exact this.1 (e ▸ q)
          · exact this.2.1 (e ▸ q)
        · rcases List.mem_append.mp hc with q | q
          · rcases spread_mem.mp q with q | q
            · rw [q]; exact ha0
            · rw [q]; exact hb0
          · exact ((put c).mp (f c q)).2.2
      · rintro ⟨⟨_, n, dis⟩, f⟩
        exact ⟨n, fun c hc => (put c).mpr ⟨fun e => dis a inA c hc e.symm, fun e => dis b inB c hc e.symm, f c (List.mem_append_right _ hc)⟩⟩
theorem kept_some {S : Str} {ps : List (Nat × Nat)} {d : PyData} (m : ∀ e ∈ ps, e.1 ∈ S.cps.toList ∧ e.2 ∈ S.cps.toList) (hd : d = .list (ps.map pairD) ∨ d = .tuple (ps.map pairD)) : (keptD S d).isSome = true ↔ (ps.flatMap spread).Nodup := by
  have e : keptD S d = (headsFrom S [] (ps.map pairD)).map (dueOf S) := by
    rcases hd with rfl | rfl <;> rfl
  rw [e, Option.isSome_map, heads_nd ps [] m]
  exact ⟨fun z => z.1, fun z => ⟨z, fun _ _ => rfl⟩⟩
theorem kept_bad {S : Str} {ds : List PyData} {d : PyData} (b : ∃ d ∈ ds, pairOf S d = none) (hd : d = .list ds ∨ d = .tuple ds) : keptD S d = none := by
  have e : keptD S d = (headsFrom S [] ds).map (dueOf S) := by
    rcases hd with rfl | rfl <;> rfl
  rw [e, heads_bad ds [] b]
  rfl
/-- the texts of signs -/
abbrev sgs (l : List Nat) : List Str := l.map fun c => (⟨#[c]⟩ : Str)
theorem sgs_nd (l : List Nat) : (sgs l).Nodup ↔ l.Nodup := by
  unfold List.Nodup
  rw [List.pairwise_map]
  constructor
  · exact fun h => h.imp fun {a b} n e => n (by rw [e])
  · exact fun h => h.imp fun {a b} n e => n (sign_inj.mp e)
theorem sgs_mem {l : List Nat} {z : Str} : z ∈ sgs l ↔ ∃ c ∈ l, z = ⟨#[c]⟩ := by
  rw [List.mem_map]
  exact ⟨fun ⟨c, h, e⟩ => ⟨c, h, e.symm⟩, fun ⟨c, h, e⟩ => ⟨c, h, e.symm⟩⟩
theorem spread_perm {a b : Nat} {zs : List Str} (nd : zs.Nodup) (m : ∀ z, z ∈ zs ↔ z ∈ [(⟨#[a]⟩ : Str), ⟨#[b]⟩]) : zs.Perm (sgs (spread (a, b))) := by
  refine (List.perm_ext_iff_of_nodup nd ((sgs_nd _).mpr (spread_nd _))).mpr fun z => ?_
  rw [m z, sgs_mem]
  constructor
  · intro h
    rcases List.mem_cons.mp h with e | h
    · exact ⟨a, spread_mem.mpr (.inl rfl), e⟩
    · exact ⟨b, spread_mem.mpr (.inr rfl), List.mem_singleton.mp h⟩
  · rintro ⟨c, hc, rfl⟩
    rcases spread_mem.mp hc with e | e
    · rw [e]; exact List.mem_cons_self
    · rw [e]; exact List.mem_cons_of_mem _ List.mem_cons_self
end My
end
section
set_option Elab.async false
set_option linter.all false
set_option maxRecDepth 100000
set_option maxHeartbeats 4000000
/-! D5: _law_due. -/
namespace My
open PySem PySem.Spec PyProof.Rows L2
abbrev s_due : Stmt := topS 25
/-- xs.extend(ys) -/
def qExt : V → List V → Hp → VK → Prop := fun x vs H Q => ∃ l b xs zs, x = .ref l ∧ vs = [.ref b] ∧ H l = some (.lst xs) ∧ H b = some (.lst zs) ∧ xs.length + zs.length ≤ sizeLine ∧ ∀ H', Wr H l (.lst (xs ++ zs)) H' → Q .non H'
theorem mt_extend' {X : Cx} : MtM X "list.extend" qExt := MtM.weak mt_extend fun x vs H Q q => by
  obtain ⟨l, b, xs, zs, e1, e2, h1, h2, hl, k⟩ := q
  exact ⟨l, b, xs, zs, e1, e2, h1, h2, hl, k _ .mk'⟩
/-- (word, v), new -/
def Due (word : Str) (v : V) (H : Hp) (Q : VK) : Prop := ∀ H' r, Same H H' → H r = none → H' r = some (.tup [.str word, v]) → Q (.ref r) H'
theorem Due.at {word : Str} {v : V} {H H1 : Hp} {Q : VK} (d : Due word v H Q) (s : Same H H1) {t : TA} {σ : L2.St} (h : ∀ C : List V → Hp → Prop, C [.str word, v] H1 → t σ H1 C) : qTup t σ H1 Q :=
  h _ ⟨by show 2 ≤ sizeLine; decide, fun p H2 n2 => d H2 p (s.trans n2.same) (s.free n2.free) n2.here⟩
theorem spread_len (ps : List (Nat × Nat)) : (ps.flatMap spread).length ≤ 2 * ps.length := by
  induction ps with
  | nil => exact Nat.le_refl _
  | cons e ps ih =>
    rw [List.flatMap_cons, List.length_append, List.length_cons]
    have : (spread e).length ≤ 2 := by
      unfold spread
      split <;> simp
    omega
def sp_due (K : PySem.W.Frag) : Sp := fun vs H Q _ => ∃ (p : Addr) (v1 v2 : V) (d1 d2 : PyData), vs = [v1, v2] ∧ Rp K p H false v1 d1 ∧ fit d1 = true ∧ Rp K p H false v2 d2 ∧ fit d2 = true ∧ lenD d2 ≤ 100 ∧
  (badD d1 d2 = some true → Due "font" v1 H Q) ∧ (badD d1 d2 = some false → Due "turns" v2 H Q) ∧ (badD d1 d2 = none → ∀ H', Same H H' → Q .non H')
abbrev NDu : List Str := ["_law_signs", "_law_turns", "_law_alphabet", "_law_seen", "_law_pair", "_law_sign", "_law_one"]
section
variable {P : Program} {w : World} {K : PySem.W.Frag} {mg : Str → Option Value} {base : Heap}
theorem sc_due : FnScope NDu ["_law_signs", "_law_turns"] (defScope s_due) := ⟨rfl, rfl, rfl, by decide +kernel, rfl, by decide +kernel, by decide +kernel⟩
theorem ok_due {f : Addr} {fd : FuncData} (F : Fun K "_law_due" "_law_due" s_due f fd) (T : TB mg) (ts : mg "sorted" = none) : FnOk P w K mg base CX0 1 f fd ["_law_signs", "_law_turns"] (sp_due K) := by
  refine F.ok sc_due (fun vs H Q E h => ?_) (fun cdv A outer s H vs Q E hr h => ?_)
  · obtain ⟨p, v1, v2, d1, d2, rfl, _⟩ := h
    rfl
  · obtain ⟨p, v1, v2, d1, d2, rfl, h1, hf1, h2, hf2, hl2, kF, kT, kN⟩ := h
    refine ⟨_, pss_cons (ps_set (i := 2) sc_due.nd rfl (Or.inr rfl) pe_str)
      (pss_cons (ps_if (PW.pt (pw_or (pt_not (pt_val (pe_callB (id := "isinstance") call_isi (by rfl) T.isi (by decide +kernel) (pa_cons (pv 0) (pa_cons (pe_bltn (v := .ty "str") (by rfl) T.str (by decide +kernel) rfl) pa_nil)))))
        (pw_or (pt_not (pt_chain op_le op_le pe_int (pe_callB call_len_str (by rfl) T.len PySem.boot_len (pa_cons (pv 0) pa_nil)) pe_int))
          (pw_or1 (pt_cmpR op_lt (pe_lenSet (by rfl) T.len (by rfl) T.set (pv 0)) (pe_callB call_len_str (by rfl) T.len PySem.boot_len (pa_cons (pv 0) pa_nil)) (nomark _))))))
        (pss_one (ps_ret (pe_tup' (pa_cons pe_str (pa_cons (pv 0) pa_nil))))) pss_nil)
      (pss_cons (ps_if (pt_cmpR (op_neNil hr.units0) (pe_lc (own := [("_law_sign", 5)]) (g := gName 5) rfl sc_due.nd (pi_str (pv 0)) (blkOk_by (own := [("_law_sign", 5)]) (N := NDu) (sc := defScope s_due) (by decide +kernel))
          (fun _ _ _ _ _ => pg_name (i := 5) sc_due.nd rfl (Or.inl rfl)) (fun _ _ _ _ _ => pts_one (pt_cmpR op_notIn_sign (pv 5) (pv 2) (by rfl))) (fun _ _ _ _ _ => pv 5)) (pe_lst' pa_nil) (nomark _))
        (pss_one (ps_ret (pe_tup' (pa_cons pe_str (pa_cons (pv 0) pa_nil))))) pss_nil)
      (pss_cons (ps_if (pt_not (pt_val (pe_callB call_isiT (by rfl) T.isi (by decide +kernel) (pa_cons (pv 1) (pa_cons (pe_tup' (pa_cons (pe_bltn (v := .ty "list") (by rfl) T.list (by decide +kernel) rfl) (pa_cons (pe_bltn (v := .ty "tuple") (by rfl) T.tuple (by decide +kernel) rfl) pa_nil))) pa_nil)))))
        (pss_one (ps_ret (pe_tup' (pa_cons pe_str (pa_cons (pv 1) pa_nil))))) pss_nil)
      (pss_cons (ps_set (i := 3) sc_due.nd rfl (Or.inl rfl) (pe_lst' pa_nil))
      (pss_cons (ps_for PassesOwn.never rfl (pi_seq (pv 1)) (pg_name (i := 4) sc_due.nd rfl (Or.inl rfl))
        (pss_cons (ps_if (PW.pt (pw_or (pt_not (pt_val (pe_callB (id := "isinstance") call_isi (by rfl) T.isi (by decide +kernel) (pa_cons (pv 4) (pa_cons (pe_bltn (v := .ty "tuple") (by rfl) T.tuple (by decide +kernel) rfl) pa_nil)))))
            (pw_or1 (pt_cmpR op_ne (pe_callB call_len_seq (by rfl) T.len PySem.boot_len (pa_cons (pv 4) pa_nil)) pe_int (nomark _)))))
          (pss_one (ps_ret (pe_tup' (pa_cons pe_str (pa_cons (pv 1) pa_nil))))) pss_nil)
        (pss_cons (ps_if (pt_cmpR (op_neNil hr.units0) (pe_lc (own := [("_law_one", 6)]) (g := gName 6) rfl sc_due.nd (pi_tup (pv 4)) (blkOk_by (own := [("_law_one", 6)]) (N := NDu) (sc := defScope s_due) (by decide +kernel))
            (fun _ _ _ _ _ => pg_name (i := 6) sc_due.nd rfl (Or.inl rfl)) (fun _ _ _ _ _ => pts_one (PW.pt (pw_or (pt_not (pt_val (pe_callB (id := "isinstance") (call_isiK (K := K) (by rfl)) (by rfl) T.isi (by decide +kernel) (pa_cons (pv 6) (pa_cons (pe_bltn (v := .ty "str") (by rfl) T.str (by decide +kernel) rfl) pa_nil)))))
              (pw_or (pt_cmpR op_ne (pe_callB call_len_str (by rfl) T.len PySem.boot_len (pa_cons (pv 6) pa_nil)) pe_int (nomark _)) (pw_or1 (pt_cmpR op_notIn_sign (pv 6) (pv 0) (by rfl))))))) (fun _ _ _ _ _ => pv 6)) (pe_lst' pa_nil) (nomark _))
          (pss_one (ps_ret (pe_tup' (pa_cons pe_str (pa_cons (pv 1) pa_nil))))) pss_nil)
        (pss_one (ps_expr (pe_bm PySem.F.plainAttrs_list PySem.F.slot_list_extend PySem.F.type_list_extend mt_extend' (pv 3) (pa_cons (pe_sortSet (by rfl) ts (by rfl) T.set (pv 4)) pa_nil)))))))
      (pss_one (ps_ret (pe_ifExp (pt_cmpR op_lt (pe_cntSet (by rfl) T.len (by rfl) T.set (pv 3)) (pe_callB call_len_seq (by rfl) T.len PySem.boot_len (pa_cons (pv 3) pa_nil)) (nomark _)) (pe_tup' (pa_cons pe_str (pa_cons (pv 1) pa_nil))) pe_non)))))))), ?_⟩
    have font_no : fontD d1 = false → Due "font" v1 H Q := fun e => kF (by
      unfold badD
      cases d1 <;> first | rfl | (dsimp only; rw [if_neg (by rw [e]; decide)]))
    refine ⟨_, rfl, _, _, _, _, _, rfl, .ty "str", h1.ty, kit_str d1, _, rfl, ?_⟩
    have font_ret : ∀ {σ : L2.St} {H1 : Hp} {D : Ends}, D.rt = Q → σ[0]? = some (some v1) → Same H H1 → fontD d1 = false → tRet (qTup (tCons (tC (.str "font")) (tCons (tVar 0) tNil))) D σ H1 := by
      rintro σ H1 D rfl h0 s1 e
      exact (font_no e).at s1 fun C h => ⟨_, h0, h⟩
    have turn_ret : ∀ {σ : L2.St} {H1 : Hp} {D : Ends}, D.rt = Q → σ[1]? = some (some v2) → Same H H1 → badD d1 d2 = some false → tRet (qTup (tCons (tC (.str "turns")) (tCons (tVar 1) tNil))) D σ H1 := by
      rintro σ H1 D rfl h0 s1 e
      exact (kT e).at s1 fun C h => ⟨_, h0, h⟩
    cases d1 with
    | str z =>
      cases h1
      have hz : z.length ≤ 4000 := of_decide_eq_true hf1
      have hzs : z.length ≤ sizeLine := Nat.le_trans hz (by decide)
      refine iteF ⟨_, rfl, z, rfl, hzs, _, _, rfl, rfl, _, rfl, ?_⟩
      have no_len : ¬ (2 ≤ z.length ∧ z.length ≤ 10) → fontD (.str z) = false := fun e => by
        rw [fontD_str, decide_eq_false e, Bool.false_and]
      refine ite2 (fun t1 => ?_) (fun t1 => ⟨_, rfl, iteT (iteT (font_ret rfl rfl (Same.refl _) (no_len fun e => t1 (decide_eq_true (by omega)))))⟩)
      have t1 : 2 ≤ z.length := by have := of_decide_eq_true t1; omega
      refine ⟨_, _, rfl, rfl, _, rfl, ?_⟩
      dsimp only
      by_cases t2 : ¬ z.length ≤ 10
      · rw [decide_eq_false (p := ((z.length : Nat) : Int) ≤ 10) (by omega)]
        exact iteT (iteT (font_ret rfl rfl (Same.refl _) (no_len fun e => t2 e.2)))
      have t2 : z.length ≤ 10 := Decidable.not_not.mp t2
      rw [decide_eq_true (p := ((z.length : Nat) : Int) ≤ 10) (by omega)]
      refine iteF ⟨_, rfl, z, rfl, hz, _, rfl, z, rfl, hzs, _, _, rfl, rfl, _, rfl, ?_⟩
      have ol := once_eq z.cps.toList
      have ole := once_le z.cps.toList
      have zl : z.cps.toList.length = z.length := Array.length_toList
      rw [zl] at ol ole
      refine ite2 (fun t3 => ?_) (fun t3 => ?_)
      · refine font_ret rfl rfl (Same.refl _) ?_
        have nn : ¬ z.cps.toList.Nodup := fun n => by
          have := ol.mpr n
          have := of_decide_eq_true t3
          omega
        rw [fontD_str, setD_str, decide_eq_false nn, Bool.false_and, Bool.and_false]
      have nd : z.cps.toList.Nodup := ol.mp (by
        have : ¬ (((once z.cps.toList).length : Nat) : Int) < ((z.length : Nat) : Int) := fun q => t3 (decide_eq_true q)
        omega)
      have al : (PySem.Str.ofString "0123456789abcdefghijklmnopqrstuvwxyz") = alphabet := rfl
      refine ⟨_, rfl, z, rfl, fun D hD => lc_ff walk_signs (fun x => match x with | .str y => !(y.cps.toList.all fun c => decide (c ∈ alphabet.cps.toList)) | _ => false) (fun x => x) hD (fun _ _ => trivial) (by rw [signs_len]; exact Nat.lt_of_le_of_lt hz (by decide)) (fun x => rfl) ?_ ?_ ?_⟩
      · intro x H' C hx _ hC
        obtain ⟨c, _, rfl⟩ := mem_signs hx
        have hC := hC H' (Same.refl _)
        have eS : (match V.str ⟨#[c]⟩ with | .str y => !(y.cps.toList.all fun c => decide (c ∈ alphabet.cps.toList)) | _ => false) = !decide (c ∈ alphabet.cps.toList) := by
          show (!([c].all fun c => decide (c ∈ alphabet.cps.toList))) = _
          simp
        rw [eS] at hC
        exact ⟨_, rfl, _, rfl, c, alphabet, rfl, rfl, _, rfl, hC⟩
      · intro x H' C hx _ _ hC
        exact ⟨_, rfl, hC H' (Same.refl _)⟩
      intro H1 s1 hl1
      refine ⟨by show 0 ≤ sizeLine; decide, fun q1 H2 n2 => ⟨D, q1, _, rfl, rfl, SqL.of (n2.same _ _ hl1), n2.here, _, rfl, ?_⟩⟩
      have s2 : Same H H2 := s1.trans n2.same
      rw [List.map_id']
      by_cases hA : ¬ ∀ c ∈ z.cps.toList, c ∈ alphabet.cps.toList
      · have ne : ((signs z).filter fun x => match x with | .str y => !(y.cps.toList.all fun c => decide (c ∈ alphabet.cps.toList)) | _ => false).isEmpty = false := by
          rw [List.isEmpty_eq_false_iff]
          intro e
          rw [List.filter_eq_nil_iff] at e
          apply hA
          intro c hc
          have := e (sg c) (List.mem_map.mpr ⟨c, hc, rfl⟩)
          simpa using this
        rw [ne]
        refine iteT (font_ret rfl rfl s2 ?_)
        have na : (z.cps.toList.all fun c => decide (c ∈ alphabet.cps.toList)) = false := by
          rw [List.all_eq_false]
          rcases Classical.not_forall.mp hA with ⟨c, hc⟩
          have hc := Classical.not_imp.mp hc
          exact ⟨c, hc.1, by simpa using hc.2⟩
        rw [fontD_str, setD_str, na, Bool.and_false, Bool.and_false]
      have hA : ∀ c ∈ z.cps.toList, c ∈ alphabet.cps.toList := Classical.not_not.mp hA
      have em : ((signs z).filter fun x => match x with | .str y => !(y.cps.toList.all fun c => decide (c ∈ alphabet.cps.toList)) | _ => false).isEmpty = true := by
        rw [List.isEmpty_iff, List.filter_eq_nil_iff]
        intro x hx
        obtain ⟨c, hc, rfl⟩ := mem_signs hx
        have := hA c hc
        simpa using this
      rw [em]
      have hF : fontD (.str z) = true := by
        rw [fontD_str, setD_str, decide_eq_true (p := 2 ≤ z.length ∧ z.length ≤ 10) ⟨t1, t2⟩, decide_eq_true nd, Bool.true_and, Bool.true_and, List.all_eq_true]
        exact fun c hc => decide_eq_true (hA c hc)
      have bad_is : badD (.str z) d2 = if (keptD z d2).isSome = true then none else some false := by
        unfold badD
        dsimp only
        rw [if_pos hF]
      refine iteF ⟨_, rfl, by decide, fun q2 H3 n3 => ⟨_, q2, _, _, _, _, rfl, n3.here, .cons (.ty "list") (.cons (.ty "tuple") .nil), ((h2.but (.of s2)).but (.of n3.same) : Rp K p H3 false v2 d2).ty, kit_seq d2, _, rfl, ?_⟩⟩
      have s3 : Same H H3 := s2.trans n3.same
      cases hq : isSeqD d2 with
      | false =>
        refine iteT (turn_ret rfl rfl s3 ?_)
        rw [bad_is]
        cases d2 <;> first | rfl | exact absurd (show true = false from hq) (by decide)
      | true =>
        obtain ⟨a, xs, ds, st2, rfl, hseq, hall, hds⟩ := rp_seq h2 hq
        have hfa : fitAll ds = true := by
          rcases hds with rfl | rfl <;> (simp only [fit, Bool.and_eq_true, decide_eq_true_eq] at hf2; exact hf2.2)
        have hdl : ds.length ≤ 100 := by
          rcases hds with rfl | rfl <;> exact hl2
        have hlen := hall.len
        refine iteF ⟨by show 0 ≤ sizeLine; decide, fun r H4 n4 => ?_⟩
        have s4 : Same H H4 := s3.trans n4.same
        have fr : H r = none := s3.free n4.free
        show tFor (iSeq K (tVar 1)) (gName 4) _ _ [some (.str z), some (.ref a), some (.str alphabet), some (.ref r), none, none, none] H4
        refine tFor_seq (H0 := H) (fun C h => ⟨_, rfl, h⟩) hseq (fun i σ H' => ∃ (o4 : Option V) (ps : List (Nat × Nat)) (ys : List Str), σ = [some (.str z), some (.ref a), some (.str alphabet), some (.ref r), o4, none, none] ∧ Same H H' ∧ H' r = some (.lst (ys.map V.str)) ∧
          ds.take i = ps.map pairD ∧ (∀ e ∈ ps, e.1 ∈ z.cps.toList ∧ e.2 ∈ z.cps.toList) ∧ ys.Perm (sgs (ps.flatMap spread)))
          ⟨none, [], [], rfl, s4, n4.here, rfl, fun e he => (by cases he), .refl _⟩ (fun i σ' H' q => by obtain ⟨_, _, _, _, q, _⟩ := q; exact q) ?_ ?_
        · rintro i x σ H5 hi hx ⟨o4, ps, ys, rfl, s5, hr5, htk, hin, hpm⟩
          obtain ⟨d', hd'⟩ : ∃ d', ds[i]? = some d' := ⟨ds[i]'(by omega), by simp [show i < ds.length by omega]⟩
          have hrp : Rp K p H5 false x d' := ((hall.but2 s5).at hx hd').loose2
          have hft := fitAll.at hfa hd'
          have bad_here : pairOf z d' = none → badD (.str z) d2 = some false := fun e => by
            rw [bad_is, kept_bad ⟨d', List.mem_of_getElem? hd', e⟩ hds]
            rfl
          refine ⟨_, rfl, _, _, _, _, _, rfl, .ty "tuple", hrp.ty, kit_tup d', _, rfl, ?_⟩
          cases d' with
          | tuple ds2 =>
            obtain ⟨a2, xs2, st3, rfl, ha2, hr2⟩ := hrp.tupS
            simp only [fit, Bool.and_eq_true, decide_eq_true_eq] at hft
            have hlen2 := hr2.len
            refine iteF ⟨_, rfl, a2, xs2, rfl, .inr ha2, rfl, _, rfl, ?_⟩
            refine ite2 (fun h1 => ?_) (fun h1 => ?_)
            · refine turn_ret rfl rfl s5 (bad_here ?_)
              have n2 : ds2.length ≠ 2 := fun e => by
                rw [hlen2, e] at h1
                simp at h1
              have := pairOf_len z n2
              cases q : pairOf z (.tuple ds2) with
              | none => rfl
              | some _ => rw [q] at this; cases this
            have h2l : xs2.length = 2 := by
              by_cases e : xs2.length = 2
              · exact e
              · refine absurd ?_ h1
                rw [decide_eq_false (fun q => e (by injection q with q; omega))]
                rfl
            refine ⟨_, rfl, a2, rfl, ⟨_, ha2⟩, fun D hD => lc_pair walk_tup ds2 hlen2.symm (fun d => !signD z d) (fun _ _ _ => True) (fun _ _ _ _ _ _ h => h) hD (fun H' sm => sm.tupl ha2) (by rw [h2l]; decide) (fun x => rfl) ?_ ?_ ?_⟩
            · intro j x d3 H6 C hx3 hd3 s6 hC
              have rp3 := (hr2.at hx3 hd3).loose2.but (.of s6)
              have ft3 := fit.text (fitAll.at hft.2 hd3)
              have hC := hC H6 (Same.refl _)
              refine ⟨_, rfl, _, _, _, _, _, rfl, .ty "str", rp3.ty, kit_str d3, _, rfl, ?_⟩
              cases d3 with
              | str y =>
                cases rp3
                refine iteF ⟨_, rfl, y, rfl, Nat.le_trans (show y.length ≤ 4000 from ft3) (by decide), rfl, _, rfl, ?_⟩
                refine ite2 (fun g1 => ?_) (fun g1 => ?_)
                · have ne : y.length ≠ 1 := fun e => by
                    rw [e] at g1
                    simp at g1
                  have e : (!signD z (.str y)) = true := by
                    rw [signD_str, decide_eq_false ne]
                    rfl
                  rw [e] at hC
                  exact hC
                · have e1 : y.length = 1 := by
                    by_cases e : y.length = 1
                    · exact e
                    · refine absurd ?_ g1
                      rw [decide_eq_false (fun q => e (by injection q with q; omega))]
                      rfl
                  obtain ⟨c, rfl⟩ := one_sign e1
                  refine ⟨_, rfl, _, rfl, c, z, rfl, rfl, _, rfl, ?_⟩
                  have e : (!signD z (.str ⟨#[c]⟩)) = !decide (c ∈ z.cps.toList) := by
                    rw [signD_str, decide_eq_true e1]
                    simp
                  rw [e] at hC
                  exact hC
              | _ => exact iteT hC
            · intro j x d3 H6 C _ _ _ s6 hC
              exact ⟨_, rfl, hC H6 _ (Same.refl _) trivial⟩
            intro H6 zs s6 hD6 hP6
            refine ⟨by show 0 ≤ sizeLine; decide, fun q7 H7 n7 => ⟨D, q7, zs, rfl, rfl, SqL.of (n7.same _ _ hD6), n7.here, _, rfl, ?_⟩⟩
            have zl6 := hP6.length
            have s7 : Same H5 H7 := s6.trans n7.same
            have two : (pairOf z (.tuple ds2)).isSome = zs.isEmpty := by
              match ds2, hlen2, zl6 with
              | [x0, x1], _, zl6 =>
                rw [pairOf_two]
                cases g0 : signD z x0 <;> cases g1 : signD z x1 <;> simp [g0, g1] at zl6 ⊢ <;> first | omega | (cases zs <;> simp at zl6 ⊢)
              | [], q, _ => rw [h2l] at q; cases q
              | [_], q, _ => rw [h2l] at q; cases q
              | _ :: _ :: _ :: _, q, _ => rw [h2l] at q; cases q
            cases hpo : pairOf z (.tuple ds2) with
            | none =>
              rw [hpo] at two
              rw [← two]
              exact iteT (turn_ret rfl rfl (s5.trans s7) (bad_here hpo))
            | some ab =>
              obtain ⟨x1, x2⟩ := ab
              rw [hpo] at two
              rw [← two]
              obtain ⟨e2, m1, m2⟩ := pairOf_some hpo
              injection e2 with e2
              subst e2
              obtain ⟨q8, e8, hq8, _⟩ := rp_pair (hrp.but (.of s7))
              obtain rfl : a2 = q8 := by injection e8
              have hr7 := s7 _ _ hr5
              have hyl : ys.length ≤ 2 * i := by
                rw [hpm.length_eq, List.length_map]
                have l1 := spread_len ps
                have l2 := congrArg List.length htk
                rw [List.length_map, List.length_take] at l2
                omega
              refine iteF ⟨_, rfl, .inl ⟨rfl, _, SqL.of hr7⟩, _, rfl, a2, [⟨#[x1]⟩, ⟨#[x2]⟩], rfl, .inr (SqT.of hq8), (by show 2 < 64; decide), fun q9 H9 zs2 n9 nd9 mem9 => ⟨r, q9, _, _, rfl, rfl, n9.same _ _ hr7, n9.here, ?_, fun H10 w10 => ?_⟩⟩
              · have l9 := (spread_perm nd9 mem9).length_eq
                have l10 := spread_len [(x1, x2)]
                rw [List.flatMap_cons, List.flatMap_nil, List.append_nil] at l10
                rw [List.length_map] at l9
                rw [List.length_map, List.length_map]
                have : [(x1, x2)].length = 1 := rfl
                exact Nat.le_trans (show ys.length + zs2.length ≤ 1000 by omega) (by decide)
              have s9 : Same H H9 := (s5.trans s7).trans n9.same
              refine ⟨_, ps ++ [(x1, x2)], ys ++ zs2, rfl, Same.wr s9 fr w10, ?_, ?_, ?_, ?_⟩
              · rw [w10.here, List.map_append]
              · rw [List.take_add_one, hd', htk, List.map_append]
                rfl
              · intro e he
                rcases List.mem_append.mp he with he | he
                · exact hin e he
                · rw [List.mem_singleton.mp he]
                  exact ⟨m1, m2⟩
              · rw [List.flatMap_append, List.flatMap_cons, List.flatMap_nil, List.append_nil]
                unfold sgs
                rw [List.map_append]
                exact hpm.append (spread_perm nd9 mem9)
          | _ => exact iteT (iteT (turn_ret rfl rfl s5 (bad_here rfl)))
        · rintro σ H5 ⟨o4, ps, ys, rfl, s5, hr5, htk, hin, hpm⟩
          have hall2 : ds = ps.map pairD := by
            rw [← htk, hlen, List.take_length]
          have hyl : ys.length ≤ 200 := by
            rw [hpm.length_eq, List.length_map]
            have l1 := spread_len ps
            have l2 := congrArg List.length hall2
            rw [List.length_map] at l2
            omega
          have hks : (keptD z d2).isSome = true ↔ (ps.flatMap spread).Nodup := kept_some hin (by rw [← hall2]; exact hds)
          have hnd : ys.Nodup ↔ (ps.flatMap spread).Nodup := hpm.nodup_iff.trans (sgs_nd _)
          refine ⟨_, rfl, r, ys, rfl, .inl (SqL.of hr5), by omega, fun n hn hiff => ⟨_, rfl, r, _, rfl, .inl (SqL.of hr5), _, _, rfl, rfl, _, rfl, ?_⟩⟩
          rw [List.length_map]
          refine ite2 (fun t => ?_) (fun t => ?_)
          · have t : n < ys.length := by have := of_decide_eq_true t; omega
            have b : badD (.str z) d2 = some false := by
              rw [bad_is, if_neg (fun q => by have := hiff.mpr (hnd.mpr (hks.mp q)); omega)]
            exact (kT b).at s5 fun C h => ⟨_, rfl, h⟩
          · have t : n = ys.length := by
              have : ¬ (((n : Nat) : Int) < ((ys.length : Nat) : Int)) := fun q => t (decide_eq_true q)
              omega
            have b : badD (.str z) d2 = none := by
              rw [bad_is, if_pos (hks.mpr (hnd.mp (hiff.mp t)))]
            exact kN b H5 s5
    | _ => exact iteT (iteT (font_ret rfl rfl (Same.refl _) rfl))
end
end My
end
section
set_option Elab.async false
set_option linter.all false
set_option maxRecDepth 100000
set_option maxHeartbeats 4000000
/-! B5: x[::-1] of any text, of any list. -/
namespace My
open PySem PySem.Spec PyProof.Rows L2
/-- x[::-1], x a text: some text of its signs, not longer -/
def tRevT (te : TE) : TE := fun σ H Q => te σ H fun v H1 => ∃ z : Str, v = .str z ∧ z.length ≤ 1000 ∧ ∀ y : Str, y.length ≤ z.length → (∀ c ∈ y.cps.toList, c ∈ z.cps.toList) → Q (.str y) H1
/-- x[::-1], x a list -/
def tRevL (K : PySem.W.Frag) (te : TE) : TE := fun σ H Q => te σ H fun v H1 => ∃ (a : Addr) (xs : List V), v = .ref a ∧ SqL K H1 a xs ∧ ∀ p H2, New H1 p (.lst xs.reverse) H2 → Q (.ref p) H2
section
variable {X : Cx} {e : Expr} {te : TE} {k : Nat} {p1 p2 p3 pos : Pos}
theorem back_open {pins : List (Addr × Obj)} {σ : L2.St} {H1 : Hp} {s1 : Shared} {v : Value} {Q' : Value → Shared → Prop} (I1 : Inv X pins σ H1 s1)
    (q : ∀ (s4 : Shared) (vs : Value), Inv X pins σ H1 s4 → IsPart vs (some (-1)) → wpAny (model X.prog X.w) X.A (subscriptTail e (.Slice none none (some (.UnaryOp .USub (.Constant (.int 1) k p1) p2)) p3) v (.ref s4.heap.objs.size)) Q' X.xe { s4 with heap := s4.heap.push { cls := .type "slice", data := .fields #[.none, .none, vs] } }) :
    wpAny (model X.prog X.w) X.A (eval (.Slice none none (some (.UnaryOp .USub (.Constant (.int 1) k p1) p2)) p3) X.env) (fun sl s' => wpAny (model X.prog X.w) X.A (subscriptTail e (.Slice none none (some (.UnaryOp .USub (.Constant (.int 1) k p1) p2)) p3) v sl) Q' X.xe s') X.xe s1 := by
  have stepP : PO X (some (.UnaryOp .USub (.Constant (.int 1) k p1) p2)) (tPart (tUn (rU fun i => .int (-i)) (tC (.int 1)))) := po_some (pe_un un_neg pe_int)
  apply wpAny_Slice
  apply thn (po_none.run pins s1 σ H1 (fun o G => o = none ∧ G = H1) I1 ⟨rfl, rfl⟩)
  rintro vl s2 ⟨l, H2, I2, pl, rfl, rfl⟩
  apply thn (po_none.run pins s2 σ _ (fun o G => o = none ∧ G = H2) I2 ⟨rfl, rfl⟩)
  rintro vu s3 ⟨u, H3, I3, pu, rfl, rfl⟩
  apply thn (stepP.run pins s3 σ _ (fun o G => o = some (-1) ∧ G = H3) I3 ⟨1, rfl, -1, rfl, rfl, rfl⟩)
  rintro vs s4 ⟨o, H4, I4, ps, rfl, rfl⟩
  cases pl
  cases pu
  exact q s4 vs I4 ps
theorem pe_revT (he : PE X e te) : PE X (.Subscript e (.Slice none none (some (.UnaryOp .USub (.Constant (.int 1) k p1) p2)) p3) pos) (tRevT te) := by
  constructor
  intro pins s σ H Q I want
  apply Subscript_
  apply thn (he.run pins s σ H _ I want)
  rintro v s1 ⟨v', H1, I1, r1, z, rfl, hz, q⟩
  obtain ⟨t, rfl⟩ := r1
  refine back_open I1 fun s4 vs I4 ps => ?_
  have I5 : Inv X pins σ H1 { s4 with heap := s4.heap.push { cls := .type "slice", data := .fields #[.none, .none, vs] } } := I4.kept (t' := s4.toks) fun b ob z => Heap.get?_push_of_some _ z
  obtain ⟨st, rfl, es⟩ := IsPart.raw ps
  refine tail_any (ops := [.str z t, .ref s4.heap.objs.size]) (typeIs_str _ _ _) slot_str_getitem.lookup ?_ (by with_unfolding_all rfl)
  refine wpAny_getItem_str_slice (l := none) (u := none) (st := st) (Heap.IsSliceOf.new _ _ _ _) (by rw [es]; decide) ?_
  cases st with
  | none => cases es
  | some q1 =>
  obtain ⟨i, tk⟩ := q1
  obtain rfl : i = -1 := Option.some.inj es
  have hp : slicePicked z none none (some (-1, tk)) = (List.range z.length).reverse := by
    show PySem.sliceRange ((z.length : Int) - 1) (-1) (-1) = _
    rw [PySem.W.krv_sliceRange, PySem.W.krv_range]
  unfold sliceMade
  rw [hp, if_neg (by simp)]
  have le : (⟨(((List.range z.length).reverse).filterMap (z.cps[·]?)).toArray⟩ : Str).length ≤ z.length := by
    show (((List.range z.length).reverse).filterMap (z.cps[·]?)).toArray.size ≤ _
    rw [List.size_toArray]
    refine Nat.le_trans (List.length_filterMap_le _ _) ?_
    rw [List.length_reverse, List.length_range]
    exact Nat.le_refl _
  refine ⟨Nat.le_trans le (Nat.le_trans hz (by decide)), .str _, _, I5.tok _, ⟨_, rfl⟩, q _ le fun c hc => ?_⟩
  obtain ⟨j, _, ej⟩ := List.mem_filterMap.mp hc
  have := Array.mem_of_getElem? ej
  simpa using this
theorem pe_revL (he : PE X e te) : PE X (.Subscript e (.Slice none none (some (.UnaryOp .USub (.Constant (.int 1) k p1) p2)) p3) pos) (tRevL X.K te) := by
  constructor
  intro pins s σ H Q I want
  apply Subscript_
  apply thn (he.run pins s σ H _ I want)
  rintro v s1 ⟨v', H1, I1, r1, a, xs, rfl, hx, q⟩
  cases r1
  refine back_open I1 fun s4 vs I4 ps => ?_
  have I5 : Inv X pins σ H1 { s4 with heap := s4.heap.push { cls := .type "slice", data := .fields #[.none, .none, vs] } } := I4.kept (t' := s4.toks) fun b ob z => Heap.get?_push_of_some _ z
  obtain ⟨its, r, ht, hz⟩ := I5.list hx
  refine tail_any (ops := [.ref a, .ref s4.heap.objs.size]) ht.isList.typeIs slot_list_getitem.lookup ?_ (by with_unfolding_all rfl)
  refine wpAny_getItem_list_slice ht.isList (Heap.IsSliceOf.new _ _ _ _) .none .none ps (by decide) ?_ (by rw [List.size_toArray, ← r.length]; exact hz)
  rw [PySem.W.krv_pick]
  refine ⟨.ref _, _, I5.laid (t' := s4.toks) (o := .lst xs.reverse) (fun b ob z => Heap.get?_push_of_some _ z) (Nat.le_refl _) ?_, rfl, q _ _ (.mk' (I5.hok.fresh (Nat.le_refl _)))⟩
  exact ⟨by rw [List.length_reverse]; exact hz, _, 0, r.reverse, Heap.get?_push_size _ rfl⟩
end
end My
end
section
set_option Elab.async false
set_option linter.all false
set_option maxRecDepth 100000
set_option maxHeartbeats 4000000
/-! B6: new lists and where they stand. -/
namespace My
open PySem PySem.Spec PyProof.Rows L2
section
variable {X : Cx}
/-- a part of a list, and where it stands -/
def qSlB (K : PySem.W.Frag) : V → Option Int → Option Int → Hp → VK → Prop := fun x lo hi H Q => ∃ a xs, x = .ref a ∧ SqL K H a xs ∧ ∀ p H', p ≠ sysModules → New H p (.lst (cutV xs lo hi)) H' → Q (.ref p) H'
theorem sl_listB : SlR X (qSlB X.K) := by
  intro pins s σ H x v vl vu lo hi sl Q I rx slice pl pu want
  obtain ⟨a, xs, rfl, hx, q⟩ := want
  cases rx
  obtain ⟨its, r, at_, fits⟩ := I.list hx
  have len := r.length
  refine ⟨"list", _, slot_list_getitem.lookup, at_.isList.typeIs, wpAny_getItem_list_slice at_.isList slice pl pu .none (by simp) ?_ (by rw [List.size_toArray]; omega)⟩
  rw [slicePick_cut, ← len]
  have free : H s.heap.objs.size = none := I.hok.fresh (Nat.le_refl _)
  have laid : ObjOk X.prog X.w (upd H s.heap.objs.size (.lst (cutV xs lo hi))) (s.heap.push { cls := .type "list", data := .seq (((its.drop (HT.sIx xs.length 0 lo)).take (HT.sIx xs.length xs.length hi - HT.sIx xs.length 0 lo)).toArray) }) s.heap.objs.size (.lst (cutV xs lo hi)) :=
    ⟨Nat.le_trans (cutV_length xs lo hi) fits, _, 0, (r.drop (HT.sIx xs.length 0 lo)).take _, Heap.get?_push_size _ rfl⟩
  exact ⟨.ref _, _, I.laid (t' := s.toks) (fun b ob z => Heap.get?_push_of_some _ z) (Nat.le_refl _) laid, rfl, q _ _ (Nat.ne_of_gt I.big) (.mk' free)⟩
/-- xs + ys, and where it stands -/
def qCatB : R2 := fun x y H Q => ∃ a b xs ys, x = .ref a ∧ y = .ref b ∧ H a = some (.lst xs) ∧ H b = some (.lst ys) ∧ xs.length + ys.length ≤ sizeLine ∧ ∀ p H', p ≠ sysModules → New H p (.lst (xs ++ ys)) H' → Q (.ref p) H'
theorem op_catB : OpR X (binaryOp .Add) qCatB := by
  intro pins s σ H x y v u Q I rx ry want
  obtain ⟨a, b, xs, ys, rfl, rfl, hA, hB, fits, q⟩ := want
  cases rx
  cases ry
  obtain ⟨z1, its1, n1, r1, l1, e1⟩ := I.lstM hA
  obtain ⟨z2, its2, n2, r2, l2, e2⟩ := I.lstM hB
  apply PySem.P.add_list e1 e2
  rw [show its1.toArray ++ its2.toArray = (its1 ++ its2).toArray by simp]
  exact ⟨.ref _, _, I.lnew (t' := s.toks) (r1.append r2) (by rw [List.length_append]; omega), rfl, q _ _ (Nat.ne_of_gt I.big) (.mk' I.fresh)⟩
/-- x[::-1], x a list, and where it stands -/
def tRevB (K : PySem.W.Frag) (te : TE) : TE := fun σ H Q => te σ H fun v H1 => ∃ (a : Addr) (xs : List V), v = .ref a ∧ SqL K H1 a xs ∧ ∀ p H2, p ≠ sysModules → New H1 p (.lst xs.reverse) H2 → Q (.ref p) H2
theorem pe_revB {e : Expr} {te : TE} {k : Nat} {p1 p2 p3 pos : Pos} (he : PE X e te) : PE X (.Subscript e (.Slice none none (some (.UnaryOp .USub (.Constant (.int 1) k p1) p2)) p3) pos) (tRevB X.K te) := by
  constructor
  intro pins s σ H Q I want
  apply Subscript_
  apply thn (he.run pins s σ H _ I want)
  rintro v s1 ⟨v', H1, I1, r1, a, xs, rfl, hx, q⟩
  cases r1
  refine back_open I1 fun s4 vs I4 ps => ?_
  have I5 : Inv X pins σ H1 { s4 with heap := s4.heap.push { cls := .type "slice", data := .fields #[.none, .none, vs] } } := I4.kept (t' := s4.toks) fun b ob z => Heap.get?_push_of_some _ z
  obtain ⟨its, r, ht, hz⟩ := I5.list hx
  refine tail_any (ops := [.ref a, .ref s4.heap.objs.size]) ht.isList.typeIs slot_list_getitem.lookup ?_ (by with_unfolding_all rfl)
  refine wpAny_getItem_list_slice ht.isList (Heap.IsSliceOf.new _ _ _ _) .none .none ps (by decide) ?_ (by rw [List.size_toArray, ← r.length]; exact hz)
  rw [PySem.W.krv_pick]
  refine ⟨.ref _, _, I5.laid (t' := s4.toks) (o := .lst xs.reverse) (fun b ob z => Heap.get?_push_of_some _ z) (Nat.le_refl _) ?_, rfl, q _ _ (Nat.ne_of_gt I5.big) (.mk' (I5.hok.fresh (Nat.le_refl _)))⟩
  exact ⟨by rw [List.length_reverse]; exact hz, _, 0, r.reverse, Heap.get?_push_size _ rfl⟩
end
end My
end
section
set_option Elab.async false
set_option linter.all false
set_option maxRecDepth 100000
set_option maxHeartbeats 4000000
namespace My
open PySem PySem.Spec PyProof.Rows L2
/-! ### how long a shown value can be -/
mutual
def wt : PyData → Nat
  | .str z => 10 * z.length + 2
  | .list ds => wtAll ds + 4
  | .tuple ds => wtAll ds + 4
  | d => d.shown.length
def wtAll : List PyData → Nat
  | [] => 0
  | d :: ds => wt d + 2 + wtAll ds
end
mutual
/-- every character of every text is a character -/
def chr : PyData → Bool
  | .str z => z.cps.toList.all fun c => decide (c < 16 ^ 8)
  | .list ds => chrAll ds
  | .tuple ds => chrAll ds
  | _ => true
def chrAll : List PyData → Bool
  | [] => true
  | d :: ds => chr d && chrAll ds
end
theorem sum_shown (ds : List PyData) (h : ∀ d ∈ ds, d.shown.length ≤ wt d) : ((PyData.shownAll ds).map (·.length)).sum + (PyData.shownAll ds).length * 2 ≤ wtAll ds := by
  induction ds with
  | nil => exact Nat.le_refl _
  | cons d ds ih =>
    have h1 := h d List.mem_cons_self
    have h2 := ih fun x hx => h x (List.mem_cons_of_mem _ hx)
    show ((d.shown :: PyData.shownAll ds).map (·.length)).sum + (d.shown :: PyData.shownAll ds).length * 2 ≤ wt d + 2 + wtAll ds
    rw [List.map_cons, List.sum_cons, List.length_cons]
    omega
theorem len_app (x y : Str) : (x ++ y).length = x.length + y.length := by
  show (x.cps ++ y.cps).size = _
  rw [Array.size_append]
  rfl
theorem from_le : ∀ (ts : List Str) (k : Nat) (acc : Str), (textFrom k acc ts).length ≤ acc.length + (ts.map (·.length)).sum + ts.length * 2
  | [], k, acc => Nat.le_refl _
  | t :: r, k, acc => by
    have ih := from_le r (k + 1) (acc ++ (if k > 0 then ", " else "" : String) ++ t)
    have hs : ((if k > 0 then ", " else "" : String) : Str).length ≤ 2 := by
      by_cases h : k > 0
      · rw [if_pos h]; decide
      · rw [if_neg h]; decide
    rw [len_app, len_app] at ih
    show (textFrom (k + 1) (acc ++ (if k > 0 then ", " else "" : String) ++ t) r).length ≤ _
    rw [List.map_cons, List.sum_cons, List.length_cons]
    omega
theorem list_le (ts : List Str) : (listText ts).length ≤ (ts.map (·.length)).sum + ts.length * 2 + 4 := by
  have := from_le ts 0 "["
  show (textFrom 0 "[" ts ++ "]").length ≤ _
  rw [len_app]
  have e1 : ("[" : Str).length = 1 := by decide
  have e2 : ("]" : Str).length = 1 := by decide
  omega
theorem tuple_le (ts : List Str) : (tupleText ts).length ≤ (ts.map (·.length)).sum + ts.length * 2 + 4 := by
  have := StrLaws.join_length_le ", " ts
  have e : (PySem.Str.ofString ", ").length = 2 := by decide
  rw [e] at this
  have hs : ((if ts.length == 1 then ",)" else ")" : String) : Str).length ≤ 2 := by
    by_cases h : (ts.length == 1) = true
    · rw [if_pos h]; decide
    · rw [if_neg h]; decide
  show (("(" : Str) ++ Str.join ", " ts ++ (if ts.length == 1 then ",)" else ")" : String)).length ≤ _
  rw [len_app, len_app]
  have e1 : ("(" : Str).length = 1 := by decide
  omega
mutual
theorem shown_wt : ∀ d : PyData, chr d = true → d.shown.length ≤ wt d
  | .none, _ => Nat.le_refl _
  | .bool _, _ => Nat.le_refl _
  | .int _, _ => Nat.le_refl _
  | .dict _, _ => Nat.le_refl _
  | .str z, h => by
    simp only [chr, List.all_eq_true, decide_eq_true_eq] at h
    exact StrLaws.reprText_len z h
  | .list ds, h => by
    have h1 := sum_shown ds (shown_wtA ds h)
    have h2 := list_le (PyData.shownAll ds)
    show (listText (PyData.shownAll ds)).length ≤ wtAll ds + 4
    omega
  | .tuple ds, h => by
    have h1 := sum_shown ds (shown_wtA ds h)
    have h2 := tuple_le (PyData.shownAll ds)
    show (tupleText (PyData.shownAll ds)).length ≤ wtAll ds + 4
    omega
theorem shown_wtA : ∀ ds : List PyData, chrAll ds = true → ∀ d ∈ ds, d.shown.length ≤ wt d
  | [], _, d, hd => by cases hd
  | e :: ds, h, d, hd => by
    simp only [chrAll, Bool.and_eq_true] at h
    rcases List.mem_cons.mp hd with he | hd
    · rw [he]
      exact shown_wt e h.1
    · exact shown_wtA ds h.2 d hd
end
end My
end
section
set_option Elab.async false
set_option linter.all false
set_option maxRecDepth 200000
set_option maxHeartbeats 4000000
/-! D6: picks from a text, _law_bent_signs. -/
namespace My
open PySem PySem.Spec PyProof.Rows L2
/-- a value that can be shown -/
structure Val (K : PySem.W.Frag) (p : Addr) (H : Hp) (v : V) (d : PyData) : Prop where
  rp : Rp K p H true v d
  fit : fit d = true
  dep : d.depth ≤ 5
  shw : d.showable = true
  len : d.shown.length ≤ 20000
  ln : lenD d ≤ 100
/-- a short text of plain characters -/
def Tx (n : Nat) (z : Str) : Prop := z.length ≤ n ∧ ∀ c ∈ z.cps.toList, c < 128
theorem Tx.mono {n m : Nat} {z : Str} (h : Tx n z) (l : n ≤ m) : Tx m z := ⟨Nat.le_trans h.1 l, h.2⟩
theorem Tx.cut {n : Nat} {z : Str} (h : Tx n z) (lo hi : Option Int) : Tx n (cutS z lo hi) := by
  constructor
  · refine Nat.le_trans ?_ h.1
    show ((z.cps.toList.drop (HT.sIx z.length 0 lo)).take (HT.sIx z.length z.length hi - HT.sIx z.length 0 lo)).toArray.size ≤ _
    rw [List.size_toArray, List.length_take, List.length_drop]
    have : z.cps.toList.length = z.length := Array.length_toList
    omega
  · intro c hc
    have hc : c ∈ (z.cps.toList.drop (HT.sIx z.length 0 lo)).take (HT.sIx z.length z.length hi - HT.sIx z.length 0 lo) := hc
    exact h.2 c (List.mem_of_mem_drop (List.mem_of_mem_take hc))
theorem Tx.add {n m : Nat} {a b : Str} (h : Tx n a) (k : Tx m b) : Tx (n + m) (a ++ b) := by
  constructor
  · rw [len_app]
    have := h.1
    have := k.1
    omega
  · intro c hc
    have hc : c ∈ (a.cps ++ b.cps).toList := hc
    rw [Array.toList_append] at hc
    rcases List.mem_append.mp hc with hc | hc
    · exact h.2 c hc
    · exact k.2 c hc
theorem Tx.one {c : Nat} (h : c < 128) : Tx 1 ⟨#[c]⟩ := ⟨Nat.le_refl _, fun x hx => by
  have : x = c := by simpa using hx
  exact this ▸ h⟩
theorem Tx.up {n : Nat} {z : Str} (h : Tx n z) : Tx n (Txt.upper z) := by
  rw [upper_ascii h.2]
  constructor
  · show (z.cps.map up1).size ≤ n
    rw [Array.size_map]
    exact h.1
  · intro c hc
    have hc : c ∈ (z.cps.map up1).toList := hc
    rw [Array.toList_map] at hc
    obtain ⟨x, hx, rfl⟩ := List.mem_map.mp hc
    have := h.2 x hx
    unfold up1
    split <;> omega
theorem Tx.len {n : Nat} {z : Str} (h : Tx n z) (hn : n ≤ 1000) : z.length ≤ sizeLine := Nat.le_trans h.1 (Nat.le_trans hn (by decide))
theorem tx_val {K : PySem.W.Frag} {p : Addr} {H : Hp} {z : Str} (h : Tx 100 z) : Val K p H (.str z) (.str z) := by
  refine ⟨.str _ _, ?_, Nat.zero_le _, rfl, ?_, Nat.zero_le _⟩
  · show decide (z.length ≤ 4000) = true
    exact decide_eq_true (Nat.le_trans h.1 (by decide))
  · refine Nat.le_trans (shown_wt _ ?_) ?_
    · simp only [chr, List.all_eq_true, decide_eq_true_eq]
      exact fun c hc => Nat.lt_trans (h.2 c hc) (by decide)
    · show 10 * z.length + 2 ≤ 20000
      have := h.1
      omega
def sp_pickS : Sp := fun vs H Q _ => ∃ (p c : Addr) (z : Str) (n : Nat), vs = [.ref p, .str z] ∧ PenAt H p c n ∧ n < 2 ^ 60 ∧ 0 < z.length ∧ z.length ≤ 1000 ∧ ∀ H' x, DrewP H p c (n + 1) H' → x ∈ z.cps.toList → Q (sg x) H'
def sp_bentS (K : PySem.W.Frag) : Sp := fun vs H Q _ => ∃ (p c : Addr) (S : Str) (n : Nat), vs = [.ref p, .str S] ∧ PenAt H p c n ∧ n < 2 ^ 55 ∧ 2 ≤ S.length ∧ Tx 10 S ∧ ∀ H' v d, DrewP H p c (n + 4) H' → Val K p H' v d → Q v H'
section
variable {P : Program} {w : World} {K : PySem.W.Frag} {mg : Str → Option Value} {base : Heap}
theorem ok_pickS {f fD : Addr} {fd fdD : FuncData} (F : Fun K "_law_pick" "_law_pick" s_pick f fd) (T : TDraw mg) (D : Def K mg "_law_draw" fD fdD ["_law_pen_here", "_law_many"]) (G : FnOk P w K mg base CX0 1 fD fdD ["_law_pen_here", "_law_many"] sp_draw) :
    FnOk P w K mg base CX0 2 f fd ["_law_pen_here", "_law_options"] sp_pickS := by
  refine F.ok sc_pick (fun vs H Q E h => ?_) (fun cdv A outer s H vs Q E hr h => ?_)
  · obtain ⟨p, c, z, n, rfl, _⟩ := h
    rfl
  · obtain ⟨p, c, z, n, rfl, hP, hn, h0, h1, k⟩ := h
    have hz : z.length ≤ sizeLine := Nat.le_trans h1 (by decide)
    refine ⟨_, pss_one (ps_ret (pe_ix ix_str (pv 1) (pe_call G hr rfl D.mgf D.kp D.bd .nil pass0 (pa_cons (pv 0) (pa_cons (pe_callB call_len_str (by rfl) T.len PySem.boot_len (pa_cons (pv 1) pa_nil)) pa_nil))) (fun _ _ => rfl))), ?_⟩
    refine ⟨_, rfl, _, rfl, _, rfl, z, rfl, hz, p, c, _, n, rfl, hP, hn, by omega, by omega, fun H' r hD r0 r1 => ?_⟩
    obtain ⟨j, rfl⟩ : ∃ j : Nat, r = j := ⟨_, (Int.toNat_of_nonneg r0).symm⟩
    have zl : z.cps.toList.length = z.length := Array.length_toList
    have hj : j < z.cps.toList.length := by omega
    exact ⟨z, _, z.cps.toList[j], rfl, rfl, hz, atI_nat (by simp [hj]), k _ _ hD (List.getElem_mem hj)⟩
abbrev s_bentS : Stmt := topS 26
abbrev NBs : List Str := ["_law_pen_here", "_law_signs", "_law_at", "_law_way", "_law_one"]
theorem sc_bentS : FnScope NBs ["_law_pen_here", "_law_signs"] (defScope s_bentS) := ⟨rfl, rfl, rfl, by decide +kernel, rfl, by decide +kernel, by decide +kernel⟩
theorem ok_bentS {f fD fP fO : Addr} {fd fdD fdP fdO : FuncData} (F : Fun K "_law_bent_signs" "_law_bent_signs" s_bentS f fd) (T : TB mg) (D : Def K mg "_law_draw" fD fdD ["_law_pen_here", "_law_many"]) (G : FnOk P w K mg base CX0 1 fD fdD ["_law_pen_here", "_law_many"] sp_draw)
    (DP : Def K mg "_law_pick" fP fdP ["_law_pen_here", "_law_options"]) (GP : FnOk P w K mg base CX0 2 fP fdP ["_law_pen_here", "_law_options"] (sp_pick K)) (GPS : FnOk P w K mg base CX0 2 fP fdP ["_law_pen_here", "_law_options"] sp_pickS)
    (DO : Def K mg "_law_odd" fO fdO ["_law_pen_here"]) (GO : FnOk P w K mg base CX0 3 fO fdO ["_law_pen_here"] (sp_odd K)) : FnOk P w K mg base CX0 4 f fd ["_law_pen_here", "_law_signs"] (sp_bentS K) := by
  refine F.ok sc_bentS (fun vs H Q E h => ?_) (fun cdv A outer s H vs Q E hr h => ?_)
  · obtain ⟨p, c, S, n, rfl, _⟩ := h
    rfl
  · obtain ⟨p, c, S, n, rfl, hP, hn, hlo, hS, k⟩ := h
    have r1 : Room 1 _ := hr.mono (by decide)
    have r2 : Room 2 _ := hr.mono (by decide)
    have hz : S.length ≤ sizeLine := hS.len (by decide)
    refine ⟨_, pss_cons (ps_par (i := 2) (j := 3) rfl sc_bentS.nd rfl rfl (by decide) rfl rfl (pa_cons (pe_call G r1 rfl D.mgf D.kp D.bd .nil pass0 (pa_cons (pv 0) (pa_cons (pe_callB call_len_str (by rfl) T.len PySem.boot_len (pa_cons (pv 1) pa_nil)) pa_nil))) (pa_cons (pe_call G r1 rfl D.mgf D.kp D.bd .nil pass0 (pa_cons (pv 0) (pa_cons pe_int pa_nil))) pa_nil)) (by rfl))
      (pss_cons (ps_if (pt_cmpR op_eq (pv 3) pe_int (nomark _)) (pss_one (ps_ret (pe_op op_add_str (pe_op op_add_str (pe_slice sl_str (pv 1) po_none (po_some (pv 2))) (pe_call GPS r2 rfl DP.mgf DP.kp DP.bd .nil pass0 (pa_cons (pv 0) (pa_cons pe_str pa_nil)))) (pe_slice sl_str (pv 1) (po_some (pv 2)) po_none)))) pss_nil)
      (pss_cons (ps_if (pt_cmpR op_eq (pv 3) pe_int (nomark _)) (pss_one (ps_ret (pe_op op_add_str (pe_slice sl_str (pv 1) po_none (po_some (pv 2))) (pe_slice sl_str (pv 1) (po_some (pe_op op_add (pv 2) pe_int)) po_none)))) pss_nil)
      (pss_cons (ps_if (pt_cmpR op_eq (pv 3) pe_int (nomark _)) (pss_one (ps_ret (pe_op op_add_str (pv 1) (pe_ix ix_str (pv 1) (pv 2) (fun _ _ => rfl))))) pss_nil)
      (pss_cons (ps_if (pt_cmpR op_eq (pv 3) pe_int (nomark _)) (pss_one (ps_ret (pe_slice sl_str (pv 1) po_none (po_some pe_int)))) pss_nil)
      (pss_cons (ps_if (pt_cmpR op_eq (pv 3) pe_int (nomark _)) (pss_one (ps_ret (pe_slice sl_str (pe_op op_add_str (pv 1) pe_str) po_none (po_some pe_int)))) pss_nil)
      (pss_cons (ps_if (pt_cmpR op_eq (pv 3) pe_int (nomark _)) (pss_one (ps_ret (pe_slice sl_str (pe_join pe_str (by exact (pe_lc (own := [("_law_one", 4)]) (g := gName 4) rfl sc_bentS.nd (pi_str pe_str) (blkOk_by (own := [("_law_one", 4)]) (N := NBs) (sc := defScope s_bentS) (by decide +kernel))
          (fun _ _ _ _ _ => pg_name (i := 4) sc_bentS.nd rfl (Or.inl rfl)) (fun _ _ _ _ _ => pts_one (pt_cmpR op_notIn_sign (pv 4) (pe_slice sl_str (pv 1) po_none (po_some pe_int)) (by rfl))) (fun _ _ _ _ _ => pv 4)))) po_none (po_some pe_int)))) pss_nil)
      (pss_one (ps_ret (pe_call GP r2 rfl DP.mgf DP.kp DP.bd .nil pass0 (pa_cons (pv 0) (pa_cons (pe_lst' (pa_cons (pe_upper (pv 1)) (pa_cons (My.pe_revT (pv 1)) (pa_cons (pe_lstB (pa_cons (pv 1) pa_nil)) (pa_cons (pe_op op_add_str (pv 1) pe_str)
        (pa_cons pe_str (pa_cons pe_str (pa_cons pe_str (pa_cons (pe_call GO hr rfl DO.mgf DO.kp DO.bd .nil pass0 (pa_cons (pv 0) pa_nil)) pa_nil))))))))) pa_nil))))))))))), ?_⟩
    refine ⟨_, rfl, _, rfl, S, rfl, hz, p, c, _, n, rfl, hP, by omega, by omega, by have := hS.1; omega, fun H1 r hD1 ra rb => ?_⟩
    obtain ⟨j, rfl⟩ : ∃ j : Nat, r = j := ⟨_, (Int.toNat_of_nonneg ra).symm⟩
    refine ⟨_, rfl, p, c, _, n + 1, rfl, hD1.pen, by omega, by decide, by decide, fun H2 wy hD2 _ _ => ?_⟩
    have d2 : DrewP H p c (n + 2) H2 := hD1.trans hD2
    have txt : ∀ {H' : Hp} {z : Str}, DrewP H p c (n + 4) H' → Tx 100 z → Q (.str z) H' := fun dr h => k _ _ _ dr (tx_val h)
    have here : DrewP H p c (n + 4) H2 := d2.mono (by omega)
    have lit : Tx 12 (PySem.Str.ofString "0123456789ab") := ⟨by decide, by decide⟩
    have lit2 : Tx 20 (PySem.Str.ofString "0123456789abcdefghij") := ⟨by decide, by decide⟩
    have lit3 : Tx 10 (PySem.Str.ofString "A-? z9a0_") := ⟨by decide, by decide⟩
    have zl : S.cps.toList.length = S.length := Array.length_toList
    have hj : j < S.cps.toList.length := by omega
    have small : ∀ {n : Nat}, n ≤ 1000 → n ≤ sizeLine := fun h => Nat.le_trans h (by decide)
    have two : ∀ {a b : Str} {x y : Nat}, Tx x a → Tx y b → x + y ≤ 1000 → a.length + b.length ≤ sizeLine := fun ha hb h => small (by have := ha.1; have := hb.1; omega)
    refine ⟨_, _, rfl, ?_⟩
    refine ⟨_, rfl, rfl, _, rfl, ite2 (fun _ => ?_) (fun _ => ?_)⟩
    · refine ⟨_, rfl, _, rfl, _, rfl, S, rfl, hz, _, rfl, p, c, _, n + 2, rfl, d2.pen, by omega, by decide, by decide, fun H3 x dr hx => ?_⟩
      have hx := Tx.one (lit3.2 x hx)
      exact ⟨_, _, rfl, rfl, two (hS.cut _ _) hx (by decide), _, rfl, _, rfl, _, rfl, S, rfl, hz, _, _, rfl, rfl, two ((hS.cut _ _).add hx) (hS.cut _ _) (by decide), txt ((d2.trans dr).mono (by omega)) ((((hS.cut _ _).add hx).add (hS.cut _ _)).mono (by decide))⟩
    refine ⟨_, rfl, rfl, _, rfl, ite2 (fun _ => ?_) (fun _ => ?_)⟩
    · exact ⟨_, rfl, _, rfl, _, rfl, S, rfl, hz, _, rfl, _, rfl, _, _, rfl, rfl, _, rfl, S, rfl, hz, _, _, rfl, rfl, two (hS.cut _ _) (hS.cut _ _) (by decide), txt here (((hS.cut _ _).add (hS.cut _ _)).mono (by decide))⟩
    refine ⟨_, rfl, rfl, _, rfl, ite2 (fun _ => ?_) (fun _ => ?_)⟩
    · have hc := Tx.one (hS.2 _ (List.getElem_mem hj))
      exact ⟨_, rfl, _, rfl, _, rfl, S, _, S.cps.toList[j], rfl, rfl, hz, atI_nat (by simp [hj]), _, _, rfl, rfl, two hS hc (by decide), txt here ((hS.add hc).mono (by decide))⟩
    refine ⟨_, rfl, rfl, _, rfl, ite2 (fun _ => ?_) (fun _ => ?_)⟩
    · exact ⟨_, rfl, 1, rfl, S, rfl, hz, txt here ((hS.cut _ _).mono (by decide))⟩
    refine ⟨_, rfl, rfl, _, rfl, ite2 (fun _ => ?_) (fun _ => ?_)⟩
    · exact ⟨_, rfl, _, _, rfl, rfl, two hS lit2 (by decide), 11, rfl, _, rfl, (hS.add lit2).len (by decide), txt here (((hS.add lit2).cut _ _).mono (by decide))⟩
    refine ⟨_, rfl, rfl, _, rfl, ite2 (fun _ => ?_) (fun _ => ?_)⟩
    · refine ⟨⟨_, rfl⟩, PySem.Str.ofString "0123456789ab", rfl, fun D hD => lc_ff walk_signs (fun x => match x with | .str y => !(y.cps.toList.all fun c => decide (c ∈ (cutS S none (some (2 : Int))).cps.toList)) | _ => false) (fun x => x) hD (fun _ _ => trivial) (by rw [signs_len]; exact Nat.lt_of_le_of_lt lit.1 (by decide)) (fun x => rfl) ?_ ?_ ?_⟩
      · intro x H' C hx _ hC
        obtain ⟨ch, _, rfl⟩ := mem_signs hx
        have hC := hC H' (Same.refl _)
        have eS : (match V.str ⟨#[ch]⟩ with | .str y => !(y.cps.toList.all fun c => decide (c ∈ (cutS S none (some (2 : Int))).cps.toList)) | _ => false) = !decide (ch ∈ (cutS S none (some (2 : Int))).cps.toList) := by
          show (!([ch].all fun c => decide (c ∈ (cutS S none (some (2 : Int))).cps.toList))) = _
          simp
        rw [eS] at hC
        exact ⟨_, rfl, _, rfl, 2, rfl, S, rfl, hz, ch, _, rfl, rfl, _, rfl, hC⟩
      · intro x H' C hx _ _ hC
        exact ⟨_, rfl, hC H' (Same.refl _)⟩
      intro H3 s3 hl3
      rw [List.map_id'] at hl3
      obtain ⟨l, hl, hsub⟩ : ∃ l : List Nat, (signs (PySem.Str.ofString "0123456789ab")).filter (fun x => match x with | .str y => !(y.cps.toList.all fun c => decide (c ∈ (cutS S none (some (2 : Int))).cps.toList)) | _ => false) = l.map sg ∧ l.length ≤ 12 ∧ ∀ c ∈ l, c ∈ (PySem.Str.ofString "0123456789ab").cps.toList := by
        have aux : ∀ (q : V → Bool) (m : List Nat), ∃ l : List Nat, (m.map sg).filter q = l.map sg ∧ l.length ≤ m.length ∧ ∀ c ∈ l, c ∈ m := by
          intro q m
          refine ⟨m.filter fun c => q (sg c), ?_, List.length_filter_le _ _, fun c hc => (List.mem_filter.mp hc).1⟩
          rw [List.filter_map]
          rfl
        exact aux _ _
      rw [hl] at hl3
      have e : Txt.join (PySem.Str.ofString "") (l.map fun c => (⟨#[c]⟩ : Str)) = mkS l := by
        rw [TL.join_eq]
        exact join_signs _
      have tl : Tx 12 (mkS l) := ⟨by rw [mkS_len]; exact hsub.1, fun c hc => lit.2 c (hsub.2 c hc)⟩
      refine ⟨_, D, l.map (fun c => (⟨#[c]⟩ : Str)), rfl, rfl, .inl ?_, ?_, ?_⟩
      · rw [List.map_map]
        exact SqL.of hl3
      · rw [sum_ones, List.length_map]
        have : (PySem.Str.ofString "").length = 0 := by decide
        rw [this]
        have := hsub.1
        omega
      · rw [e]
        exact ⟨10, rfl, _, rfl, tl.len (by decide), txt (⟨here.but.trans (.of s3), here.pen.same s3⟩) ((tl.cut _ _).mono (by decide))⟩
    refine ⟨_, rfl, _, rfl, ⟨_, rfl⟩, S, rfl, rfl, Nat.le_trans hS.1 (by decide), _, rfl, S, rfl, Nat.le_trans hS.1 (by decide), fun y hy1 hy2 => ?_⟩
    have ty : Tx 10 y := ⟨Nat.le_trans hy1 hS.1, fun c hc => hS.2 c (hy2 c hc)⟩
    refine ⟨_, rfl, by show 1 ≤ sizeLine; decide, fun q1 H3 b1 n3 => ⟨_, rfl, S, _, rfl, rfl, two hS (show Tx 1 (PySem.Str.ofString "\n") from ⟨by decide, by decide⟩) (by decide), _, rfl, p, c, n + 2, rfl, d2.pen.same n3.same, by omega, fun H4 v4 o4 d4 rp4 f4 dp4 sh4 ln4 le4 => ⟨by show 8 ≤ sizeLine; decide, fun q2 H5 n5 => ?_⟩⟩⟩
    have q1p : q1 ≠ p := fun z => d2.pen.ne n3.free z.symm
    have q1H : H4 q1 = some (.lst [.str S]) := d4.but _ _ q1p n3.here
    have q2p : q2 ≠ p := fun z => d4.pen.ne n5.free z.symm
    have dr5 : DrewP H p c (n + 3) H5 := ⟨((d2.but.trans (.of n3.same)).trans d4.but).trans (.of n5.same), d4.pen.same n5.same⟩
    refine ⟨p, c, q2, _, n + 3, rfl, dr5.pen, by omega, SqL.of n5.here, q2p, by show 0 < 8; decide, by show 8 ≤ 1000000; decide, fun H6 x d6 hx => ?_⟩
    have dr6 : DrewP H p c (n + 4) H6 := dr5.trans d6
    have q1H6 : H6 q1 = some (.lst [.str S]) := d6.but _ _ q1p (n5.same _ _ q1H)
    have no : ∀ {P : Prop}, false = true → P := fun z => by cases z
    rcases List.mem_cons.mp hx with rfl | hx
    · exact txt dr6 (hS.up.mono (by decide))
    rcases List.mem_cons.mp hx with rfl | hx
    · exact txt dr6 (ty.mono (by decide))
    rcases List.mem_cons.mp hx with rfl | hx
    · refine k _ _ (.list [.str S]) dr6 ⟨.lst q1H6 q1p (fun _ => b1) (.cons (.str _ _) (.nil _)), ?_, (by show max 0 0 + 1 ≤ 5; decide), rfl, ?_, by show 1 ≤ 100; decide⟩
      · show (decide (1 ≤ 4000) && (decide (S.length ≤ 4000) && true)) = true
        rw [decide_eq_true (Nat.le_trans hS.1 (by decide))]
        rfl
      · refine Nat.le_trans (shown_wt _ ?_) ?_
        · show ((S.cps.toList.all fun c => decide (c < 16 ^ 8)) && true) = true
          rw [Bool.and_true, List.all_eq_true]
          exact fun c hc => decide_eq_true (Nat.lt_trans (hS.2 c hc) (by decide))
        · show (10 * S.length + 2) + 2 + 0 + 4 ≤ 20000
          have := hS.1
          omega
    rcases List.mem_cons.mp hx with rfl | hx
    · exact txt dr6 ((hS.add (show Tx 1 (PySem.Str.ofString "\n") from ⟨by decide, by decide⟩)).mono (by decide))
    rcases List.mem_cons.mp hx with rfl | hx
    · exact txt dr6 ⟨by decide, by decide⟩
    rcases List.mem_cons.mp hx with rfl | hx
    · exact txt dr6 ⟨by decide, by decide⟩
    rcases List.mem_cons.mp hx with rfl | hx
    · exact txt dr6 ⟨by decide, by decide⟩
    rcases List.mem_cons.mp hx with rfl | hx
    · exact k _ _ o4 dr6 ⟨(rp4.but (.of n5.same)).but d6.but, f4, Nat.le_trans dp4 (by decide), sh4, Nat.le_trans ln4 (by decide), le4⟩
    cases hx
end
end My
end
section
set_option Elab.async false
set_option linter.all false
set_option maxRecDepth 100000
set_option maxHeartbeats 4000000
/-! D7: values by their parts. -/
namespace My
open PySem PySem.Spec PyProof.Rows L2
def PlD (n e : Nat) (d : PyData) : Prop := fit d = true ∧ d.hasDict = false ∧ d.showable = true ∧ chr d = true ∧ d.depth ≤ e ∧ wt d ≤ n ∧ lenD d ≤ 100
/-- the items of a value -/
def PlA (n e : Nat) (ds : List PyData) : Prop := fitAll ds = true ∧ PyData.hasDictAll ds = false ∧ (PyData.list ds).showable = true ∧ chrAll ds = true ∧ (PyData.list ds).depth ≤ e + 1 ∧ wtAll ds ≤ n
theorem PlD.mono {n m e f : Nat} {d : PyData} (h : PlD n e d) (a : n ≤ m) (b : e ≤ f) : PlD m f d := ⟨h.1, h.2.1, h.2.2.1, h.2.2.2.1, Nat.le_trans h.2.2.2.2.1 b, Nat.le_trans h.2.2.2.2.2.1 a, h.2.2.2.2.2.2⟩
theorem PlA.nil (e : Nat) : PlA 0 e [] := ⟨rfl, rfl, rfl, rfl, by show 0 + 1 ≤ e + 1; omega, Nat.le_refl _⟩
theorem PlA.cons {n m e : Nat} {d : PyData} {ds : List PyData} (h : PlD n e d) (t : PlA m e ds) : PlA (n + 2 + m) e (d :: ds) := by
  obtain ⟨h1, h2, h3, h4, h5, h6, _⟩ := h
  obtain ⟨t1, t2, t3, t4, t5, t6⟩ := t
  refine ⟨?_, ?_, ?_, ?_, ?_, ?_⟩
  · show (fit d && fitAll ds) = true
    rw [h1, t1]; rfl
  · show (d.hasDict || PyData.hasDictAll ds) = false
    rw [h2, t2]; rfl
  · show (d.showable && (PyData.list ds).showable) = true
    rw [h3, t3]; rfl
  · show (chr d && chrAll ds) = true
    rw [h4, t4]; rfl
  · have t5' : (PyData.list ds).depth ≤ e + 1 := t5
    have q : (PyData.list (d :: ds)).depth = max d.depth ((PyData.list ds).depth - 1) + 1 := rfl
    rw [q]
    omega
  · show wt d + 2 + wtAll ds ≤ n + 2 + m
    omega
theorem PlA.list {n e : Nat} {ds : List PyData} (h : PlA n e ds) (l : ds.length ≤ 100) : PlD (n + 4) (e + 1) (.list ds) := by
  obtain ⟨t1, t2, t3, t4, t5, t6⟩ := h
  refine ⟨?_, t2, t3, t4, t5, by show wtAll ds + 4 ≤ n + 4; omega, l⟩
  show (decide (ds.length ≤ 4000) && fitAll ds) = true
  rw [decide_eq_true (Nat.le_trans l (by decide)), t1]; rfl
theorem PlA.tuple {n e : Nat} {ds : List PyData} (h : PlA n e ds) (l : ds.length ≤ 100) : PlD (n + 4) (e + 1) (.tuple ds) := by
  obtain ⟨t1, t2, t3, t4, t5, t6⟩ := h
  refine ⟨?_, t2, t3, t4, t5, by show wtAll ds + 4 ≤ n + 4; omega, l⟩
  show (decide (ds.length ≤ 4000) && fitAll ds) = true
  rw [decide_eq_true (Nat.le_trans l (by decide)), t1]; rfl
/-- a value of such data -/
def SmE (K : PySem.W.Frag) (p : Addr) (H : Hp) (n e : Nat) (v : V) : Prop := ∃ d, Rp K p H true v d ∧ PlD n e d
section
variable {K : PySem.W.Frag} {p : Addr} {H H1 : Hp} {n e m f : Nat} {v : V}
theorem SmE.mono (h : SmE K p H n e v) (a : n ≤ m) (b : e ≤ f) : SmE K p H m f v := by
  obtain ⟨d, h1, h2⟩ := h
  exact ⟨d, h1, h2.mono a b⟩
theorem SmE.but (s : But p H H1) (h : SmE K p H n e v) : SmE K p H1 n e v := by
  obtain ⟨d, h1, h2⟩ := h
  exact ⟨d, h1.but s, h2⟩
theorem SmE.same (s : Same H H1) (h : SmE K p H n e v) : SmE K p H1 n e v := h.but (.of s)
theorem SmE.text {z : Str} (h : Tx m z) (l : m ≤ 100) : SmE K p H (10 * m + 2) 0 (.str z) := by
  refine ⟨.str z, .str _ _, ?_, rfl, rfl, ?_, Nat.le_refl _, ?_, Nat.zero_le _⟩
  · show decide (z.length ≤ 4000) = true
    exact decide_eq_true (Nat.le_trans h.1 (by omega))
  · show (z.cps.toList.all fun c => decide (c < 16 ^ 8)) = true
    rw [List.all_eq_true]
    exact fun c hc => decide_eq_true (Nat.lt_trans (h.2 c hc) (by decide))
  · show 10 * z.length + 2 ≤ _
    have := h.1
    omega
theorem SmE.all : ∀ {xs : List V}, (∀ v ∈ xs, SmE K p H n e v) → ∃ ds, RpAll K p H true xs ds ∧ PlA ((n + 2) * xs.length) e ds ∧ ds.length = xs.length := by
  intro xs
  induction xs with
  | nil => intro _; exact ⟨[], .nil _, by rw [List.length_nil, Nat.mul_zero]; exact PlA.nil e, rfl⟩
  | cons x xs ih =>
    intro h
    obtain ⟨ds, r, a, l⟩ := ih fun v hv => h v (List.mem_cons_of_mem _ hv)
    obtain ⟨d, r1, a1⟩ := h x List.mem_cons_self
    refine ⟨d :: ds, .cons r1 r, ?_, by rw [List.length_cons, List.length_cons, l]⟩
    have q := PlA.cons a1 a
    have e1 : (n + 2) * (x :: xs).length = n + 2 + (n + 2) * xs.length := by
      rw [List.length_cons, Nat.mul_succ, Nat.add_comm]
    rw [e1]
    exact q
theorem SmE.lst {a : Addr} {xs : List V} (hx : H a = some (.lst xs)) (na : a ≠ p) (sy : a ≠ sysModules) (h : ∀ v ∈ xs, SmE K p H n e v) (l : xs.length ≤ 100) : SmE K p H ((n + 2) * xs.length + 4) (e + 1) (.ref a) := by
  obtain ⟨ds, r, q, ln⟩ := SmE.all h
  exact ⟨.list ds, .lst hx na (fun _ => sy) r, q.list (by omega)⟩
theorem SmE.tup {a : Addr} {xs : List V} (hx : H a = some (.tup xs)) (na : a ≠ p) (h : ∀ v ∈ xs, SmE K p H n e v) (l : xs.length ≤ 100) : SmE K p H ((n + 2) * xs.length + 4) (e + 1) (.ref a) := by
  obtain ⟨ds, r, q, ln⟩ := SmE.all h
  exact ⟨.tuple ds, .tup hx na r, q.tuple (by omega)⟩
theorem SmE.val (h : SmE K p H n e v) (a : n ≤ 20000) (b : e ≤ 5) : ∃ d, Val K p H v d := by
  obtain ⟨d, r, h1, h2, h3, h4, h5, h6, h7⟩ := h
  exact ⟨d, ⟨r, h1, Nat.le_trans h5 b, h3, Nat.le_trans (shown_wt d h4) (Nat.le_trans h6 a), h7⟩⟩
theorem SmE.non : SmE K p H 4 0 .non := ⟨.none, .non _, rfl, rfl, rfl, rfl, Nat.le_refl _, by decide +kernel, Nat.zero_le _⟩
theorem SmE.zero : SmE K p H 4 0 (.int 0) := ⟨.int 0, .int _ _, rfl, rfl, rfl, rfl, Nat.le_refl _, by decide +kernel, Nat.zero_le _⟩
theorem SmE.pairs {o : HO} (hp : H p = some o) (no : ∀ xs, o ≠ .tup xs) : ∀ {ps : List (Nat × Nat)} {ys : List V}, PairsAt H ps ys → (∀ e ∈ ps, e.1 < 128 ∧ e.2 < 128) → ∀ y ∈ ys, SmE K p H 32 1 y := by
  intro ps ys h
  induction h with
  | nil => intro _ y hy; cases hy
  | @cons a b l r h t ih =>
    intro s y hy
    rcases List.mem_cons.mp hy with rfl | hy
    · obtain ⟨q, rfl, hq⟩ := h
      have ne : q ≠ p := fun z => by
        rw [z, hp] at hq
        exact no _ (Option.some.inj hq)
      have sa := s a List.mem_cons_self
      refine SmE.mono (SmE.tup (n := 12) (e := 0) hq ne (fun v hv => ?_) (by show 2 ≤ 100; decide)) (by show 14 * 2 + 4 ≤ 32; decide) (Nat.le_refl _)
      rcases List.mem_cons.mp hv with rfl | hv
      · exact SmE.text (Tx.one sa.1) (by decide)
      rcases List.mem_cons.mp hv with rfl | hv
      · exact SmE.text (Tx.one sa.2) (by decide)
      cases hv
    · exact ih (fun e he => s e (List.mem_cons_of_mem _ he)) y hy
end
end My
end
section
set_option Elab.async false
set_option linter.all false
set_option maxRecDepth 100000
set_option maxHeartbeats 4000000
/-! D8: _law_bent_turns. -/
namespace My
open PySem PySem.Spec PyProof.Rows L2
def sp_bentT (K : PySem.W.Frag) : Sp := fun vs H Q _ => ∃ (p c t b : Addr) (S : Str) (ys : List V) (ps : List (Nat × Nat)) (n : Nat), vs = [.ref p, .ref t] ∧ PenAt H p c n ∧ n < 2 ^ 55 ∧ H t = some (.tup [.str S, .ref b]) ∧ H b = some (.lst ys) ∧ PairsAt H ps ys ∧ ps.length ≤ 20 ∧ (∀ e ∈ ps, e.1 < 128 ∧ e.2 < 128) ∧
  2 ≤ S.length ∧ Tx 10 S ∧ ∀ H' v d, DrewP H p c (n + 7) H' → Val K p H' v d → Q v H'
theorem cutV_mem {xs : List V} {lo hi : Option Int} {v : V} (h : v ∈ cutV xs lo hi) : v ∈ xs := by
  unfold cutV at h
  exact List.mem_of_mem_drop (List.mem_of_mem_take h)
abbrev s_bentT : Stmt := topS 27
abbrev NBt : List Str := ["_law_pen_here", "_law_font_here", "_law_signs", "_law_turns", "_law_one", "_law_other", "_law_more", "_law_at", "_law_way"]
section
variable {P : Program} {w : World} {K : PySem.W.Frag} {mg : Str → Option Value} {base : Heap}
theorem sc_bentT : FnScope NBt ["_law_pen_here", "_law_font_here"] (defScope s_bentT) := ⟨rfl, rfl, rfl, by decide +kernel, rfl, by decide +kernel, by decide +kernel⟩
theorem ok_bentT {f fD fP fO : Addr} {fd fdD fdP fdO : FuncData} (F : Fun K "_law_bent_turns" "_law_bent_turns" s_bentT f fd) (T : TB mg) (D : Def K mg "_law_draw" fD fdD ["_law_pen_here", "_law_many"]) (G : FnOk P w K mg base CX0 1 fD fdD ["_law_pen_here", "_law_many"] sp_draw)
    (DP : Def K mg "_law_pick" fP fdP ["_law_pen_here", "_law_options"]) (GP : FnOk P w K mg base CX0 2 fP fdP ["_law_pen_here", "_law_options"] (sp_pick K)) (GPS : FnOk P w K mg base CX0 2 fP fdP ["_law_pen_here", "_law_options"] sp_pickS)
    (DO : Def K mg "_law_odd" fO fdO ["_law_pen_here"]) (GO : FnOk P w K mg base CX0 3 fO fdO ["_law_pen_here"] (sp_odd K)) : FnOk P w K mg base CX0 4 f fd ["_law_pen_here", "_law_font_here"] (sp_bentT K) := by
  refine F.ok sc_bentT (fun vs H Q E h => ?_) (fun cdv A outer s H vs Q E hr h => ?_)
  · obtain ⟨p, c, t, b, S, ys, ps, n, rfl, _⟩ := h
    rfl
  · obtain ⟨p, c, t, b, S, ys, ps, n, rfl, hP, hn, ht, hb, hps, hl, hch, hlo, hS, k⟩ := h
    have r1 : Room 1 _ := hr.mono (by decide)
    have r2 : Room 2 _ := hr.mono (by decide)
    refine ⟨_, pss_cons (ps_asg (pv 1) (pg_tup rfl (pgs_cons (pg_name (i := 2) sc_bentT.nd rfl (Or.inl rfl)) (pgs_cons (pg_name (i := 3) sc_bentT.nd rfl (Or.inl rfl)) pgs_nil))))
      (pss_cons (ps_par (i := 4) (j := 5) rfl sc_bentT.nd rfl rfl (by decide) rfl rfl (pa_cons (pe_call GPS r2 rfl DP.mgf DP.kp DP.bd .nil pass0 (pa_cons (pv 0) (pa_cons (pv 2) pa_nil))) (pa_cons (pe_call GPS r2 rfl DP.mgf DP.kp DP.bd .nil pass0 (pa_cons (pv 0) (pa_cons (pv 2) pa_nil))) pa_nil)) (by rfl))
      (pss_cons (ps_set (i := 6) sc_bentT.nd rfl (Or.inl rfl) (pe_lst' (pa_cons (pe_tup' (pa_cons (pv 4) (pa_cons (pv 5) pa_nil))) (pa_cons (pe_lstB (pa_cons (pv 4) (pa_cons (pv 5) pa_nil))) (pa_cons (pe_tup' (pa_cons (pv 4) pa_nil)) (pa_cons (pe_tup' (pa_cons (pv 4) (pa_cons (pv 5) (pa_cons (pv 4) pa_nil))))
        (pa_cons (pe_op op_add_str (pv 4) (pv 5)) (pa_cons (pe_tup' (pa_cons (pv 4) (pa_cons pe_str pa_nil))) (pa_cons (pe_tup' (pa_cons (pv 4) (pa_cons pe_str pa_nil))) (pa_cons (pe_tup' (pa_cons pe_non (pa_cons (pv 4) pa_nil))) (pa_cons pe_non pa_nil)))))))))))
      (pss_cons (ps_set (i := 6) sc_bentT.nd rfl (Or.inl rfl) (pe_op op_cat' (pv 6) (pe_lst' (pa_cons (pe_tup' (pa_cons (pv 4) (pa_cons (pv 2) pa_nil))) (pa_cons (pe_tup' (pa_cons (pv 4) (pa_cons (pe_lstB (pa_cons (pv 5) pa_nil)) pa_nil))) (pa_cons (pe_tup' (pa_cons (pv 4) (pa_cons pe_int pa_nil))) pa_nil))))))
      (pss_cons (ps_par (i := 7) (j := 8) rfl sc_bentT.nd rfl rfl (by decide) rfl rfl (pa_cons (pe_call G r1 rfl D.mgf D.kp D.bd .nil pass0 (pa_cons (pv 0) (pa_cons (pe_op op_add (pe_callB call_len_seq (by rfl) T.len PySem.boot_len (pa_cons (pv 3) pa_nil)) pe_int) pa_nil))) (pa_cons (pe_call G r1 rfl D.mgf D.kp D.bd .nil pass0 (pa_cons (pv 0) (pa_cons pe_int pa_nil))) pa_nil)) (by rfl))
      (pss_cons (ps_if (pt_cmpR op_lt (pv 8) pe_int (nomark _)) (pss_one (ps_ret (pe_op op_catB (pe_op op_cat' (pe_slice sl_list' (pv 3) po_none (po_some (pv 7))) (pe_lst' (pa_cons (pe_call GP r2 rfl DP.mgf DP.kp DP.bd .nil pass0 (pa_cons (pv 0) (pa_cons (pv 6) pa_nil))) pa_nil)))
          (pe_slice sl_list' (pv 3) (po_some (pe_op op_add (pv 7) (pe_call G r1 rfl D.mgf D.kp D.bd .nil pass0 (pa_cons (pv 0) (pa_cons pe_int pa_nil))))) po_none)))) pss_nil)
      (pss_cons (ps_if (pt_cmpR op_eq (pv 8) pe_int (nomark _)) (pss_one (ps_ret (pe_op op_catB (pv 3) (pe_slice sl_list' (pv 3) po_none (po_some pe_int))))) pss_nil)
      (pss_one (ps_ret (pe_call GP r2 rfl DP.mgf DP.kp DP.bd .nil pass0 (pa_cons (pv 0) (pa_cons (pe_lst' (pa_cons pe_non (pa_cons pe_dnew' (pa_cons (pe_op op_add_str (pv 4) (pv 5)) (pa_cons (pe_callTy call_tupOfL (by rfl) T.tuple (by decide +kernel) (pa_cons (pv 3) pa_nil))
        (pa_cons (pe_call GO hr rfl DO.mgf DO.kp DO.bd .nil pass0 (pa_cons (pv 0) pa_nil)) (pa_cons (pe_revB (pv 3)) (pa_cons (pe_tup' (pa_cons (pe_tup' (pa_cons (pv 4) (pa_cons (pv 5) pa_nil))) pa_nil)) pa_nil)))))))) pa_nil))))))))))), ?_⟩
    have hz : S.length ≤ sizeLine := hS.len (by decide)
    refine ⟨_, rfl, t, _, rfl, SqT.of ht, rfl, _, _, rfl, _, _, rfl, rfl, ?_⟩
    refine ⟨_, rfl, _, rfl, p, c, S, n, rfl, hP, by omega, by omega, Nat.le_trans hS.1 (by decide), fun H1 x1 d1 hx1 => ?_⟩
    refine ⟨_, rfl, _, rfl, p, c, S, n + 1, rfl, d1.pen, by omega, by omega, Nat.le_trans hS.1 (by decide), fun H2 x2 d2 hx2 => ⟨_, _, rfl, ?_⟩⟩
    have t1 := Tx.one (hS.2 x1 hx1)
    have t2 := Tx.one (hS.2 x2 hx2)
    have d2 : DrewP H p c (n + 2) H2 := d1.trans d2
    refine ⟨_, rfl, _, rfl, by show 2 ≤ sizeLine; decide, fun q1 G1 n1 => ⟨_, rfl, _, rfl, by show 2 ≤ sizeLine; decide, fun q2 G2 b2 n2 => ⟨_, rfl, by show 1 ≤ sizeLine; decide, fun q3 G3 n3 => ⟨_, rfl, _, rfl, _, rfl, by show 3 ≤ sizeLine; decide, fun q4 G4 n4 => ?_⟩⟩⟩⟩
    refine ⟨_, rfl, _, rfl, _, _, rfl, rfl, by show 1 + 1 ≤ sizeLine; decide, _, rfl, by show 2 ≤ sizeLine; decide, fun q5 G5 n5 => ⟨_, rfl, by show 2 ≤ sizeLine; decide, fun q6 G6 n6 => ⟨_, rfl, by show 2 ≤ sizeLine; decide, fun q7 G7 n7 => ⟨by show 9 ≤ sizeLine; decide, fun q8 G8 n8 => ?_⟩⟩⟩⟩
    refine ⟨_, rfl, _, rfl, _, rfl, by show 2 ≤ sizeLine; decide, fun q9 G9 n9 => ⟨_, rfl, _, rfl, by show 1 ≤ sizeLine; decide, fun q10 G10 b10 n10 => ⟨by show 2 ≤ sizeLine; decide, fun q11 G11 n11 => ⟨_, rfl, by show 2 ≤ sizeLine; decide, fun q12 G12 n12 => ⟨by show 3 ≤ sizeLine; decide, fun q13 G13 n13 => ?_⟩⟩⟩⟩⟩
    have t1s := n1.same
    have t2s := t1s.trans n2.same
    have t3s := t2s.trans n3.same
    have t4s := t3s.trans n4.same
    have t5s := t4s.trans n5.same
    have t6s := t5s.trans n6.same
    have t7s := t6s.trans n7.same
    have t8s := t7s.trans n8.same
    have t9s := t8s.trans n9.same
    have t10s := t9s.trans n10.same
    have t11s := t10s.trans n11.same
    have t12s := t11s.trans n12.same
    have t13s := t12s.trans n13.same
    have u12 := n13.same
    have u11 := n12.same.trans u12
    have u10 := n11.same.trans u11
    have u9 := n10.same.trans u10
    have u8 := n9.same.trans u9
    have u7 := n8.same.trans u8
    have u6 := n7.same.trans u7
    have u5 := n6.same.trans u6
    have u4 := n5.same.trans u5
    have u3 := n4.same.trans u4
    have u2 := n3.same.trans u3
    have u1 := n2.same.trans u2
    have nep : ∀ {q : Addr} {G : Hp}, Same H2 G → G q = none → q ≠ p := fun s f z => (d2.pen.same s).ne f z.symm
    refine ⟨q8, q13, _, _, rfl, rfl, u8 _ _ n8.here, n13.here, by show 9 + 3 ≤ sizeLine; decide, fun q14 G14 n14 => ?_⟩
    have t14s := t13s.trans n14.same
    have q14p := nep t13s n14.free
    have e1 : ∀ {G : Hp}, SmE K p G 12 0 (sg x1) := SmE.text t1 (by decide)
    have e2 : ∀ {G : Hp}, SmE K p G 12 0 (sg x2) := SmE.text t2 (by decide)
    have two : ∀ {q : Addr} {G : Hp} {a b : V} {m e : Nat}, G q = some (.tup [a, b]) → q ≠ p → SmE K p G m e a → SmE K p G m e b → SmE K p G ((m + 2) * 2 + 4) (e + 1) (.ref q) := fun hq ne ha hb => SmE.tup hq ne (fun v hv => by
      rcases List.mem_cons.mp hv with rfl | hv
      · exact ha
      rcases List.mem_cons.mp hv with rfl | hv
      · exact hb
      cases hv) (by show 2 ≤ 100; decide)
    have qm : Tx 1 (PySem.Str.ofString "?") := ⟨by decide, by decide⟩
    have mt : Tx 1 (PySem.Str.ofString "") := ⟨by decide, by decide⟩
    have more13 : ∀ v ∈ [V.ref q1, V.ref q2, V.ref q3, V.ref q4, V.str (⟨#[x1]⟩ ++ ⟨#[x2]⟩), V.ref q5, V.ref q6, V.ref q7, V.non] ++ [V.ref q9, V.ref q11, V.ref q12], SmE K p G13 250 2 v := by
      intro v hv
      rcases List.mem_append.mp hv with hv | hv
      · rcases List.mem_cons.mp hv with rfl | hv
        · exact (two (u1 _ _ n1.here) (nep (Same.refl _) n1.free) e1 e2).mono (by decide) (by decide)
        rcases List.mem_cons.mp hv with rfl | hv
        · exact (SmE.lst (n := 12) (e := 0) (u2 _ _ n2.here) (nep t1s n2.free) b2 (fun v hv => by
            rcases List.mem_cons.mp hv with rfl | hv
            · exact e1
            rcases List.mem_cons.mp hv with rfl | hv
            · exact e2
            cases hv) (by show 2 ≤ 100; decide)).mono (by show 14 * 2 + 4 ≤ 250; decide) (by decide)
        rcases List.mem_cons.mp hv with rfl | hv
        · exact (SmE.tup (n := 12) (e := 0) (u3 _ _ n3.here) (nep t2s n3.free) (fun v hv => by
            rcases List.mem_cons.mp hv with rfl | hv
            · exact e1
            cases hv) (by show 1 ≤ 100; decide)).mono (by show 14 * 1 + 4 ≤ 250; decide) (by decide)
        rcases List.mem_cons.mp hv with rfl | hv
        · exact (SmE.tup (n := 12) (e := 0) (u4 _ _ n4.here) (nep t3s n4.free) (fun v hv => by
            rcases List.mem_cons.mp hv with rfl | hv
            · exact e1
            rcases List.mem_cons.mp hv with rfl | hv
            · exact e2
            rcases List.mem_cons.mp hv with rfl | hv
            · exact e1
            cases hv) (by show 3 ≤ 100; decide)).mono (by show 14 * 3 + 4 ≤ 250; decide) (by decide)
        rcases List.mem_cons.mp hv with rfl | hv
        · exact (SmE.text (t1.add t2) (by decide)).mono (by decide) (by decide)
        rcases List.mem_cons.mp hv with rfl | hv
        · exact (two (u5 _ _ n5.here) (nep t4s n5.free) e1 (SmE.text qm (by decide))).mono (by decide) (by decide)
        rcases List.mem_cons.mp hv with rfl | hv
        · exact (two (u6 _ _ n6.here) (nep t5s n6.free) e1 (SmE.text mt (by decide))).mono (by decide) (by decide)
        rcases List.mem_cons.mp hv with rfl | hv
        · exact (two (m := 12) (e := 0) (u7 _ _ n7.here) (nep t6s n7.free) (SmE.non.mono (by decide) (by decide)) e1).mono (by decide) (by decide)
        rcases List.mem_cons.mp hv with rfl | hv
        · exact SmE.non.mono (by decide) (by decide)
        cases hv
      · rcases List.mem_cons.mp hv with rfl | hv
        · exact (two (m := 102) (e := 0) (u9 _ _ n9.here) (nep t8s n9.free) (e1.mono (by decide) (by decide)) (SmE.text hS (by decide))).mono (by decide) (by decide)
        rcases List.mem_cons.mp hv with rfl | hv
        · have i10 : SmE K p G13 18 1 (.ref q10) := (SmE.lst (n := 12) (e := 0) (u10 _ _ n10.here) (nep t9s n10.free) b10 (fun v hv => by
            rcases List.mem_cons.mp hv with rfl | hv
            · exact e2
            cases hv) (by show 1 ≤ 100; decide)).mono (by show 14 * 1 + 4 ≤ 18; decide) (by decide)
          exact (two (m := 18) (e := 1) (u11 _ _ n11.here) (nep t10s n11.free) (e1.mono (by decide) (by decide)) i10).mono (by decide) (by decide)
        rcases List.mem_cons.mp hv with rfl | hv
        · exact (two (m := 12) (e := 0) (u12 _ _ n12.here) (nep t11s n12.free) e1 (SmE.zero.mono (by decide) (by decide))).mono (by decide) (by decide)
        cases hv
    have i14 := n14.here
    have il : ([V.ref q1, V.ref q2, V.ref q3, V.ref q4, V.str (⟨#[x1]⟩ ++ ⟨#[x2]⟩), V.ref q5, V.ref q6, V.ref q7, V.non] ++ [V.ref q9, V.ref q11, V.ref q12]).length = 12 := rfl
    generalize [V.ref q1, V.ref q2, V.ref q3, V.ref q4, V.str (⟨#[x1]⟩ ++ ⟨#[x2]⟩), V.ref q5, V.ref q6, V.ref q7, V.non] ++ [V.ref q9, V.ref q11, V.ref q12] = items at more13 i14 il
    have d14 : DrewP H p c (n + 2) G14 := ⟨d2.but.trans (.of t14s), d2.pen.same t14s⟩
    have bp : b ≠ p := hP.neL hb
    have yl : ys.length ≤ 20 := by rw [← hps.length]; exact hl
    obtain ⟨cs, cu, cl, hpen, _⟩ := id hP
    have hys : ∀ y ∈ ys, SmE K p H 250 2 y := fun y hy => (SmE.pairs hpen (by intro xs z; cases z) hps hch y hy).mono (by decide) (by decide)
    have hb14 := d14.but _ _ bp hb
    refine ⟨_, rfl, _, rfl, b, ys, rfl, .inl (SqL.of hb14), _, _, rfl, rfl, p, c, _, n + 2, rfl, d14.pen, by omega, by omega, by omega, fun H3 r d3 ra rb => ?_⟩
    refine ⟨_, rfl, p, c, _, n + 3, rfl, d3.pen, by omega, by decide, by decide, fun H4 wy d4 _ _ => ⟨_, _, rfl, ?_⟩⟩
    have d34 := d3.trans d4
    have dr4 : DrewP H p c (n + 4) H4 := d14.trans d34
    have hb4 := dr4.but _ _ bp hb
    have i4 := d34.but _ _ q14p i14
    have more4 : ∀ v ∈ items, SmE K p H4 250 2 v := fun v hv => ((more13 v hv).same n14.same).but d34.but
    have fin : ∀ {G : Hp} {q : Addr} {xs : List V} {m : Nat}, DrewP H p c m G → m ≤ n + 7 → G q = some (.lst xs) → q ≠ p → q ≠ sysModules → (∀ v ∈ xs, SmE K p G 250 2 v) → xs.length ≤ 60 → Q (.ref q) G := fun dr hm hq ne sy hv hx => by
      obtain ⟨d, hd⟩ := ((SmE.lst hq ne sy hv (by omega)).mono (m := 20000) (f := 3) (by omega) (Nat.le_refl _)).val (Nat.le_refl _) (by decide)
      exact k _ _ d (dr.mono hm) hd
    have cutl : ∀ lo hi, (cutV ys lo hi).length ≤ 20 := fun lo hi => Nat.le_trans (cutV_length ys lo hi) yl
    have sml : ∀ {n : Nat}, n ≤ 1000 → n ≤ sizeLine := fun h => Nat.le_trans h (by decide)
    refine ⟨_, rfl, _, _, rfl, rfl, _, rfl, ite2 (fun _ => ?_) (fun _ => ?_)⟩
    · refine ⟨_, rfl, _, rfl, _, rfl, b, ys, rfl, SqL.of hb4, fun q15 G15 n15 => ?_⟩
      have p15 := dr4.pen.same n15.same
      refine ⟨_, rfl, _, rfl, p, c, q14, _, n + 4, rfl, p15, by omega, SqL.of (n15.same _ _ i4), q14p, by omega, by omega, fun H5 v d5 hv => ⟨by show 1 ≤ sizeLine; decide, fun q16 G16 n16 => ?_⟩⟩
      have q15p : q15 ≠ p := fun z => dr4.pen.ne n15.free z.symm
      have i15 := n16.same _ _ (d5.but _ _ q15p n15.here)
      refine ⟨q15, q16, _, _, rfl, rfl, i15, n16.here, sml (by have := cutl none (some r); rw [List.length_cons, List.length_nil]; omega), fun q17 G17 n17 => ?_⟩
      have dr17 : DrewP H p c (n + 5) G17 := ⟨(((dr4.but.trans (.of n15.same)).trans d5.but).trans (.of n16.same)).trans (.of n17.same), (d5.pen.same n16.same).same n17.same⟩
      refine ⟨_, rfl, _, rfl, _, rfl, p, c, _, n + 5, rfl, dr17.pen, by omega, by decide, by decide, fun H6 r2 d6 _ _ => ⟨_, _, rfl, rfl, _, rfl, b, ys, rfl, SqL.of (d6.but _ _ bp (dr17.but _ _ bp hb)), fun q18 G18 n18 => ?_⟩⟩
      have q17p : q17 ≠ p := fun z => (d5.pen.same n16.same).ne n17.free z.symm
      have i17 := n18.same _ _ (d6.but _ _ q17p n17.here)
      refine ⟨q17, q18, _, _, rfl, rfl, i17, n18.here, sml (by
        have := cutl none (some r)
        have := cutl (some (r + r2)) none
        rw [List.length_append, List.length_cons, List.length_nil]
        omega), fun q19 G19 b19 n19 => ?_⟩
      have dr18 : DrewP H p c (n + 6) G18 := ⟨(dr17.but.trans d6.but).trans (.of n18.same), d6.pen.same n18.same⟩
      have dr19 : DrewP H p c (n + 6) G19 := ⟨dr18.but.trans (.of n19.same), dr18.pen.same n19.same⟩
      have b419 : But p H4 G19 := (((((((But.of n15.same).trans d5.but).trans (.of n16.same)).trans (.of n17.same)).trans d6.but).trans (.of n18.same)).trans (.of n19.same))
      refine fin dr19 (by omega) n19.here (fun z => dr18.pen.ne n19.free z.symm) b19 (fun x hx => ?_) (by
        have := cutl none (some r)
        have := cutl (some (r + r2)) none
        rw [List.length_append, List.length_append, List.length_cons, List.length_nil]
        omega)
      rcases List.mem_append.mp hx with hx | hx
      · rcases List.mem_append.mp hx with hx | hx
        · exact (hys x (cutV_mem hx)).but dr19.but
        · rw [List.mem_singleton.mp hx]
          exact (more4 v hv).but b419
      · exact (hys x (cutV_mem hx)).but dr19.but
    refine ⟨_, rfl, rfl, _, rfl, ite2 (fun _ => ?_) (fun _ => ?_)⟩
    · refine ⟨_, rfl, _, rfl, 1, rfl, b, ys, rfl, SqL.of hb4, fun q15 G15 n15 => ⟨b, q15, _, _, rfl, rfl, n15.same _ _ hb4, n15.here, sml (by have := cutl none (some 1); omega), fun q16 G16 b16 n16 => ?_⟩⟩
      have s16 := n15.same.trans n16.same
      have dr16 : DrewP H p c (n + 4) G16 := ⟨dr4.but.trans (.of s16), dr4.pen.same s16⟩
      refine fin dr16 (by omega) n16.here (fun z => (dr4.pen.same n15.same).ne n16.free z.symm) b16 (fun x hx => ?_) (by
        have := cutl none (some 1)
        rw [List.length_append]
        omega)
      rcases List.mem_append.mp hx with hx | hx
      · exact (hys x hx).but dr16.but
      · exact (hys x (cutV_mem hx)).but dr16.but
    refine ⟨_, rfl, fun q15 G15 n15 => ⟨_, rfl, _, rfl, _, _, rfl, rfl, by show 1 + 1 ≤ sizeLine; decide, _, rfl, b, ys, rfl, SqL.of (n15.same _ _ hb4), fun q16 G16 n16 => ⟨_, rfl, p, c, n + 4, rfl, (dr4.pen.same n15.same).same n16.same, by omega, fun H5 v5 o5 d5 rp5 f5 dp5 sh5 ln5 le5 => ?_⟩⟩⟩
    have s16 := n15.same.trans n16.same
    have dr16 : DrewP H p c (n + 4) G16 := ⟨dr4.but.trans (.of s16), dr4.pen.same s16⟩
    have dr5 : DrewP H p c (n + 5) H5 := dr16.trans d5
    have q15p : q15 ≠ p := fun z => dr4.pen.ne n15.free z.symm
    have q16p : q16 ≠ p := fun z => (dr4.pen.same n15.same).ne n16.free z.symm
    refine ⟨_, rfl, b, ys, rfl, SqL.of (dr5.but _ _ bp hb), fun q17 G17 b17 n17 => ⟨_, rfl, _, rfl, by show 2 ≤ sizeLine; decide, fun q18 G18 n18 => ⟨by show 1 ≤ sizeLine; decide, fun q19 G19 n19 => ⟨by show 7 ≤ sizeLine; decide, fun q20 G20 n20 => ?_⟩⟩⟩⟩
    have s17 := n17.same
    have s18 := s17.trans n18.same
    have s19 := s18.trans n19.same
    have s20 := s19.trans n20.same
    have q17p : q17 ≠ p := fun z => dr5.pen.ne n17.free z.symm
    have q18p : q18 ≠ p := fun z => (dr5.pen.same s17).ne n18.free z.symm
    have q19p : q19 ≠ p := fun z => (dr5.pen.same s18).ne n19.free z.symm
    have q20p : q20 ≠ p := fun z => (dr5.pen.same s19).ne n20.free z.symm
    refine ⟨p, c, q20, _, n + 5, rfl, dr5.pen.same s20, by omega, SqL.of n20.here, q20p, by show 0 < 7; decide, by show 7 ≤ 1000000; decide, fun H6 x d6 hx => ?_⟩
    have b6 : But p H5 H6 := (But.of s20).trans d6.but
    have dr6 : DrewP H p c (n + 6) H6 := ⟨dr5.but.trans b6, d6.pen⟩
    have b46 : But p G16 H6 := d5.but.trans b6
    have small : ∀ {v : V} {m e : Nat}, SmE K p H6 m e v → m ≤ 20000 → e ≤ 5 → Q v H6 := fun h a b => by
      obtain ⟨d, hd⟩ := h.val a b
      exact k _ _ d (dr6.mono (by omega)) hd
    rcases List.mem_cons.mp hx with rfl | hx
    · exact small SmE.non (by decide) (by decide)
    rcases List.mem_cons.mp hx with rfl | hx
    · exact k _ _ (.dict (([] : List PyData).zip [])) (dr6.mono (by omega)) ⟨.dct (b46 _ _ q15p (n16.same _ _ n15.here)) q15p (.nil _) (.nil _) rfl, rfl, by decide, rfl, by decide +kernel, by decide⟩
    rcases List.mem_cons.mp hx with rfl | hx
    · exact small (SmE.text (t1.add t2) (by decide)) (by decide) (by decide)
    rcases List.mem_cons.mp hx with rfl | hx
    · exact small (SmE.tup (n := 250) (e := 2) (b46 _ _ q16p n16.here) q16p (fun y hy => (hys y hy).but dr6.but) (by omega)) (by omega) (by decide)
    rcases List.mem_cons.mp hx with rfl | hx
    · exact k _ _ o5 (dr6.mono (by omega)) ⟨rp5.but b6, f5, Nat.le_trans dp5 (by decide), sh5, Nat.le_trans ln5 (by decide), le5⟩
    rcases List.mem_cons.mp hx with rfl | hx
    · exact small (SmE.lst (n := 250) (e := 2) (d6.but _ _ q17p ((n18.same.trans (n19.same.trans n20.same)) _ _ n17.here)) q17p b17 (fun y hy => (hys y (List.mem_reverse.mp hy)).but dr6.but) (by rw [List.length_reverse]; omega)) (by rw [List.length_reverse]; omega) (by decide)
    rcases List.mem_cons.mp hx with rfl | hx
    · refine small (SmE.tup (n := 32) (e := 1) (d6.but _ _ q19p (n20.same _ _ n19.here)) q19p (fun y hy => ?_) (by show 1 ≤ 100; decide)) (by show 34 * 1 + 4 ≤ 20000; decide) (by decide)
      rw [List.mem_singleton.mp hy]
      exact two (d6.but _ _ q18p ((n19.same.trans n20.same) _ _ n18.here)) q18p e1 e2
    cases hx
end
end My
end
section
set_option Elab.async false
set_option linter.all false
set_option maxRecDepth 100000
set_option maxHeartbeats 2000000
namespace My
open PySem PySem.Spec PyProof.Rows L2 LamX
/-- the heap that stands still: all but the tables and the script -/
structure Still (P : Program) (w : World) (K : PySem.W.Frag) (cs : List (Addr × Addr)) (a : Addr) (h : Heap) (H : Hp) : Prop where
  tab : ∀ p ∈ cs, H p.2 = some (.tbl #[])
  only : ∀ b u, H b = some u → (b ∈ cs.map (·.2) ∧ u = .tbl #[]) ∨ (b = a ∧ K.lookup a = none ∧ ∃ o xs, u = .frz o (.lst xs))
  ok : HOk P w H h
section
variable {P : Program} {w : World} {K : PySem.W.Frag} {mg mb : Str → Option Value} {k : Nat} {fa a : Addr} {cs : List (Addr × Addr)} {fd : FuncData} {x : Str} {sp : Sp} {s1 : Shared} {vs : List Value} {ns : List Int} {H : Hp}
abbrev emptyTab : Obj := { cls := .none, data := .fields #[] }
theorem tab_at (hT : ∀ p ∈ cs, s1.heap.get? p.2 = some emptyTab) {b : Addr} (hb : b ∈ cs.map (·.2)) : s1.heap.get? b = some emptyTab := by
  obtain ⟨p, hp, e⟩ := List.mem_map.mp hb
  exact e ▸ hT p hp
/-- what is neither a list nor an empty table stands still -/
theorem Still.free (S : Still P w K cs a s1.heap H) (hT : ∀ p ∈ cs, s1.heap.get? p.2 = some emptyTab) (ha : s1.heap.get? a = some { cls := .type "list", data := .seq vs.toArray }) {b : Addr} {o : Obj} (e : s1.heap.get? b = some o)
    (h1 : o ≠ emptyTab) (h2 : o ≠ { cls := .type "list", data := .seq vs.toArray }) : H b = none := by
  cases q : H b with
  | none => rfl
  | some u =>
    rcases S.only b u q with ⟨m, _⟩ | ⟨m, _⟩
    · rw [tab_at hT m] at e
      exact absurd (Option.some.inj e).symm h1
    · rw [m, ha] at e
      exact absurd (Option.some.inj e).symm h2
theorem still_call (S : Still P w K cs a s1.heap H) (KX : K.In s1.heap) (hns : s1.heap.Ns mainGlobals mg) (hb : s1.heap.Ns builtinsNs mb) (hbb : ∀ x : Str, x ≠ "__name__" → mb x = bootBuiltins x) (hlim : s1.heap.NoLimit) (hg : s1.gens = #[])
    (hT : ∀ p ∈ cs, s1.heap.get? p.2 = some emptyTab) (nT : ∀ p ∈ cs, K.lookup p.2 = none) (C : ∀ p ∈ cs, PySem.W.CodeHd s1.heap p.1 p.2)
    (hbm : ∃ (bm : Addr) (ob : Obj), mg "__builtins__" = some (.ref bm) ∧ bm ≠ builtinsNs ∧ s1.heap.get? bm = some ob ∧ ob.cls = .type "module" ∧ ob.dict = some builtinsNs ∧ ob.data = .plain)
    (ha : s1.heap.get? a = some { cls := .type "list", data := .seq vs.toArray }) (hr : Room k callerA) (hS : SqL K H a (ns.map V.int))
    (F : ∀ base : Heap, K.In base → base.Ns mainGlobals mg → (∀ p ∈ cs, TabB base mg p.1 p.2) → FnG P w K mg base k fa fd [x] sp) (bind1 : ∀ (s : Shared) (u : Value), BindsTo s fd ⟨[u], []⟩ [(x, u)])
    (hsp : sp [.ref a] H (fun v _ => v = .bl true) fun _ _ _ => False) :
    codeAny (model P w) callerA (.call (.ref fa) ⟨[.ref a], []⟩) (fun r s' => r = .ok (.ret (.bool true)) ∧ OldK s1.heap s'.heap ∧ s'.os = s1.os ∧ AllBare s'.gens) s1 := by
  have inB : ∀ {b : Addr} {o : Obj}, s1.heap.get? b = some o → H b = none → (hidT s1.heap H).get? b = some o := fun e n => hidT_get e n
  have dictB : ∀ {b : Addr} {m : Str → Option Value}, s1.heap.Ns b m → (hidT s1.heap H).Ns b m := by
    rintro b m ⟨o, es, ep, e, d, r⟩
    exact ⟨o, es, ep, inB e (S.free hT ha e (fun z => by rw [z] at d; cases d) fun z => by rw [z] at d; cases d), d, r⟩
  have kinB : K.In (hidT s1.heap H) := by
    intro b o e
    refine inB (KX b o e) ?_
    cases q : H b with
    | none => rfl
    | some u =>
      rcases S.only b u q with ⟨m, _⟩ | ⟨m, m2, _⟩
      · obtain ⟨p, hp, ep⟩ := List.mem_map.mp m
        have := nT p hp
        rw [ep, e] at this
        cases this
      · rw [← m, e] at m2
        cases m2
  have modB : L2.Mod K mg (hidT s1.heap H) := by
    refine ⟨kinB, dictB hns, ⟨mb, dictB hb, hbb⟩, ?_⟩
    obtain ⟨mc, h1, h2⟩ := hlim
    exact ⟨mc, dictB h1, h2⟩
  have tabB : ∀ p ∈ cs, TabB (hidT s1.heap H) mg p.1 p.2 := by
    intro p hp
    have tp := hT p hp
    constructor
    · obtain ⟨o, us, file, tf, flags, tg, inF, text, tt, e1, r1, r2, r3, r4, r5, r6, r7, r8, hne⟩ := C p hp
      refine ⟨o, us, file, tf, flags, tg, inF, text, tt, inB e1 (S.free hT ha e1 (fun z => ?_) fun z => ?_), r1, r2, r3, r4, r5, r6, r7, r8, hne⟩
      · rw [z] at r2
        cases r2
        simp at r3
      · rw [z] at r2
        cases r2
    · obtain ⟨bm, ob, b1, b2, b3, b4, b5, b6⟩ := hbm
      refine ⟨bm, ob, b1, b2, fun q => ?_, fun q => ?_, inB b3 (S.free hT ha b3 (fun z => ?_) fun z => ?_), b4, b5, b6⟩
      · obtain ⟨o, es, ep, e, hd, _⟩ := hns
        rw [q, e] at b3
        rw [Option.some.inj b3, b6] at hd
        cases hd
      · rw [q, tp] at b3
        rw [← Option.some.inj b3] at b6
        cases b6
      · rw [z] at b6
        cases b6
      · rw [z] at b6
        cases b6
    · intro z
      obtain ⟨o, es, ep, e, hd, _⟩ := hns
      rw [z, tp] at e
      rw [← Option.some.inj e] at hd
      cases hd
  have e0 : Env0 P w K mg (hidT s1.heap H) callerA [] s1 H := ⟨rfl, modB, fun b o e => of_hidT e, Nat.le_of_eq (hidT_size _ _), trivial, fun b m => absurd (show b ∈ ([] : List Addr) from m) (by simp), S.ok, .of_eq hg⟩
  refine codeAny_mono ((F _ kinB (dictB hns) tabB).goes callerA [] s1 H ⟨[.ref a], []⟩ [.ref a] [.ref a] _ _ rfl hr e0 (bind1 s1 (.ref a)) (.cons rfl .nil) hsp) ?_
  intro r s' hq
  match r, hq with
  | .error e, hq => exact hq.elim
  | .ok .next, hq => exact hq.elim
  | .ok .brk, hq => exact hq.elim
  | .ok .cont, hq => exact hq.elim
  | .ok (.ret u), hq =>
    obtain ⟨v, H', os, bare, un, ok', rv, q⟩ := hq
    have q : v = .bl true := q
    subst q
    obtain rfl : u = Value.bool true := rv
    have nof : ∀ b : Addr, b ∉ frs [] := fun b m => absurd (show b ∈ ([] : List Addr) from m) (by simp)
    have stay : ∀ b o, b ∉ cs.map (·.2) → s1.heap.get? b = some o → s'.heap.get? b = some o := by
      intro b o nb e
      cases z : H b with
      | none => exact un.keep b o e z (nof b) (by simp)
      | some u =>
        rcases S.only b u z with ⟨m, _⟩ | ⟨_, _, ob, xs, rfl⟩
        · exact absurd m nb
        · have z2 := un.frzs b ob _ z
          have e1 := (S.ok b _ z).1
          have e2 := (ok' b _ z2).1
          rw [e1] at e
          exact Option.some.inj e ▸ e2
    have grow : ∀ p ∈ cs, ∃ more : Array Value, s'.heap.get? p.2 = some { cls := .none, data := .fields more } := by
      intro p hp
      obtain ⟨more, z⟩ := un.tbls p.2 #[] (S.tab p hp)
      exact ⟨_, ok' p.2 _ z⟩
    refine ⟨rfl, ⟨fun b o e => ?_, fun b o e => ?_⟩, os, bare⟩
    · by_cases hb : b ∈ cs.map (·.2)
      · obtain ⟨p, hp, ep⟩ := List.mem_map.mp hb
        obtain ⟨more, hm⟩ := grow p hp
        subst ep
        have eo : o = emptyTab := by
          rw [hT p hp] at e
          exact (Option.some.inj e).symm
        subst eo
        exact .inr (.inl ⟨((C p hp).tab (hT p hp)).isCodeTable, rfl, #[], more, rfl, by rw [Array.empty_append]; exact hm⟩)
      · exact .inl (stay b o hb e)
    · by_cases hb : b ∈ cs.map (·.2)
      · obtain ⟨p, hp, ep⟩ := List.mem_map.mp hb
        obtain ⟨more, hm⟩ := grow p hp
        exact ⟨_, ep ▸ hm⟩
      · exact ⟨o, stay b o hb e⟩
theorem law_callG (KX : K.In s1.heap) (hns : s1.heap.Ns mainGlobals mg) (hb : s1.heap.Ns builtinsNs mb) (hbb : ∀ x : Str, x ≠ "__name__" → mb x = bootBuiltins x) (hlim : s1.heap.NoLimit) (hg : s1.gens = #[])
    (hT : ∀ p ∈ cs, s1.heap.get? p.2 = some emptyTab) (nT : ∀ p ∈ cs, K.lookup p.2 = none) (C : ∀ p ∈ cs, PySem.W.CodeHd s1.heap p.1 p.2)
    (hbm : ∃ (bm : Addr) (ob : Obj), mg "__builtins__" = some (.ref bm) ∧ bm ≠ builtinsNs ∧ s1.heap.get? bm = some ob ∧ ob.cls = .type "module" ∧ ob.dict = some builtinsNs ∧ ob.data = .plain)
    (ha : s1.heap.get? a = some { cls := .type "list", data := .seq vs.toArray }) (hi : IntsAre vs ns) (hl : ns.length ≤ sizeLine) (hr : Room k callerA)
    (F : ∀ base : Heap, K.In base → base.Ns mainGlobals mg → (∀ p ∈ cs, TabB base mg p.1 p.2) → FnG P w K mg base k fa fd [x] sp) (bind1 : ∀ (s : Shared) (u : Value), BindsTo s fd ⟨[u], []⟩ [(x, u)])
    (hsp : ∀ H : Hp, (∀ p ∈ cs, H p.2 = some (.tbl #[])) → SqL K H a (ns.map V.int) → sp [.ref a] H (fun v _ => v = .bl true) fun _ _ _ => False) :
    codeAny (model P w) callerA (.call (.ref fa) ⟨[.ref a], []⟩) (fun r s' => r = .ok (.ret (.bool true)) ∧ OldK s1.heap s'.heap ∧ s'.os = s1.os ∧ AllBare s'.gens) s1 := by
  have rel := vals_ints hi
  have lenV := hi.length
  have aT : a ∉ cs.map (·.2) := by
    intro m
    have z := tab_at hT m
    rw [ha] at z
    cases z
  have mem : ∀ p ∈ cs, p.2 ∈ cs.map (·.2) := fun p hp => List.mem_map.mpr ⟨p, hp, rfl⟩
  by_cases hk : K.lookup a = none
  · let H0 : Hp := fun b => if b = a then some (.frz { cls := .type "list", data := .seq vs.toArray } (.lst (ns.map V.int))) else if b ∈ cs.map (·.2) then some (.tbl #[]) else none
    have atA : H0 a = some (.frz { cls := .type "list", data := .seq vs.toArray } (.lst (ns.map V.int))) := if_pos rfl
    have atT : ∀ p ∈ cs, H0 p.2 = some (.tbl #[]) := fun p hp => (if_neg (show ¬ p.2 = a from fun e => aT (e ▸ mem p hp))).trans (if_pos (mem p hp))
    have S : Still P w K cs a s1.heap H0 := by
      refine ⟨atT, fun b u e => ?_, fun b u e => ?_⟩
      · by_cases q : b = a
        · subst q
          rw [atA] at e
          exact .inr ⟨rfl, hk, _, _, (Option.some.inj e).symm⟩
        · have e2 : H0 b = if b ∈ cs.map (·.2) then some (.tbl #[]) else none := if_neg q
          rw [e2] at e
          by_cases m : b ∈ cs.map (·.2)
          · rw [if_pos m] at e
            exact .inl ⟨m, (Option.some.inj e).symm⟩
          · rw [if_neg m] at e
            cases e
      · by_cases q : b = a
        · subst q
          rw [atA] at e
          obtain rfl := Option.some.inj e
          exact ⟨ha, by rw [List.length_map]; exact hl, vs, _, rel, ha⟩
        · have e2 : H0 b = if b ∈ cs.map (·.2) then some (.tbl #[]) else none := if_neg q
          rw [e2] at e
          by_cases m : b ∈ cs.map (·.2)
          · rw [if_pos m] at e
            obtain rfl := Option.some.inj e
            exact tab_at hT m
          · rw [if_neg m] at e
            cases e
    have hS : SqL K H0 a (ns.map V.int) := .inl (.inr ⟨_, atA⟩)
    exact still_call S KX hns hb hbb hlim hg hT nT C hbm ha hr hS F bind1 (hsp H0 atT hS)
  · obtain ⟨o, ho⟩ := Option.ne_none_iff_exists'.mp hk
    have eo := KX a o ho
    rw [ha] at eo
    obtain rfl := Option.some.inj eo
    let H0 : Hp := fun b => if b ∈ cs.map (·.2) then some (.tbl #[]) else none
    have atT : ∀ p ∈ cs, H0 p.2 = some (.tbl #[]) := fun p hp => if_pos (mem p hp)
    have S : Still P w K cs a s1.heap H0 := by
      refine ⟨atT, fun b u e => ?_, fun b u e => ?_⟩
      · by_cases m : b ∈ cs.map (·.2)
        · rw [show H0 b = some (.tbl #[]) from if_pos m] at e
          exact .inl ⟨m, (Option.some.inj e).symm⟩
        · rw [show H0 b = none from if_neg m] at e
          cases e
      · by_cases m : b ∈ cs.map (·.2)
        · rw [show H0 b = some (.tbl #[]) from if_pos m] at e
          obtain rfl := Option.some.inj e
          exact tab_at hT m
        · rw [show H0 b = none from if_neg m] at e
          cases e
    have hS : SqL K H0 a (ns.map V.int) := .inr ⟨_, vs.toArray, _, ho, rfl, rfl, rfl, by rw [List.size_toArray, lenV]; exact hl, by simpa using rel⟩
    exact still_call S KX hns hb hbb hlim hg hT nT C hbm ha hr hS F bind1 (hsp H0 atT hS)
end
/-- what the head's heap tells of the law -/
def LawG (l : PySem.W.OpenLaw) (w : World) (K : PySem.W.Frag) (k n : Nat) (x : Str) (mg : Str → Option Value) (fa : Addr) (h : Heap) : Prop :=
  ∃ (fd : FuncData) (cs : List (Addr × Addr)) (sp : Sp), (∀ p ∈ cs, h.get? p.2 = some emptyTab) ∧ (∀ p ∈ cs, K.lookup p.2 = none) ∧ (∀ p ∈ cs, PySem.W.CodeHd h p.1 p.2) ∧ (∀ (s : Shared) (u : Value), BindsTo s fd ⟨[u], []⟩ [(x, u)]) ∧
    (∀ (H : Hp) (a : Addr) (ns : List Int), ns.length ≤ n → (∀ z ∈ ns, Builtin.Int.intBits z ≤ 1048576) → (∀ p ∈ cs, H p.2 = some (.tbl #[])) → SqL K H a (ns.map V.int) → sp [.ref a] H (fun v _ => v = .bl true) fun _ _ _ => False) ∧
    ∀ base : Heap, K.In base → base.Ns mainGlobals mg → (∀ p ∈ cs, TabB base mg p.1 p.2) → FnG l.prog w K mg base k fa fd [x] sp
theorem walkG {l : PySem.W.OpenLaw} {n k : Nat} {q : Program} {loose : List Str} {XP : (Str → Option Value) → Heap → Prop} {YP : World → Heap → Prop} {d : DefRec} {K : Params → PySem.W.Frag} {x : Str}
    (hn : l.most = some n) (hn2 : n ≤ sizeLine) (hdf : d.params.defaults = []) (hr : Room k callerA) (hY : ∀ (w : World) (h : Heap), YP w h → (K w.params).In h)
    (F : ∀ (w : World) (mg : Str → Option Value) (fa : Addr) (h : Heap), YP w h → (K w.params).In h → h.Ns mainGlobals mg → mg d.name = some (.ref fa) → LawG l w (K w.params) k n x mg fa h) :
    PySem.W.WalkO q loose XP YP l.row.toRowW d [] (fun f vs => PySem.call f vs) := by
  apply Att.attach_callB hn hdf
  intro w s0 s1 mg mb fa o pm cd doc a vs ns G Y ho hd hcd hmg hobj hints hlen hbits hg
  have KX := hY w _ Y
  obtain ⟨fd, cs, sp, hT, nT, C, hb, hsp, hF⟩ := F w mg fa _ Y KX G.T.g hmg
  exact law_callG KX G.T.g G.T.b G.T.builtins G.T.nolimit hg hT nT C G.T.bmain hobj hints (Nat.le_trans hlen hn2) hr hF hb fun H hH hS => hsp H a ns hlen hbits hH hS
end My
end
section
set_option Elab.async false
set_option linter.all false
set_option maxRecDepth 100000
set_option maxHeartbeats 4000000
/-! D9: what is shown, whatever stands in it; frames. -/
namespace My
open PySem PySem.Spec PyProof.Rows L2 LamX
section
variable {K : PySem.W.Frag} {p : Addr} {H H1 : Hp}
mutual
theorem Rp.ext (s : ExtN H H1) : ∀ {st : Bool} {d : PyData} {v : V}, Rp K p H st v d → Rp K p H1 st v d
  | _, _, _, .non _ => .non _
  | _, _, _, .bl _ b => .bl _ b
  | _, _, _, .int _ i => .int _ i
  | _, _, _, .str _ z => .str _ z
  | _, _, _, .lst h n m r => .lst (s _ _ h fun _ z => by cases z) n m (RpAll.ext s r)
  | _, _, _, .tup h n r => .tup (s _ _ h fun _ z => by cases z) n (RpAll.ext s r)
  | _, _, _, .dct h n r1 r2 e => .dct (s _ _ h fun _ z => by cases z) n (RpAll.ext s r1) (RpAll.ext s r2) e
  | _, _, _, .emp h => .emp h
theorem RpAll.ext (s : ExtN H H1) : ∀ {st : Bool} {ds : List PyData} {vs : List V}, RpAll K p H st vs ds → RpAll K p H1 st vs ds
  | _, _, _, .nil _ => .nil _
  | _, _, _, .cons a b => .cons (Rp.ext s a) (RpAll.ext s b)
end
theorem PenAt.ext {c : Addr} {n : Nat} (s : ExtN H H1) (h : PenAt H p c n) : PenAt H1 p c n := by
  obtain ⟨cs, u, z, h1, h2, h3, h4, h5⟩ := h
  exact ⟨cs, u, z, s _ _ h1 (fun _ z => by cases z), s _ _ h2 (fun _ z => by cases z), h3, h4, h5⟩
theorem Tabs.but {c : Addr} {n : Nat} {T : List (Addr × Str)} (h : PenAt H p c n) (b : But p H H1) (t : Tabs T H) : Tabs T H1 := fun e he => by
  obtain ⟨ps, h1, h2, h3⟩ := t e he
  obtain ⟨cs, u, z, hp, _⟩ := h
  refine ⟨ps, b _ _ (ne_of h1 hp (by intro z; cases z)) h1, h2, fun pos cv hc => ?_⟩
  obtain ⟨c', e1, e2⟩ := h3 pos cv hc
  exact ⟨c', e1, b _ _ (fun z => by rw [z, hp] at e2; have := Option.some.inj e2; unfold CodeO at this; cases this) e2⟩
theorem two_rp {r : Addr} {v1 v2 : V} {d1 d2 : PyData} (hr : H r = some (.tup [v1, v2])) (ne : r ≠ p) (h1 : Rp K p H true v1 d1) (h2 : Rp K p H true v2 d2) : Rp K p H true (.ref r) (.tuple [d1, d2]) := .tup hr ne (.cons h1 (.cons h2 (.nil _)))
/-- what can be shown -/
structure Sho (n : Nat) (d : PyData) : Prop where
  shw : d.showable = true
  len : d.shown.length ≤ n
  dep : d.depth ≤ 20
theorem Val.sho {v : V} {d : PyData} (h : Val K p H v d) : Sho 20000 d := ⟨h.shw, h.len, Nat.le_trans h.dep (by decide)⟩
theorem two_sho {a b : PyData} {n m : Nat} (ha : Sho n a) (hb : Sho m b) (da : a.depth ≤ 10) (db : b.depth ≤ 10) : Sho (n + m + 8) (.tuple [a, b]) := by
  refine ⟨?_, ?_, ?_⟩
  · show (a.showable && (b.showable && true)) = true
    rw [ha.shw, hb.shw]; rfl
  · have := tuple_le [a.shown, b.shown]
    have e : ([a.shown, b.shown].map (·.length)).sum = a.shown.length + b.shown.length := by simp
    rw [e] at this
    show (tupleText [a.shown, b.shown]).length ≤ _
    simp only [List.length_cons, List.length_nil] at this
    have := ha.len
    have := hb.len
    omega
  · show max a.depth (max b.depth 0) + 1 ≤ 20
    omega
end
def qReprH (K : PySem.W.Frag) : List V → Hp → VK → Prop := fun xs H Q => ∃ x d p, xs = [x] ∧ Rp K p H true x d ∧ Sho 1000000 d ∧ Q (.str d.shown) H
theorem call_reprH {X : Cx} (g : X.A.guards = some []) (hu : X.A.units + 64 < cLine) : CallR X (.builtin "repr") (qReprH X.K) := by
  intro pins s σ H xs us Q I r h
  obtain ⟨x, d, p, e, hd, hs, q⟩ := h
  exact call_reprD g hu pins s σ H xs us Q I r ⟨x, d, p, e, hd.loose _, hs.shw, Nat.le_trans hs.len (by decide), Nat.le_trans hs.dep (by decide), q⟩
/-- what is told of signs and turns -/
def tellD (d1 d2 : PyData) : PyData := match badD d1 d2 with
  | some true => .tuple [.str "font", d1]
  | some false => .tuple [.str "turns", d2]
  | none => .none
theorem word_sho (z : Str) (h : Tx 100 z) : Sho 2000 (.str z) := by
  exact ⟨rfl, Nat.le_trans (shown_wt _ (by
    show (z.cps.toList.all fun c => decide (c < 16 ^ 8)) = true
    rw [List.all_eq_true]
    exact fun c hc => decide_eq_true (Nat.lt_trans (h.2 c hc) (by decide)))) (by show 10 * z.length + 2 ≤ 2000; have := h.1; omega), Nat.zero_le _⟩
theorem tell_sho {n : Nat} {d1 d2 : PyData} (h1 : Sho n d1) (h2 : Sho n d2) (e1 : d1.depth ≤ 10) (e2 : d2.depth ≤ 10) : Sho (n + 2008) (tellD d1 d2) := by
  have a := word_sho "font" ⟨by decide, by decide⟩
  have b := word_sho "turns" ⟨by decide, by decide⟩
  unfold tellD
  split
  · have q := two_sho a h1 (Nat.zero_le _) e1
    exact ⟨q.shw, by have := q.len; omega, q.dep⟩
  · have q := two_sho b h2 (Nat.zero_le _) e2
    exact ⟨q.shw, by have := q.len; omega, q.dep⟩
  · exact ⟨rfl, Nat.le_trans (by decide +kernel : (PyData.none).shown.length ≤ 4) (by omega), Nat.zero_le _⟩
end My
end
section
set_option Elab.async false
set_option linter.all false
set_option maxRecDepth 100000
set_option maxHeartbeats 4000000
/-! D10: the law's first statements. -/
namespace My
open PySem PySem.Spec PyProof.Rows L2 LamX
theorem PS.weak {X : Cx} {st : Stmt} {t t' : TS} (h : PS X st t) (hw : ∀ D σ H, t' D σ H → t D σ H) : PS X st t' := ⟨fun pins s σ H D I q => h.run pins s σ H D I (hw D σ H q)⟩
abbrev s_law : Stmt := topS 28
abbrev LN : List Str := ["_law_script", "_law_pen_here", "_law_turn", "_law_font_here", "_law_kept", "_law_told", "_law_due_here", "_law_one", "_law_other", "_law_signs", "_law_turns"]
def forBody : Stmt → List Stmt
  | .For _ _ b _ _ => b
  | _ => []
def nth (l : List Stmt) (i : Nat) : Stmt := l.getD i (.Pass ⟨0, 0, 0, 0⟩)
abbrev outLoop : Stmt := nth (defBody s_law) 1
abbrev lawSt (i : Nat) : Stmt := nth (forBody outLoop) i
theorem sc_law : FnScope LN ["_law_script"] (defScope s_law) := ⟨rfl, rfl, rfl, by decide +kernel, rfl, by decide +kernel, by decide +kernel⟩
abbrev lamQ : Str := (envOfC "law" (defScope s_law) 0 0 .none).qual ++ "<lambda>"
abbrev LX (P : Program) (w : World) (K : PySem.W.Frag) (mg : Str → Option Value) (base : Heap) (f : Addr) (cdv : Value) (A : Around) (outer : List Env) (s : Shared) (H : Hp) (E : XK) : Cx :=
  (cxOf CX0 P w K mg base LN "law" (defScope s_law) f cdv A outer s H E).nox
abbrev sl (o0 : Option V) (p : Addr) (o2 o3 o4 o5 o6 o7 o8 o9 o10 : Option V) : L2.St := [o0, some (.ref p), o2, o3, o4, o5, o6, o7, o8, o9, o10]
theorem alpha128 : ∀ c ∈ alphabet.cps.toList, c < 128 := by decide +kernel
theorem good_tx {S : Str} {ps : List (Nat × Nat)} (g : Good 10 S ps) : Tx 10 S := ⟨g.hi, fun c hc => alpha128 c (g.ab c hc)⟩
theorem good_pairs {S : Str} {ps : List (Nat × Nat)} (g : Good 10 S ps) : ∀ e ∈ ps, e.1 < 128 ∧ e.2 < 128 := fun e he =>
  ⟨alpha128 _ (g.ab _ (g.tin _ (List.mem_flatMap.mpr ⟨e, he, spread_mem.mpr (.inl rfl)⟩))), alpha128 _ (g.ab _ (g.tin _ (List.mem_flatMap.mpr ⟨e, he, spread_mem.mpr (.inr rfl)⟩)))⟩
theorem good_len {S : Str} {ps : List (Nat × Nat)} (g : Good 10 S ps) : ps.length ≤ 10 := by
  have h1 : ps.length ≤ (ps.flatMap spread).length := by
    have : ∀ l : List (Nat × Nat), l.length ≤ (l.flatMap spread).length := by
      intro l
      induction l with
      | nil => exact Nat.le_refl _
      | cons e l ih =>
        rw [List.flatMap_cons, List.length_append, List.length_cons]
        have : 1 ≤ (spread e).length := by
          unfold spread
          split <;> simp
        omega
    exact this ps
  have h2 := (sub_perm (sgs (ps.flatMap spread)) (sgs S.cps.toList) ((sgs_nd _).mpr g.tnd) (fun z hz => by
    obtain ⟨c, hc, rfl⟩ := sgs_mem.mp hz
    exact sgs_mem.mpr ⟨c, g.tin c hc, rfl⟩)).1
  rw [List.length_map, List.length_map] at h2
  have zl : S.cps.toList.length = S.length := Array.length_toList
  have := g.hi
  omega
section
variable {P : Program} {w : World} {K : PySem.W.Frag} {mg : Str → Option Value} {base : Heap} {f : Addr} {cdv : Value} {A : Around} {outer : List Env} {s : Shared} {H0 : Hp} {E : XK}
/-- signs, turns = .. -/
def q0 : TS := fun D σ H => ∃ (o0 o2 o3 o4 o5 o6 o7 o8 o9 o10 : Option V) (p c : Addr) (n : Nat), σ = sl o0 p o2 o3 o4 o5 o6 o7 o8 o9 o10 ∧ PenAt H p c n ∧ n < 2 ^ 49 ∧
  ∀ H' b S ys ps, DrewP H p c (n + 40) H' → H' b = some (.lst ys) → PairsAt H' ps ys → Good 10 S ps → b ≠ sysModules → D.nx (sl o0 p o2 o3 o4 o5 o6 o7 o8 (some (.str S)) (some (.ref b))) H'
theorem st0 {fB : Addr} {fdB : FuncData} (DB : Def K mg "_law_font" fB fdB ["_law_pen_here", "_law_most"]) (GB : FnOk P w K mg base CX0 3 fB fdB ["_law_pen_here", "_law_most"] (sp_font K))
    (hr : Room 8 (A.deeper (envOfC "law" (defScope s_law) s.heap.objs.size f cdv))) : PS (LX P w K mg base f cdv A outer s H0 E) (lawSt 0) q0 := by
  have r3 : Room 3 _ := hr.mono (by decide)
  refine PS.weak (ps_asg (pe_call GB r3 rfl DB.mgf DB.kp DB.bd .nil pass0 (pa_cons (pv 1) (pa_cons pe_int pa_nil)))
    (pg_tup rfl (pgs_cons (pg_name (i := 9) sc_law.nd rfl (Or.inr rfl)) (pgs_cons (pg_name (i := 10) sc_law.nd rfl (Or.inr rfl)) pgs_nil)))) ?_
  rintro D σ H ⟨o0, o2, o3, o4, o5, o6, o7, o8, o9, o10, p, c, n, rfl, hP, hn, k⟩
  exact ⟨_, rfl, p, c, 10, n, rfl, hP, by omega, by decide, by decide, fun H1 t a S ys ps d1 _ _ ht ha hps hG hs => ⟨t, _, rfl, SqT.of ht, rfl, _, _, rfl, _, _, rfl, rfl, k H1 a S ys ps d1 ha hps hG hs⟩⟩
/-- font_here = .. -/
def q1 : TS := fun D σ H => ∃ (o0 o2 o3 o4 o5 o6 o7 o8 : Option V) (p b : Addr) (S : Str), σ = sl o0 p o2 o3 o4 o5 o6 o7 o8 (some (.str S)) (some (.ref b)) ∧
  ∀ H' t, New H t (.tup [.str S, .ref b]) H' → D.nx (sl o0 p o2 (some (.ref t)) o4 o5 o6 o7 o8 (some (.str S)) (some (.ref b))) H'
theorem st1 : PS (LX P w K mg base f cdv A outer s H0 E) (lawSt 1) q1 := by
  refine PS.weak (ps_set (i := 3) sc_law.nd rfl (Or.inl rfl) (pe_tup' (pa_cons (pv 9) (pa_cons (pv 10) pa_nil)))) ?_
  rintro D σ H ⟨o0, o2, o3, o4, o5, o6, o7, o8, p, b, S, rfl, k⟩
  exact ⟨_, rfl, _, rfl, by show 2 ≤ sizeLine; decide, fun t H1 n1 => k H1 t n1⟩
/-- if .. == 0: signs = .. -/
def q2 (K : PySem.W.Frag) : TS := fun D σ H => ∃ (o0 o2 o3 o4 o5 o6 o7 o8 o10 : Option V) (p c : Addr) (n : Nat) (S : Str), σ = sl o0 p o2 o3 o4 o5 o6 o7 o8 (some (.str S)) o10 ∧ PenAt H p c n ∧ n < 2 ^ 49 ∧ 2 ≤ S.length ∧ Tx 10 S ∧
  ∀ H' v d, DrewP H p c (n + 5) H' → Val K p H' v d → D.nx (sl o0 p o2 o3 o4 o5 o6 o7 o8 (some v) o10) H'
theorem st2 {fD fS : Addr} {fdD fdS : FuncData} (DD : Def K mg "_law_draw" fD fdD ["_law_pen_here", "_law_many"]) (GD : FnOk P w K mg base CX0 1 fD fdD ["_law_pen_here", "_law_many"] sp_draw)
    (DS : Def K mg "_law_bent_signs" fS fdS ["_law_pen_here", "_law_signs"]) (GS : FnOk P w K mg base CX0 4 fS fdS ["_law_pen_here", "_law_signs"] (sp_bentS K))
    (hr : Room 8 (A.deeper (envOfC "law" (defScope s_law) s.heap.objs.size f cdv))) : PS (LX P w K mg base f cdv A outer s H0 E) (lawSt 2) (q2 K) := by
  have r1 : Room 1 _ := hr.mono (by decide)
  have r4 : Room 4 _ := hr.mono (by decide)
  refine PS.weak (ps_if (pt_cmpR op_eq (pe_call GD r1 rfl DD.mgf DD.kp DD.bd .nil pass0 (pa_cons (pv 1) (pa_cons pe_int pa_nil))) pe_int (nomark _))
    (pss_one (ps_set (i := 9) sc_law.nd rfl (Or.inr rfl) (pe_call GS r4 rfl DS.mgf DS.kp DS.bd .nil pass0 (pa_cons (pv 1) (pa_cons (pv 9) pa_nil))))) pss_nil) ?_
  rintro D σ H ⟨o0, o2, o3, o4, o5, o6, o7, o8, o10, p, c, n, S, rfl, hP, hn, lo, hS, k⟩
  refine ⟨_, rfl, p, c, _, n, rfl, hP, by omega, by decide, by decide, fun H1 r d1 _ _ => ⟨rfl, _, rfl, ite2 (fun _ => ?_) (fun _ => ?_)⟩⟩
  · exact ⟨_, rfl, _, rfl, p, c, S, n + 1, rfl, d1.pen, by omega, lo, hS, fun H2 v d d2 hv => k H2 v d (d1.trans d2) hv⟩
  · exact k H1 _ _ (d1.mono (by omega)) (tx_val (hS.mono (by decide)))
/-- if .. > 0: turns = .. -/
def q3 (K : PySem.W.Frag) : TS := fun D σ H => ∃ (o0 o2 o4 o5 o6 o7 o8 o9 : Option V) (p c t b : Addr) (n : Nat) (S : Str) (ys : List V) (ps : List (Nat × Nat)), σ = sl o0 p o2 (some (.ref t)) o4 o5 o6 o7 o8 o9 (some (.ref b)) ∧ PenAt H p c n ∧ n < 2 ^ 49 ∧
  H t = some (.tup [.str S, .ref b]) ∧ H b = some (.lst ys) ∧ PairsAt H ps ys ∧ Good 10 S ps ∧ b ≠ sysModules ∧ ∀ H' v d, DrewP H p c (n + 8) H' → Val K p H' v d → D.nx (sl o0 p o2 (some (.ref t)) o4 o5 o6 o7 o8 o9 (some v)) H'
theorem st3 {fD fT : Addr} {fdD fdT : FuncData} (DD : Def K mg "_law_draw" fD fdD ["_law_pen_here", "_law_many"]) (GD : FnOk P w K mg base CX0 1 fD fdD ["_law_pen_here", "_law_many"] sp_draw)
    (DT : Def K mg "_law_bent_turns" fT fdT ["_law_pen_here", "_law_font_here"]) (GT : FnOk P w K mg base CX0 4 fT fdT ["_law_pen_here", "_law_font_here"] (sp_bentT K))
    (hr : Room 8 (A.deeper (envOfC "law" (defScope s_law) s.heap.objs.size f cdv))) : PS (LX P w K mg base f cdv A outer s H0 E) (lawSt 3) (q3 K) := by
  have r1 : Room 1 _ := hr.mono (by decide)
  have r4 : Room 4 _ := hr.mono (by decide)
  refine PS.weak (ps_if (pt_cmpR op_gt (pe_call GD r1 rfl DD.mgf DD.kp DD.bd .nil pass0 (pa_cons (pv 1) (pa_cons pe_int pa_nil))) pe_int (nomark _))
    (pss_one (ps_set (i := 10) sc_law.nd rfl (Or.inr rfl) (pe_call GT r4 rfl DT.mgf DT.kp DT.bd .nil pass0 (pa_cons (pv 1) (pa_cons (pv 3) pa_nil))))) pss_nil) ?_
  rintro D σ H ⟨o0, o2, o4, o5, o6, o7, o8, o9, p, c, t, b, n, S, ys, ps, rfl, hP, hn, ht, hb, hps, hG, sy, k⟩
  have bp := hP.neL hb
  have gl := good_len hG
  have stay : ∀ {H1 : Hp} {m : Nat}, DrewP H p c m H1 → H1 b = some (.lst ys) ∧ H1 t = some (.tup [.str S, .ref b]) ∧ PairsAt H1 ps ys := fun {H1 m} d1 => ⟨d1.but _ _ bp hb, d1.but _ _ (hP.neT ht) ht, Paired.map (fun e y hy => by
    obtain ⟨q, e1, e2⟩ := hy
    exact ⟨q, e1, d1.but _ _ (hP.neT e2) e2⟩) hps⟩
  refine ⟨_, rfl, p, c, _, n, rfl, hP, by omega, by decide, by decide, fun H1 r d1 _ _ => ⟨_, _, rfl, rfl, _, rfl, ite2 (fun _ => ?_) (fun _ => ?_)⟩⟩
  · obtain ⟨b1, t1, p1⟩ := stay d1
    exact ⟨_, rfl, _, rfl, p, c, t, b, S, ys, ps, n + 1, rfl, d1.pen, by omega, t1, b1, p1, by omega, good_pairs hG, hG.lo, good_tx hG, fun H2 v d d2 hv => k H2 v d (d1.trans d2) hv⟩
  · obtain ⟨b1, t1, p1⟩ := stay d1
    obtain ⟨cs, cu, cl, hpen, _⟩ := id d1.pen
    have yl : ys.length ≤ 10 := by rw [← hps.length]; exact gl
    obtain ⟨d, hd⟩ := ((SmE.lst b1 bp sy (SmE.pairs hpen (by intro xs z; cases z) p1 (good_pairs hG)) (by omega)).mono (m := 20000) (f := 3) (by omega) (by decide)).val (Nat.le_refl _) (by decide)
    exact k H1 _ d (d1.mono (by omega)) hd
/-- kept = repr(..) -/
def q4 (K : PySem.W.Frag) : TS := fun D σ H => ∃ (o0 o2 o3 o4 o5 o6 o7 o8 : Option V) (p c : Addr) (n : Nat) (v1 v2 : V) (d1 d2 : PyData), σ = sl o0 p o2 o3 o4 o5 o6 o7 o8 (some v1) (some v2) ∧ PenAt H p c n ∧ Val K p H v1 d1 ∧ Val K p H v2 d2 ∧
  ∀ H', Same H H' → D.nx (sl o0 p o2 o3 (some (.str (PyData.tuple [d1, d2]).shown)) o5 o6 o7 o8 (some v1) (some v2)) H'
theorem both_sho {p : Addr} {H : Hp} {v1 v2 : V} {d1 d2 : PyData} (h1 : Val K p H v1 d1) (h2 : Val K p H v2 d2) : Sho 1000000 (.tuple [d1, d2]) := by
  have q := two_sho h1.sho h2.sho (Nat.le_trans h1.dep (by decide)) (Nat.le_trans h2.dep (by decide))
  exact ⟨q.shw, Nat.le_trans q.len (by decide), q.dep⟩
theorem st4 (T : TB mg) (g : (A.deeper (envOfC "law" (defScope s_law) s.heap.objs.size f cdv)).guards = some []) (hr : Room 8 (A.deeper (envOfC "law" (defScope s_law) s.heap.objs.size f cdv))) : PS (LX P w K mg base f cdv A outer s H0 E) (lawSt 4) (q4 K) := by
  have hu64 : (A.deeper (envOfC "law" (defScope s_law) s.heap.objs.size f cdv)).units + 64 < cLine := by have := hr.un; omega
  refine PS.weak (ps_set (i := 4) sc_law.nd rfl (Or.inl rfl) (pe_callB (id := "repr") (call_reprH g hu64) (by rfl) T.repr (by decide +kernel) (pa_cons (pe_tup' (pa_cons (pv 9) (pa_cons (pv 10) pa_nil))) pa_nil))) ?_
  rintro D σ H ⟨o0, o2, o3, o4, o5, o6, o7, o8, p, c, n, v1, v2, d1, d2, rfl, hP, h1, h2, k⟩
  refine ⟨_, rfl, _, rfl, by show 2 ≤ sizeLine; decide, fun q H1 n1 => ⟨_, _, p, rfl, two_rp n1.here (fun z => hP.ne n1.free z.symm) (h1.rp.but (.of n1.same)) (h2.rp.but (.of n1.same)), both_sho h1 h2, k H1 n1.same⟩⟩
end
end My
end
section
set_option Elab.async false
set_option linter.all false
set_option maxRecDepth 100000
set_option maxHeartbeats 4000000
/-! D11: told, and held against what is due. -/
namespace My
open PySem PySem.Spec PyProof.Rows L2 LamX
def sp_due2 (K : PySem.W.Frag) : Sp := fun vs H Q _ => ∃ (p : Addr) (v1 v2 : V) (d1 d2 : PyData), vs = [v1, v2] ∧ (∃ o, H p = some o) ∧ Rp K p H true v1 d1 ∧ fit d1 = true ∧ Rp K p H true v2 d2 ∧ fit d2 = true ∧ lenD d2 ≤ 100 ∧
  ∀ H' w, Same H H' → Rp K p H' true w (tellD d1 d2) → Q w H'
theorem word_rp {K : PySem.W.Frag} {p r : Addr} {H : Hp} {z : Str} {v : V} {d : PyData} (hr : H r = some (.tup [.str z, v])) (ne : r ≠ p) (h : Rp K p H true v d) : Rp K p H true (.ref r) (.tuple [.str z, d]) := .tup hr ne (.cons (.str _ _) (.cons h (.nil _)))
section
variable {P : Program} {w : World} {K : PySem.W.Frag} {mg : Str → Option Value} {base : Heap}
theorem due2 {f : Addr} {fd : FuncData} (F : FnOk P w K mg base CX0 1 f fd ["_law_signs", "_law_turns"] (sp_due K)) : FnOk P w K mg base CX0 1 f fd ["_law_signs", "_law_turns"] (sp_due2 K) := F.imp fun vs H Q E h => by
  obtain ⟨p, v1, v2, d1, d2, rfl, ⟨o, hp⟩, h1, f1, h2, f2, l2, k⟩ := h
  have ne : ∀ {r : Addr} {H' : Hp}, H r = none → r ≠ p := fun hr z => by rw [z, hp] at hr; cases hr
  refine ⟨p, v1, v2, d1, d2, rfl, h1.loose _, f1, h2.loose _, f2, l2, fun b H' r s fr hr => k H' _ s ?_, fun b H' r s fr hr => k H' _ s ?_, fun b H' s => k H' _ s ?_⟩
  · unfold tellD
    rw [b]
    exact word_rp hr (ne (H' := H') fr) (h1.but (.of s))
  · unfold tellD
    rw [b]
    exact word_rp hr (ne (H' := H') fr) (h2.but (.of s))
  · unfold tellD
    rw [b]
    exact .non _
/-- told = _law_refused(lambda: Font(..)) -/
def q5 (K : PySem.W.Frag) (PL : Addr) : TS := fun D σ H => ∃ (o0 o2 o3 o4 o5 o6 o7 o8 : Option V) (p c : Addr) (n : Nat) (v1 v2 : V) (d1 d2 : PyData), σ = sl o0 p o2 o3 o4 o5 o6 o7 o8 (some v1) (some v2) ∧ PenAt H p c n ∧ Tabs [(PL, lamQ)] H ∧ Val K p H v1 d1 ∧ Val K p H v2 d2 ∧
  ∀ H' w, ExtN H H' → Tabs [(PL, lamQ)] H' → Rp K p H' true w (tellD d1 d2) → D.nx (sl o0 p o2 o3 o4 (some w) o6 o7 o8 (some v1) (some v2)) H'
theorem st5 {f fM C fI IF IT fIF fIT PL cL : Addr} {fdM fdI : FuncData} {A : Around} {outer : List Env} {s : Shared} {H0 : Hp} {E : XK}
    (T : TB mg) (hk : mg "ValueError" = none) (TF : VErr K mg "InvalidFont" "InvalidFont.__init__" IF fIF) (TT : VErr K mg "InvalidTurns" "InvalidTurns.__init__" IT fIT)
    (upF : PySem.W.kitOne K (.ref IF) (.type "ValueError") = some true) (upT : PySem.W.kitOne K (.ref IT) (.type "ValueError") = some true) (no : PySem.W.kitOne K (.ref IF) (.ref IT) = some false) (no2 : PySem.W.exmOne K (.ref IT) (.ref IF) = some false) (CF : ExcC K IF)
    (FM : Fun K "_law_refused" "_law_refused" s_refused fM fdM) (DM : Def K mg "_law_refused" fM fdM ["_law_call"])
    (M : Mk K C fI) (GI : FnOk P w K mg base (L2.CX P w) 4 fI fdI ["self", "signs", "turns"] (sp_initX K C IF IT)) (bI : Binds K fdI ["self", "signs", "turns"] []) (gF : mg "Font" = some (.ref C))
    (tb : TabB base mg cL PL) (hr : Room 8 (A.deeper (envOfC "law" (defScope s_law) s.heap.objs.size f (.ref cL)))) : PS (LX P w K mg base f (.ref cL) A outer s H0 E) (lawSt 5) (q5 K PL) := by
  have r7 : Room 7 _ := hr.mono (by decide)
  obtain ⟨ocM, odM, kVM, docM, pmM, anM, cdM, ctM, oslM, rfl, lkM, hcM⟩ := FM.ex
  refine PS.weak (ps_set (i := 5) sc_law.nd rfl (Or.inl rfl) (pe_lamcall (T := [(PL, lamQ)]) (k := 5) (by rfl) DM.mgf DM.kp lkM hcM DM.bd sc_refused rfl (Or.inl rfl) (refused_gives TF TT T.isi hk upF upT no no2 CF) tb rfl (List.mem_singleton.mpr rfl)
          (fun e he _ => by rw [List.mem_singleton.mp he]; rfl) r7 (lamS_by (by show lamSB (defScope s_law) _ = true; decide +kernel)) rfl (fun _ _ _ _ _ => rfl) (fun A' outer' s' H' E' f' c' hr' => pe_make (E := E') M GI hr' (by rfl) gF bI .nil (passes_call (takes_of rfl rfl rfl rfl) (fun _ _ _ _ h => h)) (pa_cons (pv 9) (pa_cons (pv 10) pa_nil)) (by decide)))) ?_
  rintro D σ H ⟨o0, o2, o3, o4, o5, o6, o7, o8, p, c, n, v1, v2, d1, d2, rfl, hP, hT, h1, h2, k⟩
  refine ⟨hT, fun H1 e1 T1 => ?_⟩
  have P1 := hP.ext e1
  refine ⟨_, rfl, _, rfl, fun x dx hx hdx ne => ?_⟩
  have up := made_up (C := C) hx hdx
  have xp : x ≠ p := fun z => P1.ne hx z.symm
  have a1 := (h1.rp.ext e1).but (.of up)
  have a2 := (h2.rp.ext e1).but (.of up)
  have fin : ∀ {H2 H3 : Hp} {r : Addr} {z : Str} {v : V} {d : PyData}, Same (upd (upd H1 dx (.own x)) x (.ins C dx [])) H2 → New H2 r (.tup [.str z, v]) H3 → Rp K p (upd (upd H1 dx (.own x)) x (.ins C dx [])) true v d → .tuple [.str z, d] = tellD d1 d2 → D.nx (sl o0 p o2 o3 o4 (some (.ref r)) o6 o7 o8 (some v1) (some v2)) H3 := by
    intro H2 H3 r z v d s2 n3 hv e
    have s13 := (up.trans s2).trans n3.same
    refine k H3 _ (e1.trans (.of s13)) (LamX.Tabs.ext T1 s13) ?_
    rw [← e]
    exact word_rp n3.here (fun z => (P1.same (up.trans s2)).ne n3.free z.symm) ((hv.but (.of s2)).but (.of n3.same))
  refine ⟨x, dx, p, v1, v2, d1, d2, rfl, upd_same, a1.loose _, h1.fit, a2.loose _, h2.fit, fun b => ?_, fun b => ?_, fun b H2 bt => ⟨rfl, ?_⟩⟩
  · intro H2 dd s2 _ hv
    exact .inl ⟨rfl, dd, v1, rfl, hv, fun r H3 n3 => fin s2 n3 a1 (by unfold tellD; rw [b])⟩
  · intro H2 dd s2 _ hv
    exact .inr ⟨rfl, dd, v2, rfl, hv, fun r H3 n3 => fin s2 n3 a2 (by unfold tellD; rw [b])⟩
  · have s12 := made_same hx hdx bt
    refine k H2 _ (e1.trans (.of s12)) (LamX.Tabs.ext T1 s12) ?_
    unfold tellD
    rw [b]
    exact .non _
/-- if repr(told) != repr(due) or repr(..) != kept: return False -/
def q6 (K : PySem.W.Frag) : TS := fun D σ H => ∃ (o0 o2 o3 o6 o7 o8 : Option V) (p c : Addr) (n : Nat) (v1 v2 v5 : V) (d1 d2 : PyData), σ = sl o0 p o2 o3 (some (.str (PyData.tuple [d1, d2]).shown)) (some v5) o6 o7 o8 (some v1) (some v2) ∧ PenAt H p c n ∧ Val K p H v1 d1 ∧ Val K p H v2 d2 ∧ Rp K p H true v5 (tellD d1 d2) ∧
  ∀ H', Same H H' → D.nx (sl o0 p o2 o3 (some (.str (PyData.tuple [d1, d2]).shown)) (some v5) o6 o7 o8 (some v1) (some v2)) H'
theorem tell_both {p : Addr} {H : Hp} {v1 v2 : V} {d1 d2 : PyData} (h1 : Val K p H v1 d1) (h2 : Val K p H v2 d2) : Sho 1000000 (tellD d1 d2) := by
  have q := tell_sho h1.sho h2.sho (Nat.le_trans h1.dep (by decide)) (Nat.le_trans h2.dep (by decide))
  exact ⟨q.shw, Nat.le_trans q.len (by decide), q.dep⟩
theorem PenAt.some {H : Hp} {p c : Addr} {n : Nat} (h : PenAt H p c n) : ∃ o, H p = Option.some o := by
  obtain ⟨cs, u, l, e, _⟩ := h
  exact ⟨_, e⟩
theorem st6 {f fE : Addr} {cdv : Value} {fdE : FuncData} {A : Around} {outer : List Env} {s : Shared} {H0 : Hp} {E : XK} (T : TB mg) (DE : Def K mg "_law_due" fE fdE ["_law_signs", "_law_turns"]) (GE : FnOk P w K mg base CX0 1 fE fdE ["_law_signs", "_law_turns"] (sp_due2 K))
    (g : (A.deeper (envOfC "law" (defScope s_law) s.heap.objs.size f cdv)).guards = Option.some []) (hr : Room 8 (A.deeper (envOfC "law" (defScope s_law) s.heap.objs.size f cdv))) : PS (LX P w K mg base f cdv A outer s H0 E) (lawSt 6) (q6 K) := by
  have r1 : Room 1 _ := hr.mono (by decide)
  have hu64 : (A.deeper (envOfC "law" (defScope s_law) s.heap.objs.size f cdv)).units + 64 < cLine := by have := hr.un; omega
  refine PS.weak (ps_if (PW.pt (pw_or (pt_cmpR op_ne (pe_callB (id := "repr") (call_reprH g hu64) (by rfl) T.repr (by decide +kernel) (pa_cons (pv 5) pa_nil)) (pe_callB (id := "repr") (call_reprH g hu64) (by rfl) T.repr (by decide +kernel) (pa_cons (pe_call GE r1 rfl DE.mgf DE.kp DE.bd .nil pass0 (pa_cons (pv 9) (pa_cons (pv 10) pa_nil))) pa_nil)) (nomark _))
    (pw_or1 (pt_cmpR op_ne (pe_callB (id := "repr") (call_reprH g hu64) (by rfl) T.repr (by decide +kernel) (pa_cons (pe_tup' (pa_cons (pv 9) (pa_cons (pv 10) pa_nil))) pa_nil)) (pv 4) (nomark _))))) (pss_one (ps_ret pe_bl)) pss_nil) ?_
  rintro D σ H ⟨o0, o2, o3, o6, o7, o8, p, c, n, v1, v2, v5, d1, d2, rfl, hP, h1, h2, h5, k⟩
  have sh := tell_both h1 h2
  refine ⟨_, rfl, _, tellD d1 d2, p, rfl, h5, sh, _, rfl, _, rfl, p, v1, v2, d1, d2, rfl, PenAt.some hP, h1.rp, h1.fit, h2.rp, h2.fit, h2.ln, fun H1 w s1 hw => ⟨_, tellD d1 d2, p, rfl, hw, sh, rfl, _, rfl, ?_⟩⟩
  rw [decide_eq_true rfl]
  refine iteF ⟨_, rfl, _, rfl, by show 2 ≤ sizeLine; decide, fun q H2 n2 => ?_⟩
  have s2 := s1.trans n2.same
  refine ⟨_, _, p, rfl, two_rp n2.here (fun z => (hP.same s1).ne n2.free z.symm) (h1.rp.but (.of s2)) (h2.rp.but (.of s2)), both_sho h1 h2, _, rfl, rfl, _, rfl, ?_⟩
  rw [decide_eq_true rfl]
  exact iteF (k H2 s2)
end
end My
end
section
set_option Elab.async false
set_option linter.all false
set_option maxRecDepth 100000
set_option maxHeartbeats 4000000
/-! D12: one, other, and what is due. -/
namespace My
open PySem PySem.Spec PyProof.Rows L2 LamX
def ofD (x : Nat) (d : PyData) : PyData := match d with
  | .str z => if z.length = 1 then tellD (.str (⟨#[x]⟩ ++ z)) (.list []) else .tuple [.str "font", .tuple [.str ⟨#[x]⟩, .str z]]
  | d => .tuple [.str "font", .tuple [.str ⟨#[x]⟩, d]]
theorem SmE.none_ {K : PySem.W.Frag} {p a : Addr} {H : Hp} (h : H a = some (.lst [])) (ne : a ≠ p) (sy : a ≠ sysModules) : SmE K p H 10 1 (.ref a) := (SmE.lst (n := 0) (e := 0) h ne sy (fun v hv => by cases hv) (by decide)).mono (by decide) (by decide)
section
variable {P : Program} {w : World} {K : PySem.W.Frag} {mg : Str → Option Value} {base : Heap} {f : Addr} {cdv : Value} {A : Around} {outer : List Env} {s : Shared} {H0 : Hp} {E : XK}
/-- one, other = .. -/
def q7 (K : PySem.W.Frag) : TS := fun D σ H => ∃ (o0 o2 o4 o5 o6 o7 o8 o9 o10 : Option V) (p c t b : Addr) (n : Nat) (S : Str), σ = sl o0 p o2 (some (.ref t)) o4 o5 o6 o7 o8 o9 o10 ∧ PenAt H p c n ∧ n < 2 ^ 49 ∧ H t = some (.tup [.str S, .ref b]) ∧ 2 ≤ S.length ∧ Tx 10 S ∧
  ∀ H' x v d, DrewP H p c (n + 3) H' → x < 128 → Val K p H' v d → (∀ z, v = .str z → Tx 2 z) → D.nx (sl o0 p o2 (some (.ref t)) o4 o5 o6 (some (sg x)) (some v) o9 o10) H'
theorem st7 {fP : Addr} {fdP : FuncData} (DP : Def K mg "_law_pick" fP fdP ["_law_pen_here", "_law_options"]) (GP : FnOk P w K mg base CX0 2 fP fdP ["_law_pen_here", "_law_options"] (sp_pick K)) (GPS : FnOk P w K mg base CX0 2 fP fdP ["_law_pen_here", "_law_options"] sp_pickS)
    (hr : Room 8 (A.deeper (envOfC "law" (defScope s_law) s.heap.objs.size f cdv))) : PS (LX P w K mg base f cdv A outer s H0 E) (lawSt 7) (q7 K) := by
  have r2 : Room 2 _ := hr.mono (by decide)
  refine PS.weak (ps_asg (pe_tup' (pa_cons (pe_call GPS r2 rfl DP.mgf DP.kp DP.bd .nil pass0 (pa_cons (pv 1) (pa_cons (pe_ix ix_tup (pv 3) pe_int (fun _ _ => rfl)) pa_nil)))
      (pa_cons (pe_call GP r2 rfl DP.mgf DP.kp DP.bd .nil pass0 (pa_cons (pv 1) (pa_cons (pe_lst' (pa_cons (pe_call GPS r2 rfl DP.mgf DP.kp DP.bd .nil pass0 (pa_cons (pv 1) (pa_cons (pe_ix ix_tup (pv 3) pe_int (fun _ _ => rfl)) pa_nil)))
        (pa_cons pe_str (pa_cons pe_str (pa_cons pe_str (pa_cons pe_non (pa_cons pe_int (pa_cons (pe_lstB pa_nil) pa_nil)))))))) pa_nil))) pa_nil)))
    (pg_tup rfl (pgs_cons (pg_name (i := 7) sc_law.nd rfl (Or.inr rfl)) (pgs_cons (pg_name (i := 8) sc_law.nd rfl (Or.inr rfl)) pgs_nil)))) ?_
  rintro D σ H ⟨o0, o2, o4, o5, o6, o7, o8, o9, o10, p, c, t, b, n, S, rfl, hP, hn, ht, lo, hS, k⟩
  have tp : t ≠ p := hP.neT ht
  refine ⟨_, rfl, _, rfl, t, _, _, _, rfl, rfl, SqT.of ht, at0 _ _, p, c, S, n, rfl, hP, by omega, by omega, Nat.le_trans hS.1 (by decide), fun H1 x d1 hx => ?_⟩
  have t1 := d1.but _ _ tp ht
  refine ⟨_, rfl, _, rfl, _, rfl, t, _, _, _, rfl, rfl, SqT.of t1, at0 _ _, p, c, S, n + 1, rfl, d1.pen, by omega, by omega, Nat.le_trans hS.1 (by decide), fun H2 y d2 hy => ⟨by show 0 ≤ sizeLine; decide, fun q3 H3 b3 n3 => ⟨by show 7 ≤ sizeLine; decide, fun q4 H4 n4 => ?_⟩⟩⟩
  have q3p : q3 ≠ p := fun z => d2.pen.ne n3.free z.symm
  have q4p : q4 ≠ p := fun z => (d2.pen.same n3.same).ne n4.free z.symm
  have s24 := n3.same.trans n4.same
  refine ⟨p, c, q4, _, n + 2, rfl, d2.pen.same s24, by omega, SqL.of n4.here, q4p, by show 0 < 7; decide, by show 7 ≤ 1000000; decide, fun H5 v d5 hv => ⟨by show 2 ≤ sizeLine; decide, fun q6 H6 n6 => ?_⟩⟩
  have dr : DrewP H p c (n + 3) H6 := ⟨(((d1.but.trans d2.but).trans (.of s24)).trans d5.but).trans (.of n6.same), d5.pen.same n6.same⟩
  have val : (∃ d, Val K p H6 v d) ∧ ∀ z, v = .str z → Tx 2 z := by
    rcases List.mem_cons.mp hv with rfl | hv
    · exact ⟨(SmE.text (Tx.one (hS.2 y hy)) (by decide)).val (by decide) (by decide), fun z e => by
        injection e with e
        exact e ▸ (Tx.one (hS.2 y hy)).mono (by decide)⟩
    rcases List.mem_cons.mp hv with rfl | hv
    · exact ⟨(SmE.text (m := 1) ⟨by decide, by decide⟩ (by decide)).val (by decide) (by decide), fun z e => by
        injection e with e
        exact e ▸ ⟨by decide, by decide⟩⟩
    rcases List.mem_cons.mp hv with rfl | hv
    · exact ⟨(SmE.text (m := 2) ⟨by decide, by decide⟩ (by decide)).val (by decide) (by decide), fun z e => by
        injection e with e
        exact e ▸ ⟨by decide, by decide⟩⟩
    rcases List.mem_cons.mp hv with rfl | hv
    · exact ⟨(SmE.text (m := 1) ⟨by decide, by decide⟩ (by decide)).val (by decide) (by decide), fun z e => by
        injection e with e
        exact e ▸ ⟨by decide, by decide⟩⟩
    rcases List.mem_cons.mp hv with rfl | hv
    · exact ⟨SmE.non.val (by decide) (by decide), fun z e => by cases e⟩
    rcases List.mem_cons.mp hv with rfl | hv
    · exact ⟨SmE.zero.val (by decide) (by decide), fun z e => by cases e⟩
    rcases List.mem_cons.mp hv with rfl | hv
    · exact ⟨(SmE.none_ (n6.same _ _ (d5.but _ _ q3p (n4.same _ _ n3.here))) q3p b3).val (by decide) (by decide), fun z e => by cases e⟩
    cases hv
  obtain ⟨⟨d, hd⟩, htx⟩ := val
  exact ⟨q6, _, rfl, SqT.of n6.here, rfl, _, _, rfl, _, _, rfl, rfl, k H6 x v d dr (hS.2 x hx) hd htx⟩
/-- due_here = .. -/
def q8 (K : PySem.W.Frag) : TS := fun D σ H => ∃ (o0 o2 o3 o4 o5 o6 o9 o10 : Option V) (p c : Addr) (n x : Nat) (v : V) (d : PyData), σ = sl o0 p o2 o3 o4 o5 o6 (some (sg x)) (some v) o9 o10 ∧ PenAt H p c n ∧ x < 128 ∧ Val K p H v d ∧
  ∀ H' u, Same H H' → Rp K p H' true u (ofD x d) → D.nx (sl o0 p o2 o3 o4 o5 (some u) (some (sg x)) (some v) o9 o10) H'
theorem st8 {fE : Addr} {fdE : FuncData} (T : TB mg) (DE : Def K mg "_law_due" fE fdE ["_law_signs", "_law_turns"]) (GE : FnOk P w K mg base CX0 1 fE fdE ["_law_signs", "_law_turns"] (sp_due2 K))
    (hr : Room 8 (A.deeper (envOfC "law" (defScope s_law) s.heap.objs.size f cdv))) : PS (LX P w K mg base f cdv A outer s H0 E) (lawSt 8) (q8 K) := by
  have r1 : Room 1 _ := hr.mono (by decide)
  refine PS.weak (ps_if (PW.pt (pw_and (pt_val (pe_callB (id := "isinstance") call_isi (by rfl) T.isi (by decide +kernel) (pa_cons (pv 8) (pa_cons (pe_bltn (v := .ty "str") (by rfl) T.str (by decide +kernel) rfl) pa_nil)))) (pw_and1 (pt_cmpR op_eq (pe_callB call_len_str (by rfl) T.len PySem.boot_len (pa_cons (pv 8) pa_nil)) pe_int (nomark _)))))
    (pss_one (ps_set (i := 6) sc_law.nd rfl (Or.inl rfl) (pe_call GE r1 rfl DE.mgf DE.kp DE.bd .nil pass0 (pa_cons (pe_op op_add_str (pv 7) (pv 8)) (pa_cons (pe_lstB pa_nil) pa_nil)))))
    (pss_one (ps_set (i := 6) sc_law.nd rfl (Or.inl rfl) (pe_tup' (pa_cons pe_str (pa_cons (pe_tup' (pa_cons (pv 7) (pa_cons (pv 8) pa_nil))) pa_nil)))))) ?_
  rintro D σ H ⟨o0, o2, o3, o4, o5, o6, o9, o10, p, c, n, x, v, d, rfl, hP, hx, hv, k⟩
  have els : (∀ {z : Str}, d = .str z → z.length ≠ 1) → (∃ R : TS, True) ∧ ofD x d = .tuple [.str "font", .tuple [.str ⟨#[x]⟩, d]] := fun h => ⟨⟨fun _ _ _ => True, trivial⟩, by
    unfold ofD
    cases d <;> first | rfl | exact if_neg (h rfl)⟩
  have other : ofD x d = .tuple [.str "font", .tuple [.str ⟨#[x]⟩, d]] → ∀ (D' : Ends), D'.nx = D.nx → (tAsg (qTup (tCons (tC (.str "font")) (tCons (qTup (tCons (tVar 7) (tCons (tVar 8) tNil))) tNil))) (gName 6)) D' (sl o0 p o2 o3 o4 o5 o6 (some (sg x)) (some v) o9 o10) H := by
    intro e D' hD'
    refine ⟨_, rfl, _, rfl, by show 2 ≤ sizeLine; decide, fun q1 H1 n1 => ⟨by show 2 ≤ sizeLine; decide, fun q2 H2 n2 => ?_⟩⟩
    have s2 := n1.same.trans n2.same
    have q1p : q1 ≠ p := fun z => hP.ne n1.free z.symm
    have q2p : q2 ≠ p := fun z => (hP.same n1.same).ne n2.free z.symm
    have r1 : Rp K p H2 true (.ref q1) (.tuple [.str ⟨#[x]⟩, d]) := two_rp (n2.same _ _ n1.here) q1p (.str _ _) (hv.rp.but (.of s2))
    have fin := k H2 (.ref q2) s2 (by rw [e]; exact word_rp n2.here q2p r1)
    rw [← hD'] at fin
    exact fin
  refine ⟨_, rfl, _, _, _, _, _, rfl, .ty "str", hv.rp.ty, kit_str d, _, rfl, ?_⟩
  have hrp := hv.rp
  have hft := hv.fit
  cases d with
  | str z =>
    cases hrp
    have hz : z.length ≤ 4000 := of_decide_eq_true hft
    have hzs : z.length ≤ sizeLine := Nat.le_trans hz (by decide)
    refine iteT ⟨_, rfl, z, rfl, hzs, rfl, _, rfl, ite2 (fun h => ?_) (fun h => ?_)⟩
    · have h1 : z.length = 1 := by
        have := of_decide_eq_true h
        injection this with e
        omega
      have fa : fit (.str ((⟨#[x]⟩ : Str) ++ z)) = true := by
        show decide (((⟨#[x]⟩ : Str) ++ z).length ≤ 4000) = true
        rw [len_app, h1]
        rfl
      refine ⟨_, rfl, _, rfl, _, _, rfl, rfl, by rw [h1]; show 1 + 1 ≤ sizeLine; decide, by show 0 ≤ sizeLine; decide, fun q1 H1 b1 n1 => ?_⟩
      refine ⟨p, _, _, .str ((⟨#[x]⟩ : Str) ++ z), .list [], rfl, PenAt.some (hP.same n1.same), .str _ _, fa, .lst n1.here (fun e => hP.ne n1.free e.symm) (fun _ => b1) (.nil _), rfl, by decide, fun H2 u s2 hu => ?_⟩
      refine k H2 u (n1.same.trans s2) ?_
      have e : ofD x (.str z) = tellD (.str ((⟨#[x]⟩ : Str) ++ z)) (.list []) := if_pos h1
      rw [e]
      exact hu
    · exact other (els fun {z'} e => by
        injection e with e
        subst e
        intro e1
        rw [e1] at h
        exact h rfl).2 _ rfl
  | _ => exact iteF (other (els fun {z'} e => by cases e).2 _ rfl)
end
end My
end
section
set_option Elab.async false
set_option linter.all false
set_option maxRecDepth 100000
set_option maxHeartbeats 4000000
/-! D13: Font.of and what is due. -/
namespace My
open PySem PySem.Spec PyProof.Rows L2 LamX
theorem of_sho {K : PySem.W.Frag} {p : Addr} {H : Hp} {x : Nat} {v : V} {d : PyData} (hx : x < 128) (hv : Val K p H v d) (ht : ∀ z, d = .str z → Tx 2 z) : Sho 1000000 (ofD x d) := by
  have a := word_sho "font" ⟨by decide, by decide⟩
  have b := word_sho ⟨#[x]⟩ ((Tx.one hx).mono (by decide))
  have c : Sho 1000000 (.tuple [.str "font", .tuple [.str ⟨#[x]⟩, d]]) := by
    have q1 := two_sho b hv.sho (Nat.zero_le _) (Nat.le_trans hv.dep (by decide))
    have dq : (PyData.tuple [.str ⟨#[x]⟩, d]).depth ≤ 10 := by
      show max 0 (max d.depth 0) + 1 ≤ 10
      have := hv.dep
      omega
    have q := two_sho a q1 (Nat.zero_le _) dq
    exact ⟨q.shw, Nat.le_trans q.len (by decide), q.dep⟩
  unfold ofD
  split
  · rename_i z
    split
    · have e1 : Sho 2000 (.list []) := ⟨rfl, by decide +kernel, by decide⟩
      have ez := word_sho ((⟨#[x]⟩ : Str) ++ z) (((Tx.one hx).add (ht z rfl)).mono (by decide))
      have q := tell_sho ez e1 (Nat.zero_le _) (by decide)
      exact ⟨q.shw, Nat.le_trans q.len (by decide), q.dep⟩
    · exact c
  · exact c
theorem bad_lt (S : Str) : badD (.str S) (.list []) = badD (.str S) (.tuple []) := rfl
theorem tell_lt (S : Str) : tellD (.str S) (.list []) = tellD (.str S) (.tuple []) := by
  unfold tellD
  rw [bad_lt]
  rcases bad_nil S with e | e <;> rw [e]
theorem rps_any {K : PySem.W.Frag} {p : Addr} {H : Hp} {xs : List V} {ds : List PyData} (h : RpAll K p H true xs ds) : RpAll K p H false xs ds := RpAll.loose (b := false) (by simpa using h) _
theorem of_tells {K : PySem.W.Frag} {C IF IT p : Addr} {H1 : Hp} {xs : List V} {ds : List PyData} {Q : VK} (dd : PyData) (pen : ∃ o, H1 p = some o) (hx : RpAll K p H1 true xs ds) (hf : fitAll ds = true) (hl : ds.length ≤ 10)
    (e1 : xs.all oneV = false → dd = .tuple [.str "font", .tuple ds]) (e2 : ∀ l : List Nat, xs = l.map sg → dd = tellD (.str (mkS l)) (.tuple []))
    (fin : ∀ H3 y, Same H1 H3 → Rp K p H3 true y dd → Q y H3) : sp_ofX K C IF (.ref C :: xs) H1 (fun _ H' => Q .non H') (fun cls d H' => Told "font" IF cls d H' Q ∨ Told "turns" IT cls d H' Q) := by
  obtain ⟨o, hp⟩ := pen
  have ne : ∀ {r : Addr} {H : Hp}, Same H1 H → H r = none → r ≠ p := fun s f z => by
    rw [z, s _ _ hp] at f
    cases f
  refine ⟨p, xs, ds, rfl, rps_any hx, hf, hl, fun h q H2 n2 => ?_, fun l hl2 => ⟨fun b => ?_, fun b H' a s => ?_⟩⟩
  · intro H3 dd2 s3 _ hv
    refine .inl ⟨rfl, dd2, .ref q, rfl, hv, fun r H4 n4 => ?_⟩
    have s13 := n2.same.trans s3
    have s14 := s13.trans n4.same
    have rq : Rp K p H4 true (.ref q) (.tuple ds) := .tup (n4.same _ _ (s3 _ _ n2.here)) (ne (Same.refl _) n2.free) (RpAll.but (.of s14) hx)
    refine fin H4 _ s14 ?_
    rw [e1 h]
    exact word_rp n4.here (ne s13 n4.free) rq
  · intro H3 dd2 s3 _ hv
    refine .inl ⟨rfl, dd2, _, rfl, hv, fun r H4 n4 => ?_⟩
    refine fin H4 _ (s3.trans n4.same) ?_
    rw [e2 l hl2]
    unfold tellD
    rw [b]
    exact word_rp n4.here (ne s3 n4.free) (.str _ _)
  · refine fin H' _ s ?_
    rw [e2 l hl2]
    unfold tellD
    rw [b]
    exact .non _
section
variable {P : Program} {w : World} {K : PySem.W.Frag} {mg : Str → Option Value} {base : Heap}
/-- if repr(refused(lambda: Font.of(one, other))) != repr(due_here): return False -/
def q9 (K : PySem.W.Frag) (PL : Addr) : TS := fun D σ H => ∃ (o0 o2 o3 o4 o5 o9 o10 : Option V) (p c : Addr) (n x : Nat) (v u : V) (d : PyData), σ = sl o0 p o2 o3 o4 o5 (some u) (some (sg x)) (some v) o9 o10 ∧ PenAt H p c n ∧ Tabs [(PL, lamQ)] H ∧ x < 128 ∧ Val K p H v d ∧ (∀ z, v = .str z → Tx 2 z) ∧ Rp K p H true u (ofD x d) ∧
  ∀ H', ExtN H H' → Tabs [(PL, lamQ)] H' → D.nx (sl o0 p o2 o3 o4 o5 (some u) (some (sg x)) (some v) o9 o10) H'
theorem st9 {f fM C IF IT fIF fIT PL cL pO gO : Addr} {mc : Value} {fdM : FuncData} {A : Around} {outer : List Env} {s : Shared} {H0 : Hp} {E : XK}
    (T : TB mg) (hk : mg "ValueError" = none) (TF : VErr K mg "InvalidFont" "InvalidFont.__init__" IF fIF) (TT : VErr K mg "InvalidTurns" "InvalidTurns.__init__" IT fIT)
    (upF : PySem.W.kitOne K (.ref IF) (.type "ValueError") = some true) (upT : PySem.W.kitOne K (.ref IT) (.type "ValueError") = some true) (no : PySem.W.kitOne K (.ref IF) (.ref IT) = some false) (no2 : PySem.W.exmOne K (.ref IT) (.ref IF) = some false) (CF : ExcC K IF)
    (FM : Fun K "_law_refused" "_law_refused" s_refused fM fdM) (DM : Def K mg "_law_refused" fM fdM ["_law_call"])
    (gF : mg "Font" = some (.ref C)) (rC : ClX.CRead K C mc) (cO : ClX.CMet K C mc "of" pO gO) (FO : FnR P w K mg base (L2.CX P w) 6 gO (sp_ofX K C IF))
    (tb : TabB base mg cL PL) (g : (A.deeper (envOfC "law" (defScope s_law) s.heap.objs.size f (.ref cL))).guards = some []) (hr : Room 8 (A.deeper (envOfC "law" (defScope s_law) s.heap.objs.size f (.ref cL)))) : PS (LX P w K mg base f (.ref cL) A outer s H0 E) (lawSt 9) (q9 K PL) := by
  have hu64 : (A.deeper (envOfC "law" (defScope s_law) s.heap.objs.size f (.ref cL))).units + 64 < cLine := by have := hr.un; omega
  obtain ⟨ocM, odM, kVM, docM, pmM, anM, cdM, ctM, oslM, rfl, lkM, hcM⟩ := FM.ex
  refine PS.weak (ps_if (pt_cmpR op_ne (pe_callB (id := "repr") (call_reprH g hu64) (by rfl) T.repr (by decide +kernel) (pa_cons (pe_lamcall (T := [(PL, lamQ)]) (k := 6) (by rfl) DM.mgf DM.kp lkM hcM DM.bd sc_refused rfl (Or.inl rfl) (refused_gives TF TT T.isi hk upF upT no no2 CF) tb rfl (List.mem_singleton.mpr rfl)
          (fun e he _ => by rw [List.mem_singleton.mp he]; rfl) hr (lamS_by (by show lamSB (defScope s_law) _ = true; decide +kernel)) rfl (fun _ _ _ _ _ => rfl) (fun A' outer' s' H' E' f' c' hr' => ClX.pe_cmeth (E := E') (pe_glob (v := .ref C) rfl gF rfl) rC cO FO hr' (passes_call (takes_of rfl rfl rfl rfl) (fun _ _ _ _ h => h)) (pa_cons (pv 7) (pa_cons (pv 8) pa_nil)))) pa_nil))
      (pe_callB (id := "repr") (call_reprH g hu64) (by rfl) T.repr (by decide +kernel) (pa_cons (pv 6) pa_nil)) (nomark _)) (pss_one (ps_ret pe_bl)) pss_nil) ?_
  rintro D σ H ⟨o0, o2, o3, o4, o5, o9, o10, p, c, n, x, v, u, d, rfl, hP, hT, hx, hv, htx, hu, k⟩
  refine ⟨hT, fun H1 e1 T1 => ?_⟩
  have P1 := hP.ext e1
  have rv1 := hv.rp.ext e1
  have dtx : ∀ z, d = .str z → Tx 2 z := fun z e => by
    subst e
    have := hv.rp
    cases this
    exact htx z rfl
  have sh := of_sho hx hv dtx
  have ext : ∀ {H3 : Hp}, Same H1 H3 → ExtN H H3 ∧ Tabs [(PL, lamQ)] H3 := fun s3 => ⟨e1.trans (.of s3), LamX.Tabs.ext T1 s3⟩
  refine ⟨rfl, _, rfl, _, rfl, of_tells (ofD x d) (PenAt.some P1) (.cons (.str _ _) (.cons rv1 (.nil _))) (?_ : fitAll [.str ⟨#[x]⟩, d] = true) (by show 2 ≤ 10; decide) ?_ ?_ fun H3 y s3 hy => ?_⟩
  · show (true && (fit d && true)) = true
    rw [hv.fit]
    rfl
  · intro h
    have h : (true && (oneV v && true)) = false := h
    have rp := hv.rp
    unfold ofD
    cases d with
    | str z =>
      cases rp
      refine if_neg fun e => ?_
      have h : (true && (decide (z.length = 1) && true)) = false := h
      rw [decide_eq_true e] at h
      cases h
    | _ => rfl
  · intro l hl
    obtain ⟨y, rfl, rfl⟩ : ∃ y, v = sg y ∧ l = [x, y] := by
      match l, hl with
      | [a, b], hl =>
        injection hl with h1 h2
        injection h2 with h2 _
        injection h1 with h1
        refine ⟨b, h2, ?_⟩
        rw [sign_inj.mp h1]
    have rp := hv.rp
    cases rp
    show (if (⟨#[y]⟩ : Str).length = 1 then tellD (.str ((⟨#[x]⟩ : Str) ++ ⟨#[y]⟩)) (.list []) else .tuple [.str "font", .tuple [.str ⟨#[x]⟩, .str ⟨#[y]⟩]]) = _
    rw [if_pos (show (⟨#[y]⟩ : Str).length = 1 from rfl), tell_lt]
    rfl
  · obtain ⟨x3, T3⟩ := ext s3
    refine ⟨_, ofD x d, p, rfl, hy, sh, _, rfl, _, ofD x d, p, rfl, hu.ext x3, sh, rfl, _, rfl, ?_⟩
    rw [decide_eq_true rfl]
    exact iteF (k H3 x3 T3)
/-- if repr(refused(lambda: Font.of())) != repr(("font", "")): return False -/
def qE (PL : Addr) : TS := fun D σ H => ∃ (p c : Addr) (n : Nat), PenAt H p c n ∧ Tabs [(PL, lamQ)] H ∧ ∀ H', PenAt H' p c n → Tabs [(PL, lamQ)] H' → D.nx σ H'
theorem font_two (z : Str) (h : Tx 10 z) : Sho 1000000 (.tuple [.str "font", .str z]) := by
  have q := two_sho (word_sho "font" ⟨by decide, by decide⟩) (word_sho z (h.mono (by decide))) (Nat.zero_le _) (Nat.zero_le _)
  exact ⟨q.shw, Nat.le_trans q.len (by decide), q.dep⟩
theorem bad_none : tellD (.str (mkS [])) (.tuple []) = .tuple [.str "font", .str (mkS [])] := by
  have : badD (.str (mkS [])) (.tuple []) = some true := by decide +kernel
  unfold tellD
  rw [this]
theorem bad_a : tellD (.str (mkS [97])) (.tuple []) = .tuple [.str "font", .str (mkS [97])] := by
  have : badD (.str (mkS [97])) (.tuple []) = some true := by decide +kernel
  unfold tellD
  rw [this]
theorem stE {f fM C IF IT fIF fIT PL cL pO gO : Addr} {mc : Value} {fdM : FuncData} {A : Around} {outer : List Env} {s : Shared} {H0 : Hp} {E : XK}
    (T : TB mg) (hk : mg "ValueError" = none) (TF : VErr K mg "InvalidFont" "InvalidFont.__init__" IF fIF) (TT : VErr K mg "InvalidTurns" "InvalidTurns.__init__" IT fIT)
    (upF : PySem.W.kitOne K (.ref IF) (.type "ValueError") = some true) (upT : PySem.W.kitOne K (.ref IT) (.type "ValueError") = some true) (no : PySem.W.kitOne K (.ref IF) (.ref IT) = some false) (no2 : PySem.W.exmOne K (.ref IT) (.ref IF) = some false) (CF : ExcC K IF)
    (FM : Fun K "_law_refused" "_law_refused" s_refused fM fdM) (DM : Def K mg "_law_refused" fM fdM ["_law_call"])
    (gF : mg "Font" = some (.ref C)) (rC : ClX.CRead K C mc) (cO : ClX.CMet K C mc "of" pO gO) (FO : FnR P w K mg base (L2.CX P w) 6 gO (sp_ofX K C IF))
    (tb : TabB base mg cL PL) (g : (A.deeper (envOfC "law" (defScope s_law) s.heap.objs.size f (.ref cL))).guards = some []) (hr : Room 8 (A.deeper (envOfC "law" (defScope s_law) s.heap.objs.size f (.ref cL)))) : PS (LX P w K mg base f (.ref cL) A outer s H0 E) (nth (defBody s_law) 2) (qE PL) := by
  have hu64 : (A.deeper (envOfC "law" (defScope s_law) s.heap.objs.size f (.ref cL))).units + 64 < cLine := by have := hr.un; omega
  obtain ⟨ocM, odM, kVM, docM, pmM, anM, cdM, ctM, oslM, rfl, lkM, hcM⟩ := FM.ex
  refine PS.weak (ps_if (pt_cmpR op_ne (pe_callB (id := "repr") (call_reprH g hu64) (by rfl) T.repr (by decide +kernel) (pa_cons (pe_lamcall (T := [(PL, lamQ)]) (k := 6) (by rfl) DM.mgf DM.kp lkM hcM DM.bd sc_refused rfl (Or.inl rfl) (refused_gives TF TT T.isi hk upF upT no no2 CF) tb rfl (List.mem_singleton.mpr rfl)
          (fun e he _ => by rw [List.mem_singleton.mp he]; rfl) hr (lamS_by (by show lamSB (defScope s_law) _ = true; decide +kernel)) rfl (fun _ _ _ _ _ => rfl) (fun A' outer' s' H' E' f' c' hr' => pe_cmeth0 (E := E') (pe_glob (v := .ref C) rfl gF rfl) rC cO FO hr' (passes_call (takes_of rfl rfl rfl rfl) (fun _ _ _ _ h => h)))) pa_nil))
      (pe_callB (id := "repr") (call_reprH g hu64) (by rfl) T.repr (by decide +kernel) (pa_cons (pe_tup' (pa_cons pe_str (pa_cons pe_str pa_nil))) pa_nil)) (nomark _)) (pss_one (ps_ret pe_bl)) pss_nil) ?_
  rintro D σ H ⟨p, c, n, hP, hT, k⟩
  refine ⟨hT, fun H1 e1 T1 => ?_⟩
  have P1 := hP.ext e1
  have pen1 := PenAt.some P1
  refine ⟨rfl, of_tells (xs := []) (ds := []) (.tuple [.str "font", .str (mkS [])]) pen1 (.nil _) rfl (by decide) (fun h => by cases h) (fun l hl => ?_) fun H3 y s3 hy => ?_⟩
  · obtain rfl : l = [] := by
      cases l with
      | nil => rfl
      | cons _ _ => cases hl
    exact bad_none.symm
  · have sh := font_two (mkS []) ⟨by decide, by decide⟩
    have es : (PySem.Str.ofString "") = mkS [] := by decide
    refine ⟨_, _, p, rfl, hy, sh, by show 2 ≤ sizeLine; decide, fun q H4 n4 => ?_⟩
    rw [es] at n4
    have s4 := s3.trans n4.same
    have np : q ≠ p := fun z => (P1.same s3).ne n4.free z.symm
    refine ⟨_, _, p, rfl, word_rp n4.here np (.str _ _), sh, rfl, _, rfl, ?_⟩
    rw [decide_eq_true rfl]
    exact iteF (k H4 (P1.same s4) (LamX.Tabs.ext T1 s4))
end
end My
end
section
set_option Elab.async false
set_option linter.all false
set_option maxRecDepth 100000
set_option maxHeartbeats 4000000
/-! D14: the law. -/
namespace My
open PySem PySem.Spec PyProof.Rows L2 LamX
section
variable {P : Program} {w : World} {K : PySem.W.Frag} {mg : Str → Option Value} {base : Heap}
/-- return repr(refused(lambda: Font.of("a"))) == repr(("font", "a")) -/
def qL (PL : Addr) : TS := fun D σ H => ∃ (p c : Addr) (n : Nat), PenAt H p c n ∧ Tabs [(PL, lamQ)] H ∧ ∀ H', D.rt (.bl true) H'
theorem stL {f fM C IF IT fIF fIT PL cL pO gO : Addr} {mc : Value} {fdM : FuncData} {A : Around} {outer : List Env} {s : Shared} {H0 : Hp} {E : XK}
    (T : TB mg) (hk : mg "ValueError" = none) (TF : VErr K mg "InvalidFont" "InvalidFont.__init__" IF fIF) (TT : VErr K mg "InvalidTurns" "InvalidTurns.__init__" IT fIT)
    (upF : PySem.W.kitOne K (.ref IF) (.type "ValueError") = some true) (upT : PySem.W.kitOne K (.ref IT) (.type "ValueError") = some true) (no : PySem.W.kitOne K (.ref IF) (.ref IT) = some false) (no2 : PySem.W.exmOne K (.ref IT) (.ref IF) = some false) (CF : ExcC K IF)
    (FM : Fun K "_law_refused" "_law_refused" s_refused fM fdM) (DM : Def K mg "_law_refused" fM fdM ["_law_call"])
    (gF : mg "Font" = some (.ref C)) (rC : ClX.CRead K C mc) (cO : ClX.CMet K C mc "of" pO gO) (FO : FnR P w K mg base (L2.CX P w) 6 gO (sp_ofX K C IF))
    (tb : TabB base mg cL PL) (g : (A.deeper (envOfC "law" (defScope s_law) s.heap.objs.size f (.ref cL))).guards = some []) (hr : Room 8 (A.deeper (envOfC "law" (defScope s_law) s.heap.objs.size f (.ref cL)))) : PS (LX P w K mg base f (.ref cL) A outer s H0 E) (nth (defBody s_law) 3) (qL PL) := by
  have hu64 : (A.deeper (envOfC "law" (defScope s_law) s.heap.objs.size f (.ref cL))).units + 64 < cLine := by have := hr.un; omega
  obtain ⟨ocM, odM, kVM, docM, pmM, anM, cdM, ctM, oslM, rfl, lkM, hcM⟩ := FM.ex
  refine PS.weak (ps_ret (pe_cmpR op_eq (pe_callB (id := "repr") (call_reprH g hu64) (by rfl) T.repr (by decide +kernel) (pa_cons (pe_lamcall (T := [(PL, lamQ)]) (k := 6) (by rfl) DM.mgf DM.kp lkM hcM DM.bd sc_refused rfl (Or.inl rfl) (refused_gives TF TT T.isi hk upF upT no no2 CF) tb rfl (List.mem_singleton.mpr rfl)
          (fun e he _ => by rw [List.mem_singleton.mp he]; rfl) hr (lamS_by (by show lamSB (defScope s_law) _ = true; decide +kernel)) rfl (fun _ _ _ _ _ => rfl) (fun A' outer' s' H' E' f' c' hr' => ClX.pe_cmeth (E := E') (pe_glob (v := .ref C) rfl gF rfl) rC cO FO hr' (passes_call (takes_of rfl rfl rfl rfl) (fun _ _ _ _ h => h)) (pa_cons pe_str pa_nil))) pa_nil))
      (pe_callB (id := "repr") (call_reprH g hu64) (by rfl) T.repr (by decide +kernel) (pa_cons (pe_tup' (pa_cons pe_str (pa_cons pe_str pa_nil))) pa_nil)) (nomark _))) ?_
  rintro D σ H ⟨p, c, n, hP, hT, k⟩
  refine ⟨hT, fun H1 e1 T1 => ?_⟩
  have P1 := hP.ext e1
  have ea : (PySem.Str.ofString "a") = mkS [97] := by decide
  refine ⟨rfl, of_tells (xs := [V.str (PySem.Str.ofString "a")]) (ds := [.str (PySem.Str.ofString "a")]) (.tuple [.str "font", .str (mkS [97])]) (PenAt.some P1) (.cons (.str _ _) (.nil _)) (by decide) (by decide) (fun h => ?_) (fun l hl => ?_) fun H3 y s3 hy => ?_⟩
  · have h : (decide ((PySem.Str.ofString "a").length = 1) && true) = false := h
    rw [decide_eq_true (by decide : (PySem.Str.ofString "a").length = 1)] at h
    cases h
  · obtain rfl : l = [97] := by
      match l, hl with
      | [a], hl =>
        injection hl with h1 _
        injection h1 with h1
        rw [ea] at h1
        rw [← sign_inj.mp h1]
    exact bad_a.symm
  · have sh := font_two (mkS [97]) ⟨by decide, by decide⟩
    refine ⟨_, _, p, rfl, hy, sh, by show 2 ≤ sizeLine; decide, fun q H4 n4 => ?_⟩
    rw [ea] at n4
    have np : q ≠ p := fun z => (P1.same s3).ne n4.free z.symm
    refine ⟨_, _, p, rfl, word_rp n4.here np (.str _ _), sh, rfl, ?_⟩
    rw [decide_eq_true rfl]
    exact k H4
def sp_law (K : PySem.W.Frag) (PL : Addr) : Sp := fun vs H Q _ => ∃ (a : Addr) (ns : List Int), vs = [.ref a] ∧ SqL K H a (ns.map V.int) ∧ ns.length ≤ 63 ∧ Tabs [(PL, lamQ)] H ∧ ∀ H', Q (.bl true) H'
/-- a def by its body and its code object, where no repr is under way -/
theorem okGc {x qual : Str} {st : Stmt} {f : Addr} {oc kV doc pm cdv ct : Value} {od an : Option Addr} {osl : Array (Option Value)} {N ps : List Str} {k : Nat} {sp : Sp} (lk : K.lookup f = some ⟨oc, od, .func (PySem.W.fnOf x qual (defArgs st) (defBody st) (defScope st) .none kV doc pm an cdv ct), osl⟩) (hcd : PySem.W.codeIn K cdv qual = true)
    (S : FnScope N ps (defScope st)) (size : ∀ vs H Q E, sp vs H Q E → vs.length = ps.length)
    (body : ∀ (A : Around) (o : List Env) (s : Shared) (H : Hp) (vs : List V) (Q : VK) (E : XK), (A.deeper (envOfC qual (defScope st) s.heap.objs.size f cdv)).guards = some [] → Room k (A.deeper (envOfC qual (defScope st) s.heap.objs.size f cdv)) → sp vs H Q E →
      ∃ t, PSs (cxOf CX0 P w K mg base N qual (defScope st) f cdv A o s H E).nox (defBody st) t ∧ t { nx := fun _ H' => Q .non H', rt := Q } (L2.start N vs) H) :
    FnG P w K mg base (k + 1) f (PySem.W.fnOf x qual (defArgs st) (defBody st) (defScope st) .none kV doc pm an cdv ct) ps sp := by
  constructor
  · exact size
  intro A o s H args us vs Q E g room e0 bd rel want
  have hlen := size _ _ _ _ want
  have kin := e0.mod.kin.keeps fun b ob z => (e0.bs b ob z).1
  have nolim := e0.mod.nolimit.keeps fun b ob z => (e0.bs b ob z).1
  have kinds : ∀ y ∈ ps.zip us, (defScope st).names.lookup y.1 = some .local ∨ ((defScope st).names.lookup y.1 = some .cell ∧ ((cellsFrom (s.heap.objs.size + 1) (defScope st).names []).lookup y.1).isSome = true) := by
    intro y hy
    obtain ⟨n, v⟩ := y
    cases S.par n (List.of_mem_zip hy).1 with
    | inl z => exact Or.inl z
    | inr z => exact Or.inr ⟨z, PySem.W.cellsFrom_some _ _ _ (Or.inl z)⟩
  apply codeAny_call_function room.depth (kin _ _ lk) rfl S.co S.gen rfl (PySem.W.codeRec_of kin hcd)
  apply bd
  apply wpAny_newFunctionEnv_cells S.kind kinds
  intro env henv s1 x
  subst henv
  constructor
  · exact nolim.keeps x.toInCall.keep
  apply codeAny_func
  obtain ⟨t, der, rd⟩ := body A o s H vs Q E (guards_deeper g) (room.deeper _) want
  have J : Inv (cxOf CX0 P w K mg base N qual (defScope st) f cdv A o s H E) [] (L2.start N vs) H s1 := inv_start S room.hd e0 hlen rel x
  apply wpAny_mono (der.nox.run [] s1 (L2.start N vs) H _ J rd)
  · intro fl s' hs
    cases fl with
    | ret u =>
      obtain ⟨v, σ', H', J', rv, q⟩ := hs
      exact ⟨v, H', J'.os, J'.bare, J'.base, J'.hok, rv, q⟩
    | next =>
      obtain ⟨σ', H', J', q⟩ := hs
      exact ⟨V.non, H', J'.os, J'.bare, J'.base, J'.hok, rfl, q⟩
    | brk => exact hs.choose_spec.choose_spec.2.elim
    | cont => exact hs.choose_spec.choose_spec.2.elim
  · intro e s' hs
    exact hs
theorem ok_law {f C IF IT fIF fIT fI fN fB fD fP fS fT fM fE pO gO PL cL : Addr} {mc : Value} {fdI fdN fdB fdD fdP fdS fdT fdM fdE : FuncData} {oc kV doc pm ct : Value} {od an : Option Addr} {osl : Array (Option Value)}
    (lk : K.lookup f = some ⟨oc, od, .func (PySem.W.fnOf "law" "law" (defArgs s_law) (defBody s_law) (defScope s_law) .none kV doc pm an (.ref cL) ct), osl⟩) (hcd : PySem.W.codeIn K (.ref cL) "law" = true)
    (T : TB mg) (hk : mg "ValueError" = none) (TF : VErr K mg "InvalidFont" "InvalidFont.__init__" IF fIF) (TT : VErr K mg "InvalidTurns" "InvalidTurns.__init__" IT fIT)
    (upF : PySem.W.kitOne K (.ref IF) (.type "ValueError") = some true) (upT : PySem.W.kitOne K (.ref IT) (.type "ValueError") = some true) (no : PySem.W.kitOne K (.ref IF) (.ref IT) = some false) (no2 : PySem.W.exmOne K (.ref IT) (.ref IF) = some false) (CF : ExcC K IF) (tb : TabB base mg cL PL)
    (DN : Def K mg "_law_pen" fN fdN ["_law_script"]) (GN : FnOk P w K mg base CX0 1 fN fdN ["_law_script"] (sp_pen K))
    (DB : Def K mg "_law_font" fB fdB ["_law_pen_here", "_law_most"]) (GB : FnOk P w K mg base CX0 3 fB fdB ["_law_pen_here", "_law_most"] (sp_font K))
    (DD : Def K mg "_law_draw" fD fdD ["_law_pen_here", "_law_many"]) (GD : FnOk P w K mg base CX0 1 fD fdD ["_law_pen_here", "_law_many"] sp_draw)
    (DP : Def K mg "_law_pick" fP fdP ["_law_pen_here", "_law_options"]) (GP : FnOk P w K mg base CX0 2 fP fdP ["_law_pen_here", "_law_options"] (sp_pick K)) (GPS : FnOk P w K mg base CX0 2 fP fdP ["_law_pen_here", "_law_options"] sp_pickS)
    (DS : Def K mg "_law_bent_signs" fS fdS ["_law_pen_here", "_law_signs"]) (GS : FnOk P w K mg base CX0 4 fS fdS ["_law_pen_here", "_law_signs"] (sp_bentS K))
    (DT : Def K mg "_law_bent_turns" fT fdT ["_law_pen_here", "_law_font_here"]) (GT : FnOk P w K mg base CX0 4 fT fdT ["_law_pen_here", "_law_font_here"] (sp_bentT K))
    (FM : Fun K "_law_refused" "_law_refused" s_refused fM fdM) (DM : Def K mg "_law_refused" fM fdM ["_law_call"])
    (DE : Def K mg "_law_due" fE fdE ["_law_signs", "_law_turns"]) (GE : FnOk P w K mg base CX0 1 fE fdE ["_law_signs", "_law_turns"] (sp_due2 K))
    (M : Mk K C fI) (GI : FnOk P w K mg base (L2.CX P w) 4 fI fdI ["self", "signs", "turns"] (sp_initX K C IF IT)) (bI : Binds K fdI ["self", "signs", "turns"] []) (gF : mg "Font" = some (.ref C))
    (rC : ClX.CRead K C mc) (cO : ClX.CMet K C mc "of" pO gO) (FO : FnR P w K mg base (L2.CX P w) 6 gO (sp_ofX K C IF)) :
    FnG P w K mg base 9 f (PySem.W.fnOf "law" "law" (defArgs s_law) (defBody s_law) (defScope s_law) .none kV doc pm an (.ref cL) ct) ["_law_script"] (sp_law K PL) := by
  refine okGc lk hcd sc_law (fun vs H Q E h => ?_) (fun A outer s H vs Q E g hr h => ?_)
  · obtain ⟨a, ns, rfl, _⟩ := h
    rfl
  · obtain ⟨a, ns, rfl, hS, hlen, hT, k⟩ := h
    have r1 : Room 1 _ := hr.mono (by decide)
    refine ⟨_, pss_cons (ps_set (i := 1) sc_law.nd rfl (Or.inl rfl) (pe_call GN r1 rfl DN.mgf DN.kp DN.bd .nil pass0 (pa_cons (pv 0) pa_nil)))
      (pss_cons (ps_for PassesOwn.never rfl (pi_range1 rfl T.range (pa_cons pe_int pa_nil)) (pg_name (i := 2) sc_law.nd rfl (Or.inl rfl))
        (pss_cons (st0 DB GB hr) (pss_cons st1 (pss_cons (st2 DD GD DS GS hr) (pss_cons (st3 DD GD DT GT hr) (pss_cons (st4 T g hr) (pss_cons (st5 T hk TF TT upF upT no no2 CF FM DM M GI bI gF tb hr) (pss_cons (st6 T DE GE g hr) (pss_cons (st7 DP GP GPS hr) (pss_cons (st8 T DE GE hr)
          (pss_one (st9 T hk TF TT upF upT no no2 CF FM DM gF rC cO FO tb g hr))))))))))))
      (pss_cons (stE T hk TF TT upF upT no no2 CF FM DM gF rC cO FO tb g hr) (pss_one (stL T hk TF TT upF upT no no2 CF FM DM gF rC cO FO tb g hr)))), ?_⟩
    refine ⟨_, rfl, a, ns, rfl, hS, hlen, fun H1 p c s1 fp hP => ?_⟩
    have T1 : Tabs [(PL, lamQ)] H1 := LamX.Tabs.ext hT s1
    refine ⟨12, rfl, by decide, by decide, for_it (walk_range (lo := 0) (n := (12 : Int).toNat)) (fun i σ' H' => ∃ (o0 o2 o3 o4 o5 o6 o7 o8 o9 o10 : Option V) (n : Nat), σ' = sl o0 p o2 o3 o4 o5 o6 o7 o8 o9 o10 ∧ PenAt H' p c n ∧ n ≤ 200 * i ∧ Tabs [(PL, lamQ)] H')
      ⟨_, _, _, _, _, _, _, _, _, _, 0, rfl, hP, Nat.le_refl _, T1⟩ (fun _ _ _ _ _ => trivial) ?_ ?_⟩
    · rintro i x σ' Ha Hb hi ⟨o0, o2, o3, o4, o5, o6, o7, o8, o9, o10, n, rfl, hP, hn, hT⟩ ⟨rfl, rfl⟩
      have hi12 : i < 12 := hi
      have small : ∀ m : Nat, m ≤ 100000 → m < 2 ^ 49 := fun m hm => Nat.lt_of_le_of_lt hm (by decide)
      refine ⟨_, _, _, _, _, _, _, _, _, _, p, c, n, rfl, hP, small n (by omega), fun H1 b S ys ps d1 hb hps hG sy => ?_⟩
      have T1 := My.Tabs.but hP d1.but hT
      refine ⟨_, _, _, _, _, _, _, _, p, b, S, rfl, fun H2 t n2 => ?_⟩
      have T2 := LamX.Tabs.ext T1 n2.same
      have P2 := d1.pen.same n2.same
      have b2 := n2.same _ _ hb
      have hps2 := hps.same n2.same
      refine ⟨_, _, _, _, _, _, _, _, _, p, c, n + 40, S, rfl, P2, small _ (by omega), hG.lo, good_tx hG, fun H3 v1 da d3 hv1 => ?_⟩
      have T3 := My.Tabs.but P2 d3.but T2
      have bp := P2.neL b2
      have tp := P2.neT n2.here
      have hps3 : PairsAt H3 ps ys := Paired.map (fun e y hy => by
        obtain ⟨q, e1, e2⟩ := hy
        exact ⟨q, e1, d3.but _ _ (P2.neT e2) e2⟩) hps2
      refine ⟨_, _, _, _, _, _, _, _, p, c, t, b, n + 45, S, ys, ps, rfl, d3.pen, small _ (by omega), d3.but _ _ tp n2.here, d3.but _ _ bp b2, hps3, hG, sy, fun H4 v2 db d4 hv2 => ?_⟩
      have T4 := My.Tabs.but d3.pen d4.but T3
      have val_but : ∀ {Ga Gb : Hp} {v : V} {d : PyData}, But p Ga Gb → Val K p Ga v d → Val K p Gb v d := fun bt h => ⟨h.rp.but bt, h.fit, h.dep, h.shw, h.len, h.ln⟩
      have val_ext : ∀ {Ga Gb : Hp} {v : V} {d : PyData}, ExtN Ga Gb → Val K p Ga v d → Val K p Gb v d := fun bt h => ⟨h.rp.ext bt, h.fit, h.dep, h.shw, h.len, h.ln⟩
      have hv1' := val_but d4.but hv1
      have t4 := d4.but _ _ tp (d3.but _ _ tp n2.here)
      refine ⟨_, _, _, _, _, _, _, _, p, c, n + 53, v1, v2, da, db, rfl, d4.pen, hv1', hv2, fun H5 s5 => ?_⟩
      have T5 := LamX.Tabs.ext T4 s5
      refine ⟨_, _, _, _, _, _, _, _, p, c, n + 53, v1, v2, da, db, rfl, d4.pen.same s5, T5, val_but (.of s5) hv1', val_but (.of s5) hv2, fun H6 w5 e6 T6 hw5 => ?_⟩
      have P6 := (d4.pen.same s5).ext e6
      have a6 := val_ext e6 (val_but (.of s5) hv1')
      have c6 := val_ext e6 (val_but (.of s5) hv2)
      refine ⟨_, _, _, _, _, _, p, c, n + 53, v1, v2, w5, da, db, rfl, P6, a6, c6, hw5, fun H7 s7 => ?_⟩
      have P7 := P6.same s7
      have T7 := LamX.Tabs.ext T6 s7
      have t7 := s7 _ _ (e6 _ _ (s5 _ _ t4) (fun _ z => by cases z))
      refine ⟨_, _, _, _, _, _, _, _, _, p, c, t, b, n + 53, S, rfl, P7, small _ (by omega), t7, hG.lo, good_tx hG, fun H8 x8 v8 d8 dr8 hx8 hv8 htx8 => ?_⟩
      have T8 := My.Tabs.but P7 dr8.but T7
      refine ⟨_, _, _, _, _, _, _, _, p, c, n + 56, x8, v8, d8, rfl, dr8.pen, hx8, hv8, fun H9 u9 s9 hu9 => ?_⟩
      refine ⟨_, _, _, _, _, _, _, p, c, n + 56, x8, v8, u9, d8, rfl, dr8.pen.same s9, LamX.Tabs.ext T8 s9, hx8, val_but (.of s9) hv8, htx8, hu9, fun H10 e10 T10 => ?_⟩
      exact ⟨_, _, _, _, _, _, _, _, _, _, n + 56, rfl, (dr8.pen.same s9).ext e10, by omega, T10⟩
    · rintro σ' H2 ⟨o0, o2, o3, o4, o5, o6, o7, o8, o9, o10, n, rfl, hP, hn, hT⟩
      exact ⟨p, c, n, hP, hT, fun H3 P3 T3 => ⟨p, c, n, P3, T3, k⟩⟩
end
end My
end
section
set_option Elab.async false
set_option linter.all false
set_option maxRecDepth 100000
set_option maxHeartbeats 4000000
namespace My
open PySem PySem.Spec PyProof.Rows L2 LamX
/-- a class below a built-in one is told so -/
theorem kit_sub {K : PySem.W.Frag} {U : Addr} {T : String} (h : PySem.W.subIn K (.ref U) (.type T) = some true) (m : PySem.W.kitMeta T = true) : PySem.W.kitOne K (.ref U) (.type T) = some true := by
  show (if (Value.ref U == Value.type T) = true then some true else (if PySem.W.kitMeta T = true then PySem.W.subIn K (.ref U) (.type T) else none)) = some true
  rw [if_pos m, h]
  split <;> rfl
/-- an error of a class is caught by the class's name -/
theorem caught_self {K : PySem.W.Frag} {S : Addr} (h1 : PySem.W.subIn K (.ref S) (.type "BaseException") = some true) (h2 : PySem.W.isClsIn K S = true) (h3 : PySem.W.typeIn K (.ref S) = some (.type "type")) (h4 : PySem.W.subIn K (.ref S) (.ref S) = some true) : PySem.W.exmOne K (.ref S) (.ref S) = some true := by
  have h2 : (PySem.W.clsIn K S).isSome = true := h2
  show (if (PySem.W.subIn K (.ref S) (.type "BaseException") == some true) = true then (if ((PySem.W.clsIn K S).isSome && (PySem.W.typeIn K (.ref S) == some (.type "type"))) = true then PySem.W.subIn K (.ref S) (.ref S) else none) else none) = some true
  rw [h1, h2, h3, h4]
  rfl
theorem kit_no {K : PySem.W.Frag} {U S : Addr} (h : PySem.W.subIn K (.ref U) (.ref S) = some false) (h0 : PySem.W.subIn K (.ref U) (.ref U) = some true) (h2 : PySem.W.isClsIn K S = true) (h3 : PySem.W.typeIn K (.ref S) = some (.type "type")) : PySem.W.kitOne K (.ref U) (.ref S) = some false := by
  have ne : U ≠ S := fun e => by
    subst e
    rw [h] at h0
    cases h0
  have h2 : (PySem.W.clsIn K S).isSome = true := h2
  show (if (Value.ref U == Value.ref S) = true then some true else (if ((PySem.W.clsIn K S).isSome && (PySem.W.typeIn K (.ref S) == some (.type "type"))) = true then PySem.W.subIn K (.ref U) (.ref S) else none)) = some false
  rw [if_neg (by simpa using ne), h2, h3, h]
  rfl
theorem exm_no {K : PySem.W.Frag} {U S : Addr} (h1 : PySem.W.subIn K (.ref S) (.type "BaseException") = some true) (h2 : PySem.W.isClsIn K S = true) (h3 : PySem.W.typeIn K (.ref S) = some (.type "type")) (h4 : PySem.W.subIn K (.ref U) (.ref S) = some false) : PySem.W.exmOne K (.ref U) (.ref S) = some false := by
  have h2 : (PySem.W.clsIn K S).isSome = true := h2
  show (if (PySem.W.subIn K (.ref S) (.type "BaseException") == some true) = true then (if ((PySem.W.clsIn K S).isSome && (PySem.W.typeIn K (.ref S) == some (.type "type"))) = true then PySem.W.subIn K (.ref U) (.ref S) else none) else none) = some false
  rw [h1, h2, h3, h4]
  rfl
theorem all_mk {l : PySem.W.OpenLaw} {w : World} {K : PySem.W.Frag} {h : Heap} {mg : Str → Option Value} {fa : Addr}
    {ocLi kVLi dcLi pmLi cdLi ctLi : Value} {odLi anLi : Option Addr} {slLi : Array (Option Value)} {fLi : Addr}
    {ocFs kVFs dcFs pmFs cdFs ctFs : Value} {odFs anFs : Option Addr} {slFs : Array (Option Value)} {fFs : Addr}
    {ocSi kVSi dcSi pmSi cdSi ctSi : Value} {odSi anSi : Option Addr} {slSi : Array (Option Value)} {fSi : Addr}
    {ocSe kVSe dcSe pmSe cdSe ctSe : Value} {odSe anSe : Option Addr} {slSe : Array (Option Value)} {fSe : Addr}
    {ocKt kVKt dcKt pmKt cdKt ctKt : Value} {odKt anKt : Option Addr} {slKt : Array (Option Value)} {fKt : Addr}
    {ocPa kVPa dcPa pmPa cdPa ctPa : Value} {odPa anPa : Option Addr} {slPa : Array (Option Value)} {fPa : Addr}
    {ocPe kVPe dcPe pmPe cdPe ctPe : Value} {odPe anPe : Option Addr} {slPe : Array (Option Value)} {fPe : Addr}
    {ocDr kVDr dcDr pmDr cdDr ctDr : Value} {odDr anDr : Option Addr} {slDr : Array (Option Value)} {fDr : Addr}
    {ocPi kVPi dcPi pmPi cdPi ctPi : Value} {odPi anPi : Option Addr} {slPi : Array (Option Value)} {fPi : Addr}
    {ocSh kVSh dcSh pmSh cdSh ctSh : Value} {odSh anSh : Option Addr} {slSh : Array (Option Value)} {fSh : Addr}
    {ocOd kVOd dcOd pmOd cdOd ctOd : Value} {odOd anOd : Option Addr} {slOd : Array (Option Value)} {fOd : Addr}
    {ocFo kVFo dcFo pmFo cdFo ctFo : Value} {odFo anFo : Option Addr} {slFo : Array (Option Value)} {fFo : Addr}
    {ocRe kVRe dcRe pmRe cdRe ctRe : Value} {odRe anRe : Option Addr} {slRe : Array (Option Value)} {fRe : Addr}
    {ocDu kVDu dcDu pmDu cdDu ctDu : Value} {odDu anDu : Option Addr} {slDu : Array (Option Value)} {fDu : Addr}
    {ocBs kVBs dcBs pmBs cdBs ctBs : Value} {odBs anBs : Option Addr} {slBs : Array (Option Value)} {fBs : Addr}
    {ocBt kVBt dcBt pmBt cdBt ctBt : Value} {odBt anBt : Option Addr} {slBt : Array (Option Value)} {fBt : Addr}
    {ocIn kVIn dcIn pmIn cdIn ctIn : Value} {odIn anIn : Option Addr} {slIn : Array (Option Value)} {fIn : Addr}
    {ocOf kVOf dcOf pmOf cdOf ctOf : Value} {odOf anOf : Option Addr} {slOf : Array (Option Value)} {fOf : Addr}
    {pOf : Addr} {rrOf : List Value}
    {IF fIF : Addr} {nmIF qIF : Str} {NIF : Addr} {bsIF : List Value} {snIF : List Str} {subIF : List Value} {abIF : Bool} {colIF : Option Bool} {ddIF : Option Addr} {m0IF m1IF m2IF m3IF m5IF : Option Value} {ocIF dcIF pmIF cdIF ctIF : Value} {odIF anIF : Option Addr} {slIF : Array (Option Value)}
    {IT fIT : Addr} {nmIT qIT : Str} {NIT : Addr} {bsIT : List Value} {snIT : List Str} {subIT : List Value} {abIT : Bool} {colIT : Option Bool} {ddIT : Option Addr} {m0IT m1IT m2IT m3IT m5IT : Option Value} {ocIT dcIT pmIT cdIT ctIT : Value} {odIT anIT : Option Addr} {slIT : Array (Option Value)}
    {ocLa kVLa dcLa pmLa ctLa : Value} {odLa anLa : Option Addr} {slLa : Array (Option Value)} {fLa : Addr}
    {C tD t0 cL PL : Addr} {ocD : Value} {odD odE : Option Addr} {nD nE : Nat} {slD slE : Array (Option Value)} {tm tA : Tok}
    (X : K.In h) (G : h.Ns mainGlobals mg) (hfa : mg "law" = some (.ref fa))
    (aLi : PySem.W.nsIn K mainGlobals "is_listed" = some (some (.ref fLi)))
    (lLi : K.lookup fLi = some ⟨ocLi, odLi, .func (PySem.W.fnOf "is_listed" "is_listed" (defArgs s_isListed) (defBody s_isListed) (defScope s_isListed) .none kVLi dcLi pmLi anLi cdLi ctLi), slLi⟩)
    (cLi : PySem.W.codeIn K cdLi "is_listed" = true)
    (kLi : PySem.W.keepIn K (.ref fLi) = true)
    (aFs : PySem.W.nsIn K mainGlobals "is_font_signs" = some (some (.ref fFs)))
    (lFs : K.lookup fFs = some ⟨ocFs, odFs, .func (PySem.W.fnOf "is_font_signs" "is_font_signs" (defArgs s_isFont) (defBody s_isFont) (defScope s_isFont) .none kVFs dcFs pmFs anFs cdFs ctFs), slFs⟩)
    (cFs : PySem.W.codeIn K cdFs "is_font_signs" = true)
    (kFs : PySem.W.keepIn K (.ref fFs) = true)
    (aSi : PySem.W.nsIn K mainGlobals "is_sign" = some (some (.ref fSi)))
    (lSi : K.lookup fSi = some ⟨ocSi, odSi, .func (PySem.W.fnOf "is_sign" "is_sign" (defArgs s_isSign) (defBody s_isSign) (defScope s_isSign) .none kVSi dcSi pmSi anSi cdSi ctSi), slSi⟩)
    (cSi : PySem.W.codeIn K cdSi "is_sign" = true)
    (kSi : PySem.W.keepIn K (.ref fSi) = true)
    (aSe : PySem.W.nsIn K mainGlobals "is_set" = some (some (.ref fSe)))
    (lSe : K.lookup fSe = some ⟨ocSe, odSe, .func (PySem.W.fnOf "is_set" "is_set" (defArgs s_isSet) (defBody s_isSet) (defScope s_isSet) .none kVSe dcSe pmSe anSe cdSe ctSe), slSe⟩)
    (cSe : PySem.W.codeIn K cdSe "is_set" = true)
    (kSe : PySem.W.keepIn K (.ref fSe) = true)
    (aKt : PySem.W.nsIn K mainGlobals "kept_turns" = some (some (.ref fKt)))
    (lKt : K.lookup fKt = some ⟨ocKt, odKt, .func (PySem.W.fnOf "kept_turns" "kept_turns" (defArgs s_kept) (defBody s_kept) (defScope s_kept) .none kVKt dcKt pmKt anKt cdKt ctKt), slKt⟩)
    (cKt : PySem.W.codeIn K cdKt "kept_turns" = true)
    (kKt : PySem.W.keepIn K (.ref fKt) = true)
    (aPa : PySem.W.nsIn K mainGlobals "_is_pair" = some (some (.ref fPa)))
    (lPa : K.lookup fPa = some ⟨ocPa, odPa, .func (PySem.W.fnOf "_is_pair" "_is_pair" (defArgs s_isPair) (defBody s_isPair) (defScope s_isPair) .none kVPa dcPa pmPa anPa cdPa ctPa), slPa⟩)
    (cPa : PySem.W.codeIn K cdPa "_is_pair" = true)
    (kPa : PySem.W.keepIn K (.ref fPa) = true)
    (aPe : PySem.W.nsIn K mainGlobals "_law_pen" = some (some (.ref fPe)))
    (lPe : K.lookup fPe = some ⟨ocPe, odPe, .func (PySem.W.fnOf "_law_pen" "_law_pen" (defArgs s_pen) (defBody s_pen) (defScope s_pen) .none kVPe dcPe pmPe anPe cdPe ctPe), slPe⟩)
    (cPe : PySem.W.codeIn K cdPe "_law_pen" = true)
    (kPe : PySem.W.keepIn K (.ref fPe) = true)
    (aDr : PySem.W.nsIn K mainGlobals "_law_draw" = some (some (.ref fDr)))
    (lDr : K.lookup fDr = some ⟨ocDr, odDr, .func (PySem.W.fnOf "_law_draw" "_law_draw" (defArgs s_draw) (defBody s_draw) (defScope s_draw) .none kVDr dcDr pmDr anDr cdDr ctDr), slDr⟩)
    (cDr : PySem.W.codeIn K cdDr "_law_draw" = true)
    (kDr : PySem.W.keepIn K (.ref fDr) = true)
    (aPi : PySem.W.nsIn K mainGlobals "_law_pick" = some (some (.ref fPi)))
    (lPi : K.lookup fPi = some ⟨ocPi, odPi, .func (PySem.W.fnOf "_law_pick" "_law_pick" (defArgs s_pick) (defBody s_pick) (defScope s_pick) .none kVPi dcPi pmPi anPi cdPi ctPi), slPi⟩)
    (cPi : PySem.W.codeIn K cdPi "_law_pick" = true)
    (kPi : PySem.W.keepIn K (.ref fPi) = true)
    (aSh : PySem.W.nsIn K mainGlobals "_law_shuffled" = some (some (.ref fSh)))
    (lSh : K.lookup fSh = some ⟨ocSh, odSh, .func (PySem.W.fnOf "_law_shuffled" "_law_shuffled" (defArgs s_shuf) (defBody s_shuf) (defScope s_shuf) .none kVSh dcSh pmSh anSh cdSh ctSh), slSh⟩)
    (cSh : PySem.W.codeIn K cdSh "_law_shuffled" = true)
    (kSh : PySem.W.keepIn K (.ref fSh) = true)
    (aOd : PySem.W.nsIn K mainGlobals "_law_odd" = some (some (.ref fOd)))
    (lOd : K.lookup fOd = some ⟨ocOd, odOd, .func (PySem.W.fnOf "_law_odd" "_law_odd" (defArgs s_odd) (defBody s_odd) (defScope s_odd) .none kVOd dcOd pmOd anOd cdOd ctOd), slOd⟩)
    (cOd : PySem.W.codeIn K cdOd "_law_odd" = true)
    (kOd : PySem.W.keepIn K (.ref fOd) = true)
    (aFo : PySem.W.nsIn K mainGlobals "_law_font" = some (some (.ref fFo)))
    (lFo : K.lookup fFo = some ⟨ocFo, odFo, .func (PySem.W.fnOf "_law_font" "_law_font" (defArgs s_font) (defBody s_font) (defScope s_font) .none kVFo dcFo pmFo anFo cdFo ctFo), slFo⟩)
    (cFo : PySem.W.codeIn K cdFo "_law_font" = true)
    (kFo : PySem.W.keepIn K (.ref fFo) = true)
    (aRe : PySem.W.nsIn K mainGlobals "_law_refused" = some (some (.ref fRe)))
    (lRe : K.lookup fRe = some ⟨ocRe, odRe, .func (PySem.W.fnOf "_law_refused" "_law_refused" (defArgs s_refused) (defBody s_refused) (defScope s_refused) .none kVRe dcRe pmRe anRe cdRe ctRe), slRe⟩)
    (cRe : PySem.W.codeIn K cdRe "_law_refused" = true)
    (kRe : PySem.W.keepIn K (.ref fRe) = true)
    (aDu : PySem.W.nsIn K mainGlobals "_law_due" = some (some (.ref fDu)))
    (lDu : K.lookup fDu = some ⟨ocDu, odDu, .func (PySem.W.fnOf "_law_due" "_law_due" (defArgs s_due) (defBody s_due) (defScope s_due) .none kVDu dcDu pmDu anDu cdDu ctDu), slDu⟩)
    (cDu : PySem.W.codeIn K cdDu "_law_due" = true)
    (kDu : PySem.W.keepIn K (.ref fDu) = true)
    (aBs : PySem.W.nsIn K mainGlobals "_law_bent_signs" = some (some (.ref fBs)))
    (lBs : K.lookup fBs = some ⟨ocBs, odBs, .func (PySem.W.fnOf "_law_bent_signs" "_law_bent_signs" (defArgs s_bentS) (defBody s_bentS) (defScope s_bentS) .none kVBs dcBs pmBs anBs cdBs ctBs), slBs⟩)
    (cBs : PySem.W.codeIn K cdBs "_law_bent_signs" = true)
    (kBs : PySem.W.keepIn K (.ref fBs) = true)
    (aBt : PySem.W.nsIn K mainGlobals "_law_bent_turns" = some (some (.ref fBt)))
    (lBt : K.lookup fBt = some ⟨ocBt, odBt, .func (PySem.W.fnOf "_law_bent_turns" "_law_bent_turns" (defArgs s_bentT) (defBody s_bentT) (defScope s_bentT) .none kVBt dcBt pmBt anBt cdBt ctBt), slBt⟩)
    (cBt : PySem.W.codeIn K cdBt "_law_bent_turns" = true)
    (kBt : PySem.W.keepIn K (.ref fBt) = true)
    (aC : PySem.W.nsIn K mainGlobals "Font" = some (some (.ref C)))
    (aIn : PySem.W.findIn K (.ref C) "__init__" = some (some (.ref fIn)))
    (iIn : PySem.W.isFn K (.ref fIn) = true)
    (lIn : K.lookup fIn = some ⟨ocIn, odIn, .func (PySem.W.fnOf "__init__" "Font.__init__" (defArgs s_init) (defBody s_init) (defScope s_init) (.ref tD) kVIn dcIn pmIn anIn cdIn ctIn), slIn⟩)
    (cIn : PySem.W.codeIn K cdIn "Font.__init__" = true)
    (kIn : PySem.W.keepIn K (.ref fIn) = true)
    (aOf : PySem.W.findCls K (.ref C) (.type "type") "of" = some (.get (.builtin "classmethod.__get__") (.ref pOf) .none (.ref C)))
    (rOf : PySem.W.recIn K pOf "classmethod" = some (.ref fOf :: rrOf))
    (iOf : PySem.W.fnIn K fOf = true)
    (lOf : K.lookup fOf = some ⟨ocOf, odOf, .func (PySem.W.fnOf "of" "Font.of" (defArgs s_of) (defBody s_of) (defScope s_of) .none kVOf dcOf pmOf anOf cdOf ctOf), slOf⟩)
    (cOf : PySem.W.codeIn K cdOf "Font.of" = true)
    (lD : K.lookup tD = some ⟨ocD, odD, .seq #[Value.ref t0] nD, slD⟩)
    (lE : K.lookup t0 = some ⟨.type "tuple", odE, .seq #[] nE, slE⟩)
    (rd : PySem.W.readsIn K C (.type "type") = true)
    (ga : PySem.W.specialIn K (.ref C) "__getattribute__" = some (some (.builtin "type.__getattribute__")))
    (mv : PySem.W.findCls K (.ref C) (.type "type") "MAX_SIGNS" = some (.val (.int 10 tm)))
    (pg : PySem.W.plainGet K C Str.empty = true)
    (hd : PySem.W.hasDictIn K C = true)
    (po : PySem.W.plainOver K C = true)
    (sa : PySem.W.findIn K (.ref C) "__setattr__" = some (some (.builtin "object.__setattr__")))
    (mk : PySem.W.makesIn K C = true)
    (kC : PySem.W.keepIn K (.ref C) = true)
    (nS : PySem.W.findIn K (.ref C) "_signs" = some none)
    (nT : PySem.W.findIn K (.ref C) "_turns" = some none)
    (aA : PySem.W.nsIn K mainGlobals "ALPHABET" = some (some (.str alphabet tA)))
    (aIF : PySem.W.nsIn K mainGlobals "InvalidFont" = some (some (.ref IF)))
    (xIF : K.lookup IF = some (excClassObj nmIF qIF IF NIF bsIF bmValue true snIF subIF abIF colIF ddIF m0IF m1IF m2IF m3IF m5IF "ValueError.__new__"))
    (sIF : PySem.W.findIn K (.ref IF) "__setattr__" = some (some (.builtin "object.__setattr__")))
    (gIF : PySem.W.findIn K (.ref IF) "__getattribute__" = some (some (.builtin "BaseException.__getattribute__")))
    (hIF : PySem.W.findIn K (.ref IF) "__getattr__" = some none)
    (nIF : PySem.W.findIn K (.ref IF) "value" = some none)
    (iIF : PySem.W.findIn K (.ref IF) "__init__" = some (some (.ref fIF)))
    (tIF : PySem.W.typeIn K (.ref fIF) = some (.type "function"))
    (lIF : K.lookup fIF = some ⟨ocIF, odIF, .func (PySem.W.fnOf "__init__" "InvalidFont.__init__" (eArgs "value" ⟨10, 17, 10, 21⟩ ⟨10, 23, 10, 28⟩) (eBody "value" ⟨11, 8, 11, 12⟩ ⟨11, 8, 11, 18⟩ ⟨11, 21, 11, 26⟩ ⟨11, 8, 11, 26⟩) (eScope "value") .none .none dcIF pmIF anIF cdIF ctIF), slIF⟩)
    (cIF : PySem.W.codeIn K cdIF "InvalidFont.__init__" = true)
    (kIF : PySem.W.keepIn K (.ref IF) = true)
    (eIF : PySem.W.subIn K (.ref IF) (.type "BaseException") = some true)
    (yIF : PySem.W.typeIn K (.ref IF) = some (.type "type"))
    (dIF : PySem.W.hasDictIn K IF = true)
    (bIF : PySem.W.isClsIn K IF = true)
    (zIF : PySem.W.subIn K (.ref IF) (.ref IF) = some true)
    (vIF : PySem.W.subIn K (.ref IF) (.type "ValueError") = some true)
    (aIT : PySem.W.nsIn K mainGlobals "InvalidTurns" = some (some (.ref IT)))
    (xIT : K.lookup IT = some (excClassObj nmIT qIT IT NIT bsIT bmValue true snIT subIT abIT colIT ddIT m0IT m1IT m2IT m3IT m5IT "ValueError.__new__"))
    (sIT : PySem.W.findIn K (.ref IT) "__setattr__" = some (some (.builtin "object.__setattr__")))
    (gIT : PySem.W.findIn K (.ref IT) "__getattribute__" = some (some (.builtin "BaseException.__getattribute__")))
    (hIT : PySem.W.findIn K (.ref IT) "__getattr__" = some none)
    (nIT : PySem.W.findIn K (.ref IT) "value" = some none)
    (iIT : PySem.W.findIn K (.ref IT) "__init__" = some (some (.ref fIT)))
    (tIT : PySem.W.typeIn K (.ref fIT) = some (.type "function"))
    (lIT : K.lookup fIT = some ⟨ocIT, odIT, .func (PySem.W.fnOf "__init__" "InvalidTurns.__init__" (eArgs "value" ⟨14, 17, 14, 21⟩ ⟨14, 23, 14, 28⟩) (eBody "value" ⟨15, 8, 15, 12⟩ ⟨15, 8, 15, 18⟩ ⟨15, 21, 15, 26⟩ ⟨15, 8, 15, 26⟩) (eScope "value") .none .none dcIT pmIT anIT cdIT ctIT), slIT⟩)
    (cIT : PySem.W.codeIn K cdIT "InvalidTurns.__init__" = true)
    (kIT : PySem.W.keepIn K (.ref IT) = true)
    (eIT : PySem.W.subIn K (.ref IT) (.type "BaseException") = some true)
    (yIT : PySem.W.typeIn K (.ref IT) = some (.type "type"))
    (dIT : PySem.W.hasDictIn K IT = true)
    (bIT : PySem.W.isClsIn K IT = true)
    (zIT : PySem.W.subIn K (.ref IT) (.ref IT) = some true)
    (vIT : PySem.W.subIn K (.ref IT) (.type "ValueError") = some true)
    (w1 : PySem.W.subIn K (.ref IF) (.ref IT) = some false)
    (w2 : PySem.W.subIn K (.ref IT) (.ref IF) = some false)
    (w3 : PySem.W.findIn K (.ref IF) "__class__" = some (some (.builtin "object.__class__")))
    (w4 : PySem.W.specialIn K (.builtin "object.__class__") "__get__" = some (some (.builtin "getset_descriptor.__get__")))
    (w5 : PySem.W.takesIn K (.builtin "object.__class__") = some true)
    (w6 : PySem.W.mroIn K IF (.type "object") = some true)
    (zint : PySem.W.nsIn K mainGlobals "int" = some none)
    (zlen : PySem.W.nsIn K mainGlobals "len" = some none)
    (zabs : PySem.W.nsIn K mainGlobals "abs" = some none)
    (zlist : PySem.W.nsIn K mainGlobals "list" = some none)
    (ztuple : PySem.W.nsIn K mainGlobals "tuple" = some none)
    (zstr : PySem.W.nsIn K mainGlobals "str" = some none)
    (zset : PySem.W.nsIn K mainGlobals "set" = some none)
    (zall : PySem.W.nsIn K mainGlobals "all" = some none)
    (zisinstance : PySem.W.nsIn K mainGlobals "isinstance" = some none)
    (zrepr : PySem.W.nsIn K mainGlobals "repr" = some none)
    (zrange : PySem.W.nsIn K mainGlobals "range" = some none)
    (zValueError : PySem.W.nsIn K mainGlobals "ValueError" = some none)
    (zsorted : PySem.W.nsIn K mainGlobals "sorted" = some none)
    (aLa : PySem.W.nsIn K mainGlobals "law" = some (some (.ref fLa)))
    (lLa : K.lookup fLa = some ⟨ocLa, odLa, .func (PySem.W.fnOf "law" "law" (defArgs s_law) (defBody s_law) (defScope s_law) .none kVLa dcLa pmLa anLa (.ref cL) ctLa), slLa⟩)
    (cLa : PySem.W.codeIn K (.ref cL) "law" = true)
    (tb : h.get? PL = some emptyTab)
    (ch : PySem.W.codeHdIn K cL PL = true)
    (nP : K.lookup PL = none) :
    LawG l w K 9 63 "_law_script" mg fa h := by
  have e := hfa.symm.trans (PySem.W.mg_of X G aLa)
  cases e
  have T : TB mg := ⟨PySem.W.mg_none_of X G zint, PySem.W.mg_none_of X G zlen, PySem.W.mg_none_of X G zabs, PySem.W.mg_none_of X G zlist, PySem.W.mg_none_of X G ztuple, PySem.W.mg_none_of X G zstr, PySem.W.mg_none_of X G zset, PySem.W.mg_none_of X G zall, PySem.W.mg_none_of X G zisinstance, PySem.W.mg_none_of X G zrepr, PySem.W.mg_none_of X G zrange⟩
  have TD : TDraw mg := ⟨T.int, T.len, T.abs⟩
  have gF := PySem.W.mg_of X G aC
  have gA := PySem.W.mg_of X G aA
  have FLi := fun_mk (st := s_isListed) lLi cLi kLi
  have DLi : Def K mg "is_listed" fLi _ ["value"] := ⟨PySem.W.mg_of X G aLi, kLi, FLi.binds (ps := ["value"]) fun _ _ _ _ _ _ us hl => match us, hl with | [_], _ => rfl⟩
  have FFs := fun_mk (st := s_isFont) lFs cFs kFs
  have DFs : Def K mg "is_font_signs" fFs _ ["value"] := ⟨PySem.W.mg_of X G aFs, kFs, FFs.binds (ps := ["value"]) fun _ _ _ _ _ _ us hl => match us, hl with | [_], _ => rfl⟩
  have FSi := fun_mk (st := s_isSign) lSi cSi kSi
  have DSi : Def K mg "is_sign" fSi _ ["signs", "value"] := ⟨PySem.W.mg_of X G aSi, kSi, FSi.binds (ps := ["signs", "value"]) fun _ _ _ _ _ _ us hl => match us, hl with | [_, _], _ => rfl⟩
  have FSe := fun_mk (st := s_isSet) lSe cSe kSe
  have DSe : Def K mg "is_set" fSe _ ["signs", "value"] := ⟨PySem.W.mg_of X G aSe, kSe, FSe.binds (ps := ["signs", "value"]) fun _ _ _ _ _ _ us hl => match us, hl with | [_, _], _ => rfl⟩
  have FKt := fun_mk (st := s_kept) lKt cKt kKt
  have DKt : Def K mg "kept_turns" fKt _ ["signs", "turns"] := ⟨PySem.W.mg_of X G aKt, kKt, FKt.binds (ps := ["signs", "turns"]) fun _ _ _ _ _ _ us hl => match us, hl with | [_, _], _ => rfl⟩
  have FPa := fun_mk (st := s_isPair) lPa cPa kPa
  have DPa : Def K mg "_is_pair" fPa _ ["signs", "value"] := ⟨PySem.W.mg_of X G aPa, kPa, FPa.binds (ps := ["signs", "value"]) fun _ _ _ _ _ _ us hl => match us, hl with | [_, _], _ => rfl⟩
  have FPe := fun_mk (st := s_pen) lPe cPe kPe
  have DPe : Def K mg "_law_pen" fPe _ ["_law_script"] := ⟨PySem.W.mg_of X G aPe, kPe, FPe.binds (ps := ["_law_script"]) fun _ _ _ _ _ _ us hl => match us, hl with | [_], _ => rfl⟩
  have FDr := fun_mk (st := s_draw) lDr cDr kDr
  have DDr : Def K mg "_law_draw" fDr _ ["_law_pen_here", "_law_many"] := ⟨PySem.W.mg_of X G aDr, kDr, FDr.binds (ps := ["_law_pen_here", "_law_many"]) fun _ _ _ _ _ _ us hl => match us, hl with | [_, _], _ => rfl⟩
  have FPi := fun_mk (st := s_pick) lPi cPi kPi
  have DPi : Def K mg "_law_pick" fPi _ ["_law_pen_here", "_law_options"] := ⟨PySem.W.mg_of X G aPi, kPi, FPi.binds (ps := ["_law_pen_here", "_law_options"]) fun _ _ _ _ _ _ us hl => match us, hl with | [_, _], _ => rfl⟩
  have FSh := fun_mk (st := s_shuf) lSh cSh kSh
  have DSh : Def K mg "_law_shuffled" fSh _ ["_law_pen_here", "_law_items"] := ⟨PySem.W.mg_of X G aSh, kSh, FSh.binds (ps := ["_law_pen_here", "_law_items"]) fun _ _ _ _ _ _ us hl => match us, hl with | [_, _], _ => rfl⟩
  have FOd := fun_mk (st := s_odd) lOd cOd kOd
  have DOd : Def K mg "_law_odd" fOd _ ["_law_pen_here"] := ⟨PySem.W.mg_of X G aOd, kOd, FOd.binds (ps := ["_law_pen_here"]) fun _ _ _ _ _ _ us hl => match us, hl with | [_], _ => rfl⟩
  have FFo := fun_mk (st := s_font) lFo cFo kFo
  have DFo : Def K mg "_law_font" fFo _ ["_law_pen_here", "_law_most"] := ⟨PySem.W.mg_of X G aFo, kFo, FFo.binds (ps := ["_law_pen_here", "_law_most"]) fun _ _ _ _ _ _ us hl => match us, hl with | [_, _], _ => rfl⟩
  have FRe := fun_mk (st := s_refused) lRe cRe kRe
  have DRe : Def K mg "_law_refused" fRe _ ["_law_call"] := ⟨PySem.W.mg_of X G aRe, kRe, FRe.binds (ps := ["_law_call"]) fun _ _ _ _ _ _ us hl => match us, hl with | [_], _ => rfl⟩
  have FDu := fun_mk (st := s_due) lDu cDu kDu
  have DDu : Def K mg "_law_due" fDu _ ["_law_signs", "_law_turns"] := ⟨PySem.W.mg_of X G aDu, kDu, FDu.binds (ps := ["_law_signs", "_law_turns"]) fun _ _ _ _ _ _ us hl => match us, hl with | [_, _], _ => rfl⟩
  have FBs := fun_mk (st := s_bentS) lBs cBs kBs
  have DBs : Def K mg "_law_bent_signs" fBs _ ["_law_pen_here", "_law_signs"] := ⟨PySem.W.mg_of X G aBs, kBs, FBs.binds (ps := ["_law_pen_here", "_law_signs"]) fun _ _ _ _ _ _ us hl => match us, hl with | [_, _], _ => rfl⟩
  have FBt := fun_mk (st := s_bentT) lBt cBt kBt
  have DBt : Def K mg "_law_bent_turns" fBt _ ["_law_pen_here", "_law_font_here"] := ⟨PySem.W.mg_of X G aBt, kBt, FBt.binds (ps := ["_law_pen_here", "_law_font_here"]) fun _ _ _ _ _ _ us hl => match us, hl with | [_, _], _ => rfl⟩
  have FIn : FunD K "__init__" "Font.__init__" (defArgs s_init) (defBody s_init) (defScope s_init) [V.ref t0] [] fIn (PySem.W.fnOf "__init__" "Font.__init__" (defArgs s_init) (defBody s_init) (defScope s_init) (.ref tD) kVIn dcIn pmIn anIn cdIn ctIn) := ⟨⟨_, _, .ref tD, _, _, _, _, _, _, _, rfl, lIn, cIn, .inr ⟨(fun z => by cases z), tD, _, [.ref t0], nD, rfl, lD, rfl, .cons rfl .nil⟩, .inl rfl⟩, kIn⟩
  have bI : Binds K (PySem.W.fnOf "__init__" "Font.__init__" (defArgs s_init) (defBody s_init) (defScope s_init) (.ref tD) kVIn dcIn pmIn anIn cdIn ctIn) ["self", "signs", "turns"] [] := by
    obtain ⟨ds, hds, b⟩ := FIn.binds1 (ps := ["self", "signs", "turns"]) 3 1 (fun z => by cases z) rfl (fun _ _ _ _ _ _ _ us its hl hi => match us, its, hl, hi with | [_, _, _], [_], _, _ => ⟨_, rfl, rfl⟩)
    cases hds
    exact b
  have bJ : Binds K (PySem.W.fnOf "__init__" "Font.__init__" (defArgs s_init) (defBody s_init) (defScope s_init) (.ref tD) kVIn dcIn pmIn anIn cdIn ctIn) ["self", "signs", "turns"] [.ref t0] := by
    obtain ⟨ds, hds, b⟩ := FIn.binds1 (ps := ["self", "signs", "turns"]) 2 0 (fun z => by cases z) rfl (fun _ _ _ _ _ _ _ us its hl hi => match us, its, hl, hi with | [_, _], [_], _, _ => ⟨_, rfl, rfl⟩)
    cases hds with
    | cons r rr =>
      cases rr
      cases r
      exact b
  have ht0 : KEmp K t0 := ⟨_, nE, lE, rfl, rfl⟩
  have cl : Cls K C := ⟨pg, hd, po, sa⟩
  have M : Mk K C fIn := ⟨mk, aIn, iIn, kC⟩
  have rC : ClX.CRead K C (.type "type") := ⟨rd, ga⟩
  have cM : ClX.CVal K C (.type "type") "MAX_SIGNS" (.int 10) (.int 10 tm) := ⟨mv, ⟨_, rfl⟩⟩
  have TF : VErr K mg "InvalidFont" "InvalidFont.__init__" IF fIF :=
    { facts := PySem.F.excBase_ValueError, chain := chain_Value, gC := PySem.W.mg_of X G aIF, cls := ⟨nmIF, qIF, NIF, bsIF, snIF, subIF, abIF, colIF, ddIF, m0IF, m1IF, m2IF, m3IF, m5IF, xIF⟩, sa := sIF, ga := gIF, gg := hIF, noN := nIF, iC := iIF, tC := tIF, kC := kIF, exC := eIF, tyC := yIF, hdC := dIF, te := caught_self eIF bIF yIF zIF,
      fn := ⟨_, _, _, _, _, _, _, _, _, _, _, _, _, _, lIF, cIF⟩ }
  have TT : VErr K mg "InvalidTurns" "InvalidTurns.__init__" IT fIT :=
    { facts := PySem.F.excBase_ValueError, chain := chain_Value, gC := PySem.W.mg_of X G aIT, cls := ⟨nmIT, qIT, NIT, bsIT, snIT, subIT, abIT, colIT, ddIT, m0IT, m1IT, m2IT, m3IT, m5IT, xIT⟩, sa := sIT, ga := gIT, gg := hIT, noN := nIT, iC := iIT, tC := tIT, kC := kIT, exC := eIT, tyC := yIT, hdC := dIT, te := caught_self eIT bIT yIT zIT,
      fn := ⟨_, _, _, _, _, _, _, _, _, _, _, _, _, _, lIT, cIT⟩ }
  have CF : ExcC K IF := ⟨gIF, hIF, eIF, dIF, w3, w4, w5, w6⟩
  refine ⟨PySem.W.fnOf "law" "law" (defArgs s_law) (defBody s_law) (defScope s_law) .none kVLa dcLa pmLa anLa (.ref cL) ctLa, [(cL, PL)], sp_law K PL, fun p hp => ?_, fun p hp => ?_, fun p hp => ?_, fun s u => .of_eq rfl, fun H a ns hl _ hH hS => ?_, fun base KB GB TBs => ?_⟩
  · rw [List.mem_singleton.mp hp]
    exact tb
  · rw [List.mem_singleton.mp hp]
    exact nP
  · rw [List.mem_singleton.mp hp]
    exact PySem.W.codeHd_of_K X ch
  · refine ⟨a, ns, rfl, hS, hl, fun p hp => ?_, fun H' => rfl⟩
    rw [List.mem_singleton.mp hp]
    exact LamX.TabS.nil (hH _ (List.mem_singleton.mpr rfl))
  · have GLi := ok_isListed (P := l.prog) (w := w) (base := base) FLi T
    have GSi := ok_isSign (P := l.prog) (w := w) (base := base) FSi T
    have GSe := ok_isSet (P := l.prog) (w := w) (base := base) FSe T
    have GFs := ok_isFont (P := l.prog) (w := w) (base := base) FFs T DSe GSe gF ⟨⟨_, _, rC, cM⟩⟩ gA
    have GPa := ok_isPair (P := l.prog) (w := w) (base := base) FPa T DSi GSi
    have GKt := ok_kept (P := l.prog) (w := w) (base := base) FKt T DLi GLi DPa GPa
    have GPe := ok_pen (P := l.prog) (w := w) (base := base) FPe T.list
    have GDr := ok_draw (P := l.prog) (w := w) (base := base) FDr TD
    have GPi := ok_pick (P := l.prog) (w := w) (base := base) FPi TD DDr GDr
    have GSh := ok_shuf (P := l.prog) (w := w) (base := base) FSh TD T.list DDr GDr
    have GOd := ok_odd (P := l.prog) (w := w) (base := base) FOd DPi GPi
    have GFo := ok_font (P := l.prog) (w := w) (base := base) FFo DDr GDr DPi GPi DSh GSh
    have GPiS := ok_pickS (P := l.prog) (w := w) (base := base) FPi TD DDr GDr
    have GDu0 := ok_due (P := l.prog) (w := w) (base := base) FDu T (PySem.W.mg_none_of X G zsorted)
    have GBs := ok_bentS (P := l.prog) (w := w) (base := base) FBs T DDr GDr DPi GPi GPiS DOd GOd
    have GBt := ok_bentT (P := l.prog) (w := w) (base := base) FBt T DDr GDr DPi GPi GPiS DOd GOd
    have GIn := ok_initX (P := l.prog) (w := w) (base := base) FIn cl nS nT DFs GFs DKt GKt TF TT
    have GDu := due2 GDu0
    have GOf := of_RX (P := l.prog) (w := w) (mg := mg) (base := base) lOf cOf T M GIn bJ ht0 TF
    exact ok_law lLa cLa T (PySem.W.mg_none_of X G zValueError) TF TT (kit_sub vIF (by decide +kernel)) (kit_sub vIT (by decide +kernel)) (kit_no w1 zIF bIT yIT) (exm_no eIF bIF yIF w2) CF (TBs _ (List.mem_singleton.mpr rfl)) DPe GPe DFo GFo DDr GDr DPi GPi GPiS DBs GBs DBt GBt FRe DRe DDu GDu M GIn bI gF rC ⟨aOf, ⟨_, rOf⟩, iOf⟩ GOf
end My
end
open PySem PySem.W PyProof.Rows
set_option maxRecDepth 100000 in
set_option maxHeartbeats 0 in
theorem PySem.Challenge.cw_hymnplates_k02_fonts_refused_holds : PySem.Challenge.rw_hymnplates_k02_fonts_refused.Holds := by
  w_on; o_law; k_head; (case hw => w_witness2)
  k_fill
  refine My.walkG (l := PySem.Challenge.rw_hymnplates_k02_fonts_refused) (n := 63) (k := 9) (x := "_law_script") rfl (by decide) rfl ⟨rfl, by decide, by decide⟩ (fun w h Y => PySem.W.km_in_of Y) ?F
  case F =>
    intro w mg fa h Y KX G hmg
    refine' My.all_mk KX G hmg ?aLi ?lLi ?cLi ?kLi ?aFs ?lFs ?cFs ?kFs ?aSi ?lSi ?cSi ?kSi ?aSe ?lSe ?cSe ?kSe ?aKt ?lKt ?cKt ?kKt ?aPa ?lPa ?cPa ?kPa ?aPe ?lPe ?cPe ?kPe ?aDr ?lDr ?cDr ?kDr ?aPi ?lPi ?cPi ?kPi ?aSh ?lSh ?cSh ?kSh ?aOd ?lOd ?cOd ?kOd ?aFo ?lFo ?cFo ?kFo ?aRe ?lRe ?cRe ?kRe ?aDu ?lDu ?cDu ?kDu ?aBs ?lBs ?cBs ?kBs ?aBt ?lBt ?cBt ?kBt ?aC ?aIn ?iIn ?lIn ?cIn ?kIn ?aOf ?rOf ?iOf ?lOf ?cOf ?lD ?lE ?rd ?ga ?mv ?pg ?hd ?po ?sa ?mk ?kC ?nS ?nT ?aA ?aIF ?xIF ?sIF ?gIF ?hIF ?nIF ?iIF ?tIF ?lIF ?cIF ?kIF ?eIF ?yIF ?dIF ?bIF ?zIF ?vIF ?aIT ?xIT ?sIT ?gIT ?hIT ?nIT ?iIT ?tIT ?lIT ?cIT ?kIT ?eIT ?yIT ?dIT ?bIT ?zIT ?vIT ?w1 ?w2 ?w3 ?w4 ?w5 ?w6 ?zint ?zlen ?zabs ?zlist ?ztuple ?zstr ?zset ?zall ?zisinstance ?zrepr ?zrange ?zValueError ?zsorted ?aLa ?lLa ?cLa ?tb ?ch ?nP
    (case tb => exact PySem.W.km_tabs_of Y _ (List.Mem.head _))
    (case aLi => k_is)
    (case lLi => k_is)
    (case cLi => k_is)
    (case kLi => k_is)
    (case aFs => k_is)
    (case lFs => k_is)
    (case cFs => k_is)
    (case kFs => k_is)
    (case aSi => k_is)
    (case lSi => k_is)
    (case cSi => k_is)
    (case kSi => k_is)
    (case aSe => k_is)
    (case lSe => k_is)
    (case cSe => k_is)
    (case kSe => k_is)
    (case aKt => k_is)
    (case lKt => k_is)
    (case cKt => k_is)
    (case kKt => k_is)
    (case aPa => k_is)
    (case lPa => k_is)
    (case cPa => k_is)
    (case kPa => k_is)
    (case aPe => k_is)
    (case lPe => k_is)
    (case cPe => k_is)
    (case kPe => k_is)
    (case aDr => k_is)
    (case lDr => k_is)
    (case cDr => k_is)
    (case kDr => k_is)
    (case aPi => k_is)
    (case lPi => k_is)
    (case cPi => k_is)
    (case kPi => k_is)
    (case aSh => k_is)
    (case lSh => k_is)
    (case cSh => k_is)
    (case kSh => k_is)
    (case aOd => k_is)
    (case lOd => k_is)
    (case cOd => k_is)
    (case kOd => k_is)
    (case aFo => k_is)
    (case lFo => k_is)
    (case cFo => k_is)
    (case kFo => k_is)
    (case aRe => k_is)
    (case lRe => k_is)
    (case cRe => k_is)
    (case kRe => k_is)
    (case aDu => k_is)
    (case lDu => k_is)
    (case cDu => k_is)
    (case kDu => k_is)
    (case aBs => k_is)
    (case lBs => k_is)
    (case cBs => k_is)
    (case kBs => k_is)
    (case aBt => k_is)
    (case lBt => k_is)
    (case cBt => k_is)
    (case kBt => k_is)
    (case aC => k_is)
    (case aIn => k_is)
    (case iIn => k_is)
    (case lIn => k_is)
    (case cIn => k_is)
    (case kIn => k_is)
    (case aOf => k_is)
    (case rOf => k_is)
    (case iOf => k_is)
    (case lOf => k_is)
    (case cOf => k_is)
    (case lD => k_is)
    (case lE => k_is)
    (case rd => k_is)
    (case ga => k_is)
    (case mv => k_is)
    (case pg => k_is)
    (case hd => k_is)
    (case po => k_is)
    (case sa => k_is)
    (case mk => k_is)
    (case kC => k_is)
    (case nS => k_is)
    (case nT => k_is)
    (case aA => k_is)
    (case aIF => k_is)
    (case xIF => k_is)
    (case sIF => k_is)
    (case gIF => k_is)
    (case hIF => k_is)
    (case nIF => k_is)
    (case iIF => k_is)
    (case tIF => k_is)
    (case lIF => k_is)
    (case cIF => k_is)
    (case kIF => k_is)
    (case eIF => k_is)
    (case yIF => k_is)
    (case dIF => k_is)
    (case bIF => k_is)
    (case zIF => k_is)
    (case vIF => k_is)
    (case aIT => k_is)
    (case xIT => k_is)
    (case sIT => k_is)
    (case gIT => k_is)
    (case hIT => k_is)
    (case nIT => k_is)
    (case iIT => k_is)
    (case tIT => k_is)
    (case lIT => k_is)
    (case cIT => k_is)
    (case kIT => k_is)
    (case eIT => k_is)
    (case yIT => k_is)
    (case dIT => k_is)
    (case bIT => k_is)
    (case zIT => k_is)
    (case vIT => k_is)
    (case w1 => k_is)
    (case w2 => k_is)
    (case w3 => k_is)
    (case w4 => k_is)
    (case w5 => k_is)
    (case w6 => k_is)
    (case zint => k_is)
    (case zlen => k_is)
    (case zabs => k_is)
    (case zlist => k_is)
    (case ztuple => k_is)
    (case zstr => k_is)
    (case zset => k_is)
    (case zall => k_is)
    (case zisinstance => k_is)
    (case zrepr => k_is)
    (case zrange => k_is)
    (case zValueError => k_is)
    (case zsorted => k_is)
    (case aLa => k_is)
    (case lLa => k_is)
    (case cLa => k_is)
    (case ch => rfl)
    (case nP => rfl)
