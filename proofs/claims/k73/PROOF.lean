import PyProof.Rows.All
import Wide.All
import OpenK.AllK
import Wide.FinOn
import HandS.ForMost
import HandS.Exc
import HandS.Wide
import HandS.Walk
import PyProof.ListStr
import HandS.Strs
import HandS.IsInst
import HandS.ClsMeth
import HandS.Property
import HandS.StrMore
import HandS.Lambda
import HandS.Text
import HandS.Style
import HandS.ForSpec
import PyProof.ExcBaseAll.LookupError
import HandS.Defaults
import HandS.DictComp
import HandS.EndTab
import KE.KStateDown
import HandS.Head0
import HandS.Head1
import HandS.Head2
import HandS.HeadHook1
import OpenK.KMeth
import OpenK.KOps
import HandS.CallLocal
import HandS.Star
import PyProof.InstNe
import PyProof.Conv_bool
import PyProof.Rows.Range3
import PyProof.StrLawsRepr
import HandS.Flow
import PyProof.StrOps2
import KE.KDictDisplayH
import PyProof.Rows.TupDisplay
import KE.KRevSl
import KE.KIsAll
import HandS.ExcIs
import PyProof.FitsInt
import PySem.Challenge.RW_hymnplates_k73_numbers_written_and_read
section
set_option Elab.async false
set_option linter.all false
set_option maxRecDepth 100000
set_option maxHeartbeats 2000000
namespace My
open PySem PySem.Spec PyProof.Rows L2

/-! ### heaps as letters: what a step makes of one -/
/-- H1 is H with a new object o at p -/
structure New (H : Hp) (p : Addr) (o : HO) (H1 : Hp) : Prop where
  free : H p = none
  here : H1 p = some o
  els : ∀ b, b ≠ p → H1 b = H b
/-- H1 is H with the object at p changed to o -/
structure Wr (H : Hp) (p : Addr) (o : HO) (H1 : Hp) : Prop where
  here : H1 p = some o
  els : ∀ b, b ≠ p → H1 b = H b
theorem New.mk' {H : Hp} {p : Addr} {o : HO} (h : H p = none) : New H p o (upd H p o) := ⟨h, upd_same, fun _ n => upd_ne n⟩
theorem Wr.mk' {H : Hp} {p : Addr} {o : HO} : Wr H p o (upd H p o) := ⟨upd_same, fun _ n => upd_ne n⟩
theorem New.same {H H1 : Hp} {p : Addr} {o : HO} (n : New H p o H1) : Same H H1 := fun b u e => by
  rw [n.els b (ne_of_none e n.free)]; exact e
/-- all that was tracked, but at p, is as it was -/
def But (p : Addr) (H H1 : Hp) : Prop := ∀ b o, b ≠ p → H b = some o → H1 b = some o
theorem But.refl {p : Addr} (H : Hp) : But p H H := fun _ _ _ h => h
theorem But.trans {p : Addr} {H H1 H2 : Hp} (a : But p H H1) (b : But p H1 H2) : But p H H2 := fun c o n h => b c o n (a c o n h)
theorem But.of {p : Addr} {H H1 : Hp} (a : Same H H1) : But p H H1 := fun c o _ h => a c o h
theorem Wr.but {H H1 : Hp} {p : Addr} {o : HO} (n : Wr H p o H1) : But p H H1 := fun b u hb e => by
  rw [n.els b hb]; exact e
/-- a change at a place that H0 did not track -/
theorem Same.wr {H0 H H1 : Hp} {p : Addr} {o : HO} (s : Same H0 H) (f : H0 p = none) (n : Wr H p o H1) : Same H0 H1 := fun b u e => by
  rw [n.els b (ne_of_none e f)]; exact s b u e
theorem But.wr {H0 H H1 : Hp} {p q : Addr} {o : HO} (s : But q H0 H) (f : H0 p = none) (n : Wr H p o H1) : But q H0 H1 := fun b u hb e => by
  rw [n.els b (ne_of_none e f)]; exact s b u hb e
theorem But.free {p b : Addr} {H H1 : Hp} (s : But p H H1) (hb : b ≠ p) (h : H1 b = none) : H b = none := by
  cases q : H b with
  | none => rfl
  | some o => rw [s b o hb q] at h; cases h
theorem But.seq {K : PySem.W.Frag} {H H' : Hp} {p a : Addr} {xs : List V} (e : But p H H') (hn : a ≠ p) (h : SqL K H a xs) : SqL K H' a xs := by
  rcases h with (h | ⟨o, h⟩) | h
  · exact .inl (.inl (e _ _ hn h))
  · exact .inl (.inr ⟨o, e _ _ hn h⟩)
  · exact .inr h

theorem _root_.L2.Same.tupl {K : PySem.W.Frag} {H H' : Hp} {a : Addr} {xs : List V} (e : Same H H') (h : SqT K H a xs) : SqT K H' a xs := by
  rcases h with (h | ⟨o, h⟩) | h
  · exact .inl (.inl (e _ _ h))
  · exact .inl (.inr ⟨o, e _ _ h⟩)
  · exact .inr h
/-! ### rules whose heaps are letters -/
section
variable {X : Cx}
theorem PE.weak {e : Expr} {t t' : TE} (h : PE X e t) (hw : ∀ σ H Q, t' σ H Q → t σ H Q) : PE X e t' := ⟨fun pins s σ H Q I q => h.run pins s σ H Q I (hw σ H Q q)⟩
/-- what follows may be weakened -/
def mcE (t : TE) : TE := fun σ H Q => ∃ R : VK, t σ H R ∧ ∀ v H', R v H' → Q v H'
def mcA (t : TA) : TA := fun σ H Q => ∃ R : List V → Hp → Prop, t σ H R ∧ ∀ v H', R v H' → Q v H'
theorem PE.mc {e : Expr} {t : TE} (h : PE X e t) : PE X e (mcE t) := ⟨fun pins s σ H Q I q => by
  obtain ⟨R, q1, q2⟩ := q
  exact thn (h.run pins s σ H R I q1) fun _ _ ⟨v, H', J, r, z⟩ => ⟨v, H', J, r, q2 _ _ z⟩⟩
theorem PA.mc {es : List Expr} {t : TA} (h : PA X es t) : PA X es (mcA t) := ⟨fun pos pins s σ H Q I q => by
  obtain ⟨R, q1, q2⟩ := q
  exact thn (h.run pos pins s σ H R I q1) fun _ _ ⟨v, H', J, r, z⟩ => ⟨v, H', J, r, q2 _ _ z⟩⟩
theorem OpR.weak {f : Value → Value → Sem Value} {r r' : R2} (h : OpR X f r) (hw : ∀ x y H Q, r' x y H Q → r x y H Q) : OpR X f r' := fun pins s σ H x y v u Q I rx ry q => h pins s σ H x y v u Q I rx ry (hw _ _ _ _ q)
theorem CallR.weak {f : Value} {r r' : List V → Hp → VK → Prop} (h : CallR X f r) (hw : ∀ xs H Q, r' xs H Q → r xs H Q) : CallR X f r' := fun pins s σ H xs us Q I rx q => h pins s σ H xs us Q I rx (hw _ _ _ q)
theorem MtM.weak {id : String} {r r' : V → List V → Hp → VK → Prop} (h : MtM X id r) (hw : ∀ x xs H Q, r' x xs H Q → r x xs H Q) : MtM X id r' := fun pins s σ H x xs v us Q I rx rv q => h pins s σ H x xs v us Q I rx rv (hw _ _ _ _ q)
theorem SlR.weak {r r' : V → Option Int → Option Int → Hp → VK → Prop} (h : SlR X r) (hw : ∀ x lo hi H Q, r' x lo hi H Q → r x lo hi H Q) : SlR X r' := fun pins s σ H x v vl vu lo hi sl Q I a b c d q => h pins s σ H x v vl vu lo hi sl Q I a b c d (hw _ _ _ _ _ q)

/-- [a, b] -/
def qLst (t : TA) : TE := fun σ H Q => t σ H fun xs H1 => xs.length ≤ sizeLine ∧ ∀ p H2, New H1 p (.lst xs) H2 → Q (.ref p) H2
/-- (a, b) -/
def qTup (t : TA) : TE := fun σ H Q => t σ H fun xs H1 => xs.length ≤ sizeLine ∧ ∀ p H2, New H1 p (.tup xs) H2 → Q (.ref p) H2
theorem pe_lst' {es : List Expr} {t : TA} {pos : Pos} (h : PA X es t) : PE X (.List es pos) (qLst t) :=
  PE.weak (pe_lst (PA.mc h)) fun σ H Q q => ⟨_, q, fun _ _ z => ⟨z.1, fun p hp => z.2 p _ (.mk' hp)⟩⟩
theorem pe_tup' {es : List Expr} {t : TA} {pos : Pos} {x1} (h : PA X es t) : PE X (.Tuple es x1 pos) (qTup t) :=
  PE.weak (pe_tup (PA.mc h)) fun σ H Q q => ⟨_, q, fun _ _ z => ⟨z.1, fun p hp => z.2 p _ (.mk' hp)⟩⟩
/-- list(xs) -/
def qListOf (K : PySem.W.Frag) : List V → Hp → VK → Prop := fun xs H Q => ∃ p ys, xs = [.ref p] ∧ (SqL K H p ys ∨ SqT K H p ys) ∧ ∀ l H', New H l (.lst ys) H' → Q (.ref l) H'
theorem call_listOf : CallR X (.type "list") (qListOf X.K) := CallR.weak call_list_of fun xs H Q q => by
  obtain ⟨p, ys, e, h, k⟩ := q
  exact ⟨p, ys, e, h, fun l hl => k l _ (.mk' hl)⟩
/-- tuple(xs), xs a list -/
def qTupOfL (K : PySem.W.Frag) : List V → Hp → VK → Prop := fun xs H Q => ∃ p ys, xs = [.ref p] ∧ SqL K H p ys ∧ ∀ l H', New H l (.tup ys) H' → Q (.ref l) H'
theorem call_tupOfL : CallR X (.type "tuple") (qTupOfL X.K) := CallR.weak call_tuple_of fun xs H Q q => by
  obtain ⟨p, ys, e, h, k⟩ := q
  exact ⟨p, ys, e, .inl ⟨h, fun l hl => k l _ (.mk' hl)⟩⟩
/-- xs[lo:hi] -/
def qSlL (K : PySem.W.Frag) : V → Option Int → Option Int → Hp → VK → Prop := fun x lo hi H Q => ∃ a xs, x = .ref a ∧ SqL K H a xs ∧ ∀ p H', New H p (.lst (cutV xs lo hi)) H' → Q (.ref p) H'
theorem sl_list' : SlR X (qSlL X.K) := SlR.weak sl_list fun x lo hi H Q q => by
  obtain ⟨a, xs, e, h, k⟩ := q
  exact ⟨a, xs, e, h, fun p hp => k p _ (.mk' hp)⟩
/-- xs + ys -/
def qCat : R2 := fun x y H Q => ∃ a b xs ys, x = .ref a ∧ y = .ref b ∧ H a = some (.lst xs) ∧ H b = some (.lst ys) ∧ xs.length + ys.length ≤ sizeLine ∧ ∀ p H', New H p (.lst (xs ++ ys)) H' → Q (.ref p) H'
theorem op_cat' : OpR X (binaryOp .Add) qCat := OpR.weak op_cat fun x y H Q q => by
  obtain ⟨a, b, xs, ys, e1, e2, h1, h2, hl, k⟩ := q
  exact ⟨a, b, xs, ys, e1, e2, h1, h2, hl, fun p hp => k p _ (.mk' hp)⟩
/-- xs.append(y), xs.pop(), xs.pop(i) -/
def qAppend : V → List V → Hp → VK → Prop := fun x vs H Q => ∃ l xs y, x = .ref l ∧ vs = [y] ∧ H l = some (.lst xs) ∧ xs.length < sizeLine ∧ ∀ H', Wr H l (.lst (xs ++ [y])) H' → Q .non H'
theorem mt_append' : MtM X "list.append" qAppend := MtM.weak mt_append fun x vs H Q q => by
  obtain ⟨l, xs, y, e1, e2, h, hl, k⟩ := q
  exact ⟨l, xs, y, e1, e2, h, hl, k _ .mk'⟩
def qPop : V → List V → Hp → VK → Prop := fun x vs H Q => ∃ l xs y, x = .ref l ∧ vs = [] ∧ H l = some (.lst xs) ∧ xs[xs.length - 1]? = some y ∧ ∀ H', Wr H l (.lst xs.dropLast) H' → Q y H'
theorem mt_pop' : MtM X "list.pop" qPop := MtM.weak mt_pop fun x vs H Q q => by
  obtain ⟨l, xs, y, e1, e2, h, hl, k⟩ := q
  exact ⟨l, xs, y, e1, e2, h, hl, k _ .mk'⟩
def qPopAt : V → List V → Hp → VK → Prop := fun x vs H Q => ∃ l xs y, ∃ i : Nat, x = .ref l ∧ vs = [.int i] ∧ H l = some (.lst xs) ∧ xs[i]? = some y ∧ xs.length < 2 ^ 62 ∧ ∀ H', Wr H l (.lst (xs.eraseIdx i)) H' → Q y H'
theorem mt_popAt' : MtM X "list.pop" qPopAt := MtM.weak mt_popAt fun x vs H Q q => by
  obtain ⟨l, xs, y, i, e1, e2, h, hy, hl, k⟩ := q
  have hi : i < xs.length := (List.getElem?_eq_some_iff.mp hy).1
  refine ⟨l, xs, i, i, y, e1, e2, h, by omega, by omega, ?_, hy, k _ .mk'⟩
  have e0 : ¬ ((i : Int) < 0) := by omega
  unfold seqIndex?
  simp only [if_neg e0]
  have e1 : (decide (0 ≤ (i : Int)) && decide ((i : Int) < (xs.length : Int))) = true := by
    rw [Bool.and_eq_true, decide_eq_true_eq, decide_eq_true_eq]
    omega
  rw [if_pos e1, Int.toNat_natCast]
/-- xs != [], xs a list of anything -/
def qNeNil (K : PySem.W.Frag) : R2 := fun x y H Q => ∃ a b xs, x = .ref a ∧ y = .ref b ∧ SqL K H a xs ∧ H b = some (.lst []) ∧ Q (.bl (!xs.isEmpty)) H
theorem op_neNil (hu : X.A.units < cLine) : OpR X (compareOp .NotEq) (qNeNil X.K) := by
  intro pins s σ H x y v u Q I rx ry h
  obtain ⟨a, b, xs, rfl, rfl, ha, hb, q⟩ := h
  cases rx
  cases ry
  obtain ⟨its, r1, p1, _⟩ := I.list ha
  obtain ⟨its2, r2, p2, _⟩ := I.list (SqL.of hb : SqL X.K H b [])
  have e2 : its2 = [] := by
    cases r2
    rfl
  subst e2
  cases r1 with
  | nil => exact SeqAt.RcNeAt.lists (e := fun _ => true) p1.isList p2.isList rfl hu (fun j h1 _ => absurd h1 (by simp)) X.prog X.w X.xe _ ⟨.bl _, H, I, rfl, q⟩
  | cons _ _ => exact SeqAt.RcNeAt.lists_lengths p1.isList p2.isList (by simp) hu X.prog X.w X.xe _ ⟨.bl _, H, I, rfl, q⟩
end
end My
end
section
set_option Elab.async false
set_option linter.all false
set_option maxRecDepth 100000
set_option maxHeartbeats 2000000
namespace My
open PySem PySem.Spec PyProof.Rows L2

/-! ### defs that are called where no repr is under way -/
structure FnG (P : Program) (w : World) (K : PySem.W.Frag) (mg : Str → Option Value) (base : Heap) (k : Nat) (f : Addr) (fd : FuncData) (ps : List Str) (sp : Sp) : Prop where
  size : ∀ vs H Q E, sp vs H Q E → vs.length = ps.length
  goes : ∀ (A : Around) (o : List Env) (s : Shared) (H : Hp) (args : Args) (us : List Value) (vs : List V) (Q : VK) (E : XK), A.guards = some [] → Room k A → Env0 P w K mg base A o s H → BindsTo s fd args (ps.zip us) → Vals vs us → sp vs H Q E →
    codeAny (model P w) A (.call (.ref f) args) (CR CX0 o P w H s Q E) s
section
variable {P : Program} {w : World} {K : PySem.W.Frag} {mg : Str → Option Value} {base : Heap}
theorem FnG.ofOk {k : Nat} {f : Addr} {fd : FuncData} {ps : List Str} {sp : Sp} (F : FnOk P w K mg base CX0 k f fd ps sp) : FnG P w K mg base k f fd ps sp :=
  ⟨F.len, fun A o s H args us vs Q E _ hr e b v q => F.run A o s H args us vs Q E hr e b v q⟩
theorem FnG.imp {k : Nat} {f : Addr} {fd : FuncData} {ps : List Str} {sp sp' : Sp} (F : FnG P w K mg base k f fd ps sp) (h : ∀ vs H Q E, sp' vs H Q E → sp vs H Q E) : FnG P w K mg base k f fd ps sp' :=
  ⟨fun vs H Q E q => F.size vs H Q E (h _ _ _ _ q), fun A o s H args us vs Q E g hr e b v q => F.goes A o s H args us vs Q E g hr e b v (h _ _ _ _ q)⟩
theorem guards_deeper {A : Around} {env : Env} (h : A.guards = some []) : (A.deeper env).guards = some [] := h
/-- a def by its body, where no repr is under way -/
theorem okG {x qual : Str} {st : Stmt} {f : Addr} {fd : FuncData} {N ps : List Str} {k : Nat} {sp : Sp} (F : Fun K x qual st f fd) (S : FnScope N ps (defScope st)) (size : ∀ vs H Q E, sp vs H Q E → vs.length = ps.length)
    (body : ∀ (cdv : Value) (A : Around) (o : List Env) (s : Shared) (H : Hp) (vs : List V) (Q : VK) (E : XK), (A.deeper (envOfC qual (defScope st) s.heap.objs.size f cdv)).guards = some [] → Room k (A.deeper (envOfC qual (defScope st) s.heap.objs.size f cdv)) → sp vs H Q E →
      ∃ t, PSs (cxOf CX0 P w K mg base N qual (defScope st) f cdv A o s H E).nox (defBody st) t ∧ t { nx := fun _ H' => Q .non H', rt := Q } (L2.start N vs) H) : FnG P w K mg base (k + 1) f fd ps sp := by
  obtain ⟨oc, od, kV, doc, pm, an, cdv, ct, osl, rfl, lk, hcd⟩ := F.ex
  constructor
  · exact size
  intro A o s H args us vs Q E g room e0 bd rel want
  have hlen := size _ _ _ _ want
  have kin := e0.mod.kin.keeps fun b ob z => (e0.bs b ob z).1
  have nolim := e0.mod.nolimit.keeps fun b ob z => (e0.bs b ob z).1
  have kinds : ∀ y ∈ ps.zip us, (defScope st).names.lookup y.1 = some .local ∨ ((defScope st).names.lookup y.1 = some .cell ∧ ((cellsFrom (s.heap.objs.size + 1) (defScope st).names []).lookup y.1).isSome = true) := by
    intro y hy
    obtain ⟨n, v⟩ := y
    cases S.par n (List.of_mem_zip hy).1 with
    | inl z => exact Or.inl z
    | inr z => exact Or.inr ⟨z, PySem.W.cellsFrom_some _ _ _ (Or.inl z)⟩
  apply codeAny_call_function room.depth (kin _ _ lk) rfl S.co S.gen rfl (PySem.W.codeRec_of kin hcd)
  apply bd
  apply wpAny_newFunctionEnv_cells S.kind kinds
  intro env henv s1 x
  subst henv
  constructor
  · exact nolim.keeps x.toInCall.keep
  apply codeAny_func
  obtain ⟨t, der, rd⟩ := body cdv A o s H vs Q E (guards_deeper g) (room.deeper _) want
  have J : Inv (cxOf CX0 P w K mg base N qual (defScope st) f cdv A o s H E) [] (L2.start N vs) H s1 := inv_start S room.hd e0 hlen rel x
  apply wpAny_mono (der.nox.run [] s1 (L2.start N vs) H _ J rd)
  · intro fl s' hs
    cases fl with
    | ret u =>
      obtain ⟨v, σ', H', J', rv, q⟩ := hs
      exact ⟨v, H', J'.os, J'.bare, J'.base, J'.hok, rv, q⟩
    | next =>
      obtain ⟨σ', H', J', q⟩ := hs
      exact ⟨V.non, H', J'.os, J'.bare, J'.base, J'.hok, rfl, q⟩
    | brk => exact hs.choose_spec.choose_spec.2.elim
    | cont => exact hs.choose_spec.choose_spec.2.elim
  · intro e s' hs
    exact hs
end
section
variable {X : Cx} {k : Nat} {f : Addr} {fd : FuncData} {ps : List Str} {sp : Sp} {dvs : List V} {ds : List Value} {E : XK} {x : Str} {p pos : Pos} {e : Expr} {es : List Expr} {t : TA}
/-- the callee runs, no repr under way -/
theorem runG {pins : List (Addr × Obj)} {σ : L2.St} {H : Hp} {s : Shared} {Q : VK} {us : List Value} {vs : List V} (F : FnG X.prog X.w X.K X.mg X.base k f fd ps sp) (g : X.A.guards = some []) (hr : Room k X.A) (hb : Binds X.K fd ps ds) (hd : Vals dvs ds)
    (I : Inv X pins σ H s) (r : Vals vs us) (h : sp (vs ++ dvs) H Q E) : wpAny (model X.prog X.w) X.A (call (.ref f) us) (EP X pins σ Q) X.xe s := by
  have rr := r.append hd
  have hl : (us ++ ds).length = ps.length := rr.length.symm.trans (F.size _ _ _ _ h)
  apply wpAny_call
  apply codeAny_mono (F.goes X.A X.stack s H ⟨us, []⟩ (us ++ ds) (vs ++ dvs) Q E g hr I.env0 (hb s us I.kIn hl) rr h)
  intro r' s' hq
  match r', hq with
  | .error _, hq => exact hq.elim
  | .ok (.ret _), hq => exact I.after hq
  | .ok .next, hq => exact hq.elim
  | .ok .brk, hq => exact hq.elim
  | .ok .cont, hq => exact hq.elim
/-- f(a, ..), no repr under way -/
theorem pe_callG (F : FnG X.prog X.w X.K X.mg X.base k f fd ps sp) (g : X.A.guards = some []) (hr : Room k X.A) (hg : Gl X x) (hm : X.mg x = some (.ref f)) (hk : PySem.W.keepIn X.K (.ref f) = true) (hb : Binds X.K fd ps ds) (hd : Vals dvs ds) (ha : PA X (e :: es) t)
    (hdb : (x == ("__debug__" : Str)) = false := by decide) (he : starEach (e :: es) X.env = (false, eval e X.env) :: starEach es X.env := by rfl) (hpl : (backTo pos (starEach es X.env)).any (·.1) = false := by rfl) : PE X (.Call (.Name x p) (e :: es) [] pos) (tCall sp dvs E t) := by
  constructor
  intro pins s σ H Q I h
  apply wpAny_Call_Name_kw
  apply ld_glob I hg hm _ hdb
  apply PySem.W.callWith_K (h₀ := X.base) I.ok.mod.kin hk _ he hpl
  apply thn (ha.run pos pins s σ H _ I h)
  intro us s1 hq
  obtain ⟨vs, H1, I1, r, q⟩ := hq
  exact ⟨I1.kIn, runG F g hr hb hd I1 r q⟩
end

/-! ### repr of data -/
section
variable {X : Cx}
/-- repr(x), no repr under way: data without dicts -/
def qRepr (K : PySem.W.Frag) : List V → Hp → VK → Prop := fun xs H Q => ∃ x d, xs = [x] ∧ Dp K H x d ∧ d.showable = true ∧ d.hasDict = false ∧ d.shown.length ≤ sizeLine ∧ d.depth ≤ 60 ∧ Q (.str d.shown) H
theorem call_repr (g : X.A.guards = some []) (hu : X.A.units + 64 < cLine) : CallR X (.builtin "repr") (qRepr X.K) := by
  intro pins s σ H xs us Q I r h
  obtain ⟨x, d, rfl, hd, h1, h2, h3, h4, q⟩ := h
  obtain ⟨u, rfl, rx⟩ := vals1 r
  obtain ⟨as, rd⟩ := Dp.reads I d x u hd rx
  have fin : ∀ (h' : Heap) (t : Tok) (tk : Nat), (∀ b o, s.heap.get? b = some o → h'.get? b = some o) → EP X pins σ Q (.str d.shown t) { s with heap := h', toks := tk } := by
    intro h' t tk hk
    exact ⟨.str d.shown, H, I.kept (t' := tk) hk, ⟨t, rfl⟩, q⟩
  cases hd with
  | non =>
    cases rx
    exact PySem.P.repr_of_none (fin _ _ _ fun _ _ z => z)
  | bl b =>
    cases rx
    exact PySem.P.repr_of_bool (fin _ _ _ fun _ _ z => z)
  | int i =>
    obtain ⟨t, rfl⟩ := rx
    exact PySem.P.repr_of_int (by simpa [PyData.showable] using h1) (fin _ _ _ fun _ _ z => z)
  | str z =>
    obtain ⟨t, rfl⟩ := rx
    exact PySem.P.repr_of_str (fin _ _ _ fun _ _ z => z) (by simpa only [PyData.shown] using h3)
  | lst a b =>
    cases rx
    exact repr_of_reads' rd h1 (PyData.noDict_hsm h2) g (by omega) (fun _ _ z => z) (fun h' t tk hk => fin h' t tk hk) h3
  | tup a b =>
    cases rx
    exact repr_of_reads' rd h1 (PyData.noDict_hsm h2) g (by omega) (fun _ _ z => z) (fun h' t tk hk => fin h' t tk hk) h3
end
end My
end
section
set_option Elab.async false
set_option linter.all false
set_option maxRecDepth 100000
set_option maxHeartbeats 2000000
namespace My
open PySem PySem.Spec PyProof.Rows L2
/-! ### the pen -/
abbrev penK (c : Addr) (u l : Int) : List (Key × V) := [(.inr "cells", .ref c), (.inr "used", .int u), (.inr "left", .int l)]
/-- the pen at p, its cells at c, drawn from at most n times -/
def PenAt (H : Hp) (p c : Addr) (n : Nat) : Prop := ∃ (cs : List Int) (u l : Int), H p = some (.dK (penK c u l)) ∧ H c = some (.lst (cs.map V.int)) ∧ 0 ≤ u ∧ u ≤ n ∧ cs.length ≤ 63
theorem penK_cells (c : Addr) (u l : Int) : valV (penK c u l) (Sum.inr "cells" : Key) = some (.ref c) := rfl
theorem penK_used (c : Addr) (u l : Int) : valV (penK c u l) (Sum.inr "used" : Key) = some (.int u) := rfl
theorem penK_left (c : Addr) (u l : Int) : valV (penK c u l) (Sum.inr "left" : Key) = some (.int l) := rfl
theorem penK_put_used (c : Addr) (u l z : Int) : putK (penK c u l) (Sum.inr "used" : Key) (.int z) = penK c z l := rfl
theorem penK_put_left (c : Addr) (u l z : Int) : putK (penK c u l) (Sum.inr "left" : Key) (.int z) = penK c u z := rfl
theorem dget_cells {H : Hp} {p c : Addr} {u l : Int} (h : H p = some (.dK (penK c u l))) : DGet H p (.str "cells") (some (.ref c)) := DGet.k (k := Sum.inr "cells") h
theorem dget_used {H : Hp} {p c : Addr} {u l : Int} (h : H p = some (.dK (penK c u l))) : DGet H p (.str "used") (some (.int u)) := DGet.k (k := Sum.inr "used") h
theorem dget_left {H : Hp} {p c : Addr} {u l : Int} (h : H p = some (.dK (penK c u l))) : DGet H p (.str "left") (some (.int l)) := DGet.k (k := Sum.inr "left") h
theorem dput_used {H : Hp} {p c : Addr} {u l z : Int} (h : H p = some (.dK (penK c u l))) : DPut H p (.str "used") (.int z) (upd H p (.dK (penK c z l))) := DPut.k (k := Sum.inr "used") h (by show 3 < sizeLine; decide)
theorem dput_left {H : Hp} {p c : Addr} {u l z : Int} (h : H p = some (.dK (penK c u l))) : DPut H p (.str "left") (.int z) (upd H p (.dK (penK c u z))) := DPut.k (k := Sum.inr "left") h (by show 3 < sizeLine; decide)
theorem PenAt.mono {H : Hp} {p c : Addr} {n m : Nat} (h : PenAt H p c n) (l : n ≤ m) : PenAt H p c m := by
  obtain ⟨cs, u, z, h1, h2, h3, h4, h5⟩ := h
  exact ⟨cs, u, z, h1, h2, h3, by omega, h5⟩
theorem PenAt.ne {H : Hp} {p c q : Addr} {n : Nat} (h : PenAt H p c n) (f : H q = none) : p ≠ q := by
  obtain ⟨cs, u, z, h1, _⟩ := h
  exact ne_of_none h1 f
theorem PenAt.neC {H : Hp} {p c q : Addr} {n : Nat} (h : PenAt H p c n) (f : H q = none) : c ≠ q := by
  obtain ⟨cs, u, z, _, h2, _⟩ := h
  exact ne_of_none h2 f
theorem PenAt.neL {H : Hp} {p c q : Addr} {n : Nat} {xs : List V} (h : PenAt H p c n) (f : H q = some (.lst xs)) : q ≠ p := by
  obtain ⟨cs, u, z, h1, _⟩ := h
  exact ne_of f h1 (by intro z; cases z)
theorem PenAt.neT {H : Hp} {p c q : Addr} {n : Nat} {xs : List V} (h : PenAt H p c n) (f : H q = some (.tup xs)) : q ≠ p := by
  obtain ⟨cs, u, z, h1, _⟩ := h
  exact ne_of f h1 (by intro z; cases z)
theorem PenAt.same {H H1 : Hp} {p c : Addr} {n : Nat} (s : Same H H1) (h : PenAt H p c n) : PenAt H1 p c n := by
  obtain ⟨cs, u, z, h1, h2, h3, h4, h5⟩ := h
  exact ⟨cs, u, z, s _ _ h1, s _ _ h2, h3, h4, h5⟩
theorem PenAt.els {H H1 : Hp} {p c q : Addr} {o : HO} {n : Nat} (w : Wr H q o H1) (hp : p ≠ q) (hc : c ≠ q) (h : PenAt H p c n) : PenAt H1 p c n := by
  obtain ⟨cs, u, z, h1, h2, h3, h4, h5⟩ := h
  exact ⟨cs, u, z, (w.els p hp).trans h1, (w.els c hc).trans h2, h3, h4, h5⟩
/-- what a def that draws leaves: the pen, drawn from at most m times; all else as it was -/
structure DrewP (H : Hp) (p c : Addr) (m : Nat) (H1 : Hp) : Prop where
  but : But p H H1
  pen : PenAt H1 p c m
theorem DrewP.trans {H H1 H2 : Hp} {p c : Addr} {m k : Nat} (a : DrewP H p c m H1) (b : DrewP H1 p c k H2) : DrewP H p c k H2 := ⟨a.but.trans b.but, b.pen⟩
theorem DrewP.new {H H1 H2 : Hp} {p c q : Addr} {o : HO} {m : Nat} (a : DrewP H p c m H1) (b : New H1 q o H2) : DrewP H p c m H2 := ⟨a.but.trans (.of b.same), a.pen.same b.same⟩
theorem DrewP.mono {H H1 : Hp} {p c : Addr} {m k : Nat} (a : DrewP H p c m H1) (h : m ≤ k) : DrewP H p c k H1 := ⟨a.but, a.pen.mono h⟩

theorem cutV_to (xs : List V) (n : Nat) : cutV xs none (some (n : Int)) = xs.take n := by
  unfold cutV
  rw [HT.sIx_none, HT.sIx_nat, List.drop_zero, Nat.sub_zero, ← List.take_eq_take_min]
theorem fmod_bounds (i : Int) {m : Int} (h : 0 < m) : 0 ≤ i.fmod m ∧ i.fmod m < m := ⟨Int.fmod_nonneg_of_pos i h, Int.fmod_lt_of_pos i h⟩
theorem cmul200 {i j : Int} (hi : -(2 ^ 200) < i ∧ i < 2 ^ 200) (hj : -(2 ^ 200) < j ∧ j < 2 ^ 200) : CMulW i j := wide_mul (a := 200) (b := 200) (by omega) (by omega) (by decide) (by decide) (by decide)
/-! ### promises of the helpers that draw -/
def sp_pen (K : PySem.W.Frag) : Sp := fun vs H Q _ => ∃ (a : Addr) (ns : List Int), vs = [.ref a] ∧ SqL K H a (ns.map V.int) ∧ ns.length ≤ 63 ∧ ∀ H' p c, Same H H' → H p = none → PenAt H' p c 0 → Q (.ref p) H'
/-- a number from 0 to m - 1, m at most sixty millions -/
def sp_draw : Sp := fun vs H Q _ => ∃ (p c : Addr) (m : Int) (n : Nat), vs = [.ref p, .int m] ∧ PenAt H p c n ∧ n < 2 ^ 60 ∧ 0 < m ∧ m ≤ 60000000 ∧ ∀ H' r, DrewP H p c (n + 1) H' → 0 ≤ r → r < m → Q (.int r) H'
end My
end
section
set_option Elab.async false
set_option linter.all false
set_option maxRecDepth 100000
set_option maxHeartbeats 2000000
namespace My
open PySem PySem.Spec PyProof.Rows L2
def topS (i : Nat) : Stmt := PySem.Challenge.pw_hymnplates_k73_numbers_written_and_read.main.body.getD i (.Pass ⟨0, 0, 0, 0⟩)
abbrev s_pen : Stmt := topS 29
abbrev s_draw : Stmt := topS 30
section
variable {P : Program} {w : World} {K : PySem.W.Frag} {mg : Str → Option Value} {base : Heap}
theorem sc_pen : FnScope ["_law_script"] ["_law_script"] (defScope s_pen) := ⟨rfl, rfl, rfl, by decide +kernel, rfl, by decide +kernel, by decide +kernel⟩
theorem ok_pen {f : Addr} {fd : FuncData} (F : Fun K "_law_pen" "_law_pen" s_pen f fd) (Tlist : mg "list" = none) : FnOk P w K mg base CX0 1 f fd ["_law_script"] (sp_pen K) := by
  refine F.ok sc_pen (fun vs H Q E h => ?_) (fun cdv A outer s H vs Q E hr h => ?_)
  · obtain ⟨a, ns, rfl, _⟩ := h
    rfl
  · obtain ⟨a, ns, rfl, hS, hlen, k⟩ := h
    refine ⟨_, pss_one (ps_ret (pe_disp (pps_cons pe_str (pe_callTy call_listOf (by rfl) Tlist (by decide +kernel) (pa_cons (pe_slice sl_list' (pv 0) po_none (po_some pe_int)) pa_nil)) (pps_cons pe_str pe_int (pps_cons pe_str pe_int pps_nil))) (by rfl) (by rfl) (fun z => by cases z) (by decide))), ?_⟩
    intro p hp
    have n0 : New H p (.dK []) (upd H p (.dK [])) := .mk' hp
    generalize upd H p (HO.dK []) = H0 at n0 ⊢
    refine ⟨_, rfl, 63, rfl, a, _, rfl, n0.same.seq hS, fun q H1 n1 => ⟨q, _, rfl, .inl (SqL.of n1.here), fun l H2 n2 => ?_⟩⟩
    refine ⟨n2.same _ _ (n1.same _ _ n0.here), penK l 0 0, rfl, (by show 3 ≤ 15; omega), ?_⟩
    refine k _ p l ?_ hp ⟨ns.take 63, 0, 0, upd_same, ?_, Int.le_refl _, Int.le_refl _, ?_⟩
    · exact Same.wr ((n0.same.trans n1.same).trans n2.same) hp Wr.mk'
    · rw [upd_ne (ne_of_none (n1.same _ _ n0.here) n2.free).symm, n2.here]
      rw [show (63 : Int) = ((63 : Nat) : Int) from rfl, cutV_to, List.map_take]
    · rw [List.length_take]
      omega
theorem sc_draw : FnScope ["_law_pen_here", "_law_many", "_law_digit", "_law_used", "_law_cell", "_law_mixed"] ["_law_pen_here", "_law_many"] (defScope s_draw) := ⟨rfl, rfl, rfl, by decide +kernel, rfl, by decide +kernel, by decide +kernel⟩
structure TDraw (mg : Str → Option Value) : Prop where
  int : mg "int" = none
  len : mg "len" = none
  abs : mg "abs" = none
theorem ok_draw {f : Addr} {fd : FuncData} (F : Fun K "_law_draw" "_law_draw" s_draw f fd) (T : TDraw mg) : FnOk P w K mg base CX0 1 f fd ["_law_pen_here", "_law_many"] sp_draw := by
  refine F.ok sc_draw (fun vs H Q E h => ?_) (fun cdv A outer s H vs Q E hr h => ?_)
  · obtain ⟨a, c, m, n, rfl, _⟩ := h
    rfl
  · obtain ⟨p, c, m, n, rfl, hP, hn, hm0, hm1, k⟩ := h
    have hu := hu_of hr
    refine ⟨_, pss_cons (ps_if (pt_cmpR op_gt (pe_dget hu (pv 0) pe_str (fun _ _ => rfl)) pe_int (nomark _))
        (pss_cons (ps_set (i := 2) sc_draw.nd rfl (Or.inl rfl) (pe_op op_modN (pe_callTy call_int1 (by rfl) T.int (by decide +kernel) (pa_cons (pe_dget hu (pv 0) pe_str (fun _ _ => rfl)) pa_nil)) (pv 1)))
        (pss_cons (ps_dput hu (pv 0) pe_str (pe_op op_fdivW (pe_dget hu (pv 0) pe_str (fun _ _ => rfl)) (pv 1)) rfl)
        (pss_one (ps_ret (pv 2))))) pss_nil)
      (pss_cons (ps_set (i := 3) sc_draw.nd rfl (Or.inl rfl) (pe_dget hu (pv 0) pe_str (fun _ _ => rfl)))
      (pss_cons (ps_dput hu (pv 0) pe_str (pe_op op_add (pv 3) pe_int) rfl)
      (pss_cons (ps_set (i := 4) sc_draw.nd rfl (Or.inl rfl) (pe_op op_add (pe_op op_mul pe_int (pv 3)) pe_int))
      (pss_cons (ps_if (pt_cmpR (op_neNil hr.units0) (pe_dget hu (pv 0) pe_str (fun _ _ => rfl)) (pe_lst' pa_nil) (nomark _))
        (pss_one (ps_set (i := 4) sc_draw.nd rfl (Or.inl rfl) (pe_ix ix_list (pe_dget hu (pv 0) pe_str (fun _ _ => rfl)) (pe_op op_modN (pe_callTy call_int1 (by rfl) T.int (by decide +kernel) (pa_cons (pv 3) pa_nil))
          (pe_callB call_len_seq (by rfl) T.len PySem.boot_len (pa_cons (pe_dget hu (pv 0) pe_str (fun _ _ => rfl)) pa_nil))) (fun _ _ => rfl)))) pss_nil)
      (pss_cons (ps_if (PW.pt (pw_and (pt_cmpR op_lt (pv 3) (pe_callB call_len_seq (by rfl) T.len PySem.boot_len (pa_cons (pe_dget hu (pv 0) pe_str (fun _ _ => rfl)) pa_nil)) (nomark _))
          (pw_and1 (pt_cmpR op_ge (pe_callB call_abs (by rfl) T.abs (by decide +kernel) (pa_cons (pv 4) pa_nil)) (pe_op op_pow pe_int pe_int) (nomark _)))))
        (pss_cons (ps_dput hu (pv 0) pe_str (pe_op op_fdivW (pe_op op_sub (pe_callB call_abs (by rfl) T.abs (by decide +kernel) (pa_cons (pv 4) pa_nil)) (pe_op op_pow pe_int pe_int)) (pv 1)) rfl)
        (pss_one (ps_ret (pe_op op_modN (pe_op op_sub (pe_callB call_abs (by rfl) T.abs (by decide +kernel) (pa_cons (pv 4) pa_nil)) (pe_op op_pow pe_int pe_int)) (pv 1))))) pss_nil)
      (pss_cons (ps_set (i := 5) sc_draw.nd rfl (Or.inl rfl) (pe_op op_add (pe_op op_mulW (pe_op op_modN (pe_callTy call_int1 (by rfl) T.int (by decide +kernel) (pa_cons (pv 4) pa_nil)) pe_int) pe_int) (pe_op op_mulW (pe_op op_mulW pe_int (pv 3)) (pv 3))))
      (pss_cons (ps_set (i := 5) sc_draw.nd rfl (Or.inl rfl) (pe_op op_modN (pe_callTy call_int1 (by rfl) T.int (by decide +kernel) (pa_cons (pe_op op_add (pe_op op_add (pv 5) (pe_op op_mulW pe_int (pv 3))) pe_int) pa_nil)) pe_int))
      (pss_cons (ps_set (i := 5) sc_draw.nd rfl (Or.inl rfl) (pe_op op_modN (pe_callTy call_int1 (by rfl) T.int (by decide +kernel) (pa_cons (pe_op op_add (pe_op op_add (pe_op op_add (pe_op op_mulW (pv 5) (pv 5)) (pe_op op_mulW pe_int (pv 5))) (pe_op op_mulW pe_int (pv 3))) pe_int) pa_nil)) pe_int))
      (pss_cons (ps_set (i := 5) sc_draw.nd rfl (Or.inl rfl) (pe_op op_fdivW (pe_op op_modN (pe_callTy call_int1 (by rfl) T.int (by decide +kernel) (pa_cons (pe_op op_mulW (pv 5) (pe_op op_add (pv 5) pe_int)) pa_nil)) pe_int) pe_int))
      (pss_cons (ps_if (pt_cmpR op_gt (pv 1) pe_int (nomark _)) (pss_one ps_never) pss_nil)
      (pss_one (ps_ret (pe_op op_modN (pe_callTy call_int1 (by rfl) T.int (by decide +kernel) (pa_cons (pv 5) pa_nil)) (pv 1)))))))))))))), ?_⟩
    obtain ⟨cs, u, l, h1, h2, hu0, hun, hc⟩ := hP
    have hdiv : CDivW 0 m := wide_div hm0 (b := 30) (by omega) (by decide) (by decide)
    refine ⟨_, rfl, p, _, rfl, dget_left h1, _, _, rfl, rfl, _, rfl, ite2 (fun hl => ?_) (fun hl => ?_)⟩
    · refine ⟨_, rfl, p, _, rfl, dget_left h1, .inl ⟨_, rfl, _, rfl, _, _, rfl, rfl, (by omega), ?_⟩⟩
      refine ⟨_, rfl, p, _, rfl, dget_left h1, _, rfl, _, _, rfl, rfl, hdiv, _, rfl, p, _, rfl, dput_left h1, ?_⟩
      refine ⟨_, rfl, k _ _ ⟨Wr.mk'.but, cs, u, _, upd_same, ?_, hu0, by omega, hc⟩ (fmod_bounds _ hm0).1 (fmod_bounds _ hm0).2⟩
      rw [upd_ne (ne_of h2 h1 (by intro z; cases z))]
      exact h2
    · refine ⟨_, rfl, p, _, rfl, dget_used h1, ?_⟩
      refine ⟨_, rfl, _, _, rfl, rfl, _, rfl, p, _, rfl, dput_used h1, ?_⟩
      have hpc : c ≠ p := ne_of h2 h1 (by intro z; cases z)
      have w1 : Wr H p (.dK (penK c (u + 1) l)) (upd H p (.dK (penK c (u + 1) l))) := .mk'
      generalize upd H p (HO.dK (penK c (u + 1) l)) = H1 at w1 ⊢
      have g2 : H1 c = some (.lst (cs.map V.int)) := (w1.els c hpc).trans h2
      have hu62 : 0 ≤ u ∧ u < 2 ^ 60 := ⟨hu0, by omega⟩
      refine ⟨_, rfl, _, _, rfl, rfl, .inl (by decide), _, _, rfl, rfl, ?_⟩
      refine ⟨_, rfl, p, _, rfl, dget_cells w1.here, by decide, fun q H2 n2 => ⟨c, q, _, rfl, rfl, SqL.of (n2.same _ _ g2), n2.here, _, rfl, ?_⟩⟩
      have i1 := n2.same _ _ w1.here
      have i2 := n2.same _ _ g2
      have hD : ∀ H3, Same H1 H3 → DrewP H p c (n + 1) H3 := fun H3 s3 => ⟨w1.but.trans (.of s3), cs, u + 1, l, s3 _ _ w1.here, s3 _ _ g2, by omega, by omega, hc⟩
      have sq : Same H1 H2 := n2.same
      have hcl : (cs.map V.int).length = cs.length := List.length_map _
      have hle : ∀ z : Int, 0 ≤ z.fmod m ∧ z.fmod m < m := fun z => fmod_bounds z hm0
      refine ite2 (fun hb => ?_) (fun hb => ?_)
      · have hpos : 0 < cs.length := by
          cases cs with
          | nil => simp at hb
          | cons _ _ => simp
        obtain ⟨h0, h9⟩ := fmod_bounds u (m := ((cs.map V.int).length : Int)) (by rw [hcl]; omega)
        obtain ⟨j, hj⟩ : ∃ j : Nat, u.fmod ((cs.map V.int).length : Int) = j := ⟨_, (Int.toNat_of_nonneg h0).symm⟩
        have hjl : j < cs.length := by rw [hj, hcl] at h9; omega
        refine ⟨_, rfl, p, _, rfl, dget_cells i1, _, rfl, .inl ⟨_, rfl, _, rfl, p, _, rfl, dget_cells i1, c, _, rfl, .inl (SqL.of i2), _, _, rfl, rfl, (by rw [hcl]; omega), c, _, _, V.int cs[j], rfl, rfl, SqL.of i2, ?_, ?_⟩⟩
        · rw [hj, atI_nat]
          simp [hjl]
        generalize cs[j] = cell
        clear hj h0 h9 hjl hpos
        revert cell
        intro cell
        have pw : CPow 10 18 := ⟨by decide, by decide, by decide⟩
        have last : ∀ (b : Int) (H3 : Hp), Same H1 H3 → True := fun _ _ _ => trivial
        refine ⟨_, rfl, _, rfl, p, _, rfl, dget_cells i1, c, _, rfl, .inl (SqL.of i2), _, _, rfl, rfl, _, rfl, ?_⟩
        refine ite2 (fun hlt => ?_) (fun hlt => ?_)
        · refine ⟨_, rfl, _, rfl, _, _, rfl, rfl, pw, _, _, rfl, rfl, _, rfl, ?_⟩
          refine ite2 (fun hge => ?_) (fun hge => ?_)
          · refine ⟨_, rfl, _, rfl, _, _, rfl, rfl, pw, _, _, rfl, rfl, _, rfl, _, _, rfl, rfl, hdiv, _, rfl, p, _, rfl, dput_left i1, ?_⟩
            refine ⟨_, rfl, _, rfl, _, _, rfl, rfl, pw, _, _, rfl, rfl, _, rfl, _, _, rfl, rfl, (by omega), ?_⟩
            refine k _ _ ⟨(hD _ sq).but.trans Wr.mk'.but, cs, u + 1, _, upd_same, ?_, by omega, by omega, hc⟩ (hle _).1 (hle _).2
            rw [upd_ne hpc]
            exact i2
          · refine ⟨_, rfl, .inl ⟨_, rfl, _, _, rfl, rfl, (show (4294967231 : Int) ≠ 0 by decide), _, _, rfl, rfl, ?_, _, rfl, _, _, rfl, rfl, ?_, _, rfl, _, _, rfl, rfl, ?_, _, _, rfl, rfl, ?_⟩⟩
            · have := fmod_bounds cell (m := 4294967231) (by decide)
              exact cmul200 (by omega) (by decide)
            · exact cmul200 (by decide) (by omega)
            · exact cmul200 (by omega) (by omega)
            dsimp only
            generalize cell.fmod 4294967231 * 1103515 + 40009 * u * u = b1
            refine ⟨_, rfl, _, rfl, _, _, rfl, rfl, ?_, _, _, rfl, rfl, _, _, rfl, rfl, .inl ⟨_, rfl, _, _, rfl, rfl, (by intro z; cases z), ?_⟩⟩
            · exact cmul200 (by decide) (by omega)
            obtain ⟨g1, g3⟩ := fmod_bounds (b1 + 176461 * u + 29) (m := 4294967197) (by decide)
            dsimp only
            generalize (b1 + 176461 * u + 29).fmod 4294967197 = b2 at g1 g3 ⊢
            refine ⟨_, rfl, _, rfl, _, _, rfl, rfl, ?_, _, rfl, _, _, rfl, rfl, ?_, _, _, rfl, rfl, _, rfl, _, _, rfl, rfl, ?_, _, _, rfl, rfl, _, _, rfl, rfl, .inl ⟨_, rfl, _, _, rfl, rfl, (by intro z; cases z), ?_⟩⟩
            · exact cmul200 (by omega) (by omega)
            · exact cmul200 (by decide) (by omega)
            · exact cmul200 (by decide) (by omega)
            obtain ⟨g4, g5⟩ := fmod_bounds (b2 * b2 + 16769023 * b2 + 7 * u + 3) (m := 4294967189) (by decide)
            dsimp only
            generalize (b2 * b2 + 16769023 * b2 + 7 * u + 3).fmod 4294967189 = b3 at g4 g5 ⊢
            refine ⟨_, rfl, _, rfl, _, _, rfl, rfl, _, _, rfl, rfl, ?_, .inl ⟨_, rfl, _, _, rfl, rfl, (by intro z; cases z), _, _, rfl, rfl, ?_, ?_⟩⟩
            · exact cmul200 (by omega) (by omega)
            · exact wide_div (by decide) (b := 30) (by decide) (by decide) (by decide)
            refine ⟨_, rfl, _, _, rfl, rfl, _, rfl, ?_⟩
            refine ite2 (fun hgt => absurd (of_decide_eq_true hgt) (by omega)) (fun _ => ?_)
            refine ⟨_, rfl, .inl ⟨_, rfl, _, rfl, _, _, rfl, rfl, (by omega), ?_⟩⟩
            exact k _ _ (hD _ sq) (hle _).1 (hle _).2
        · refine iteF ?_
          refine ⟨_, rfl, .inl ⟨_, rfl, _, _, rfl, rfl, (show (4294967231 : Int) ≠ 0 by decide), _, _, rfl, rfl, ?_, _, rfl, _, _, rfl, rfl, ?_, _, rfl, _, _, rfl, rfl, ?_, _, _, rfl, rfl, ?_⟩⟩
          · have := fmod_bounds cell (m := 4294967231) (by decide)
            exact cmul200 (by omega) (by decide)
          · exact cmul200 (by decide) (by omega)
          · exact cmul200 (by omega) (by omega)
          dsimp only
          generalize cell.fmod 4294967231 * 1103515 + 40009 * u * u = b1
          refine ⟨_, rfl, _, rfl, _, _, rfl, rfl, ?_, _, _, rfl, rfl, _, _, rfl, rfl, .inl ⟨_, rfl, _, _, rfl, rfl, (by intro z; cases z), ?_⟩⟩
          · exact cmul200 (by decide) (by omega)
          obtain ⟨g1, g3⟩ := fmod_bounds (b1 + 176461 * u + 29) (m := 4294967197) (by decide)
          dsimp only
          generalize (b1 + 176461 * u + 29).fmod 4294967197 = b2 at g1 g3 ⊢
          refine ⟨_, rfl, _, rfl, _, _, rfl, rfl, ?_, _, rfl, _, _, rfl, rfl, ?_, _, _, rfl, rfl, _, rfl, _, _, rfl, rfl, ?_, _, _, rfl, rfl, _, _, rfl, rfl, .inl ⟨_, rfl, _, _, rfl, rfl, (by intro z; cases z), ?_⟩⟩
          · exact cmul200 (by omega) (by omega)
          · exact cmul200 (by decide) (by omega)
          · exact cmul200 (by decide) (by omega)
          obtain ⟨g4, g5⟩ := fmod_bounds (b2 * b2 + 16769023 * b2 + 7 * u + 3) (m := 4294967189) (by decide)
          dsimp only
          generalize (b2 * b2 + 16769023 * b2 + 7 * u + 3).fmod 4294967189 = b3 at g4 g5 ⊢
          refine ⟨_, rfl, _, rfl, _, _, rfl, rfl, _, _, rfl, rfl, ?_, .inl ⟨_, rfl, _, _, rfl, rfl, (by intro z; cases z), _, _, rfl, rfl, ?_, ?_⟩⟩
          · exact cmul200 (by omega) (by omega)
          · exact wide_div (by decide) (b := 30) (by decide) (by decide) (by decide)
          refine ⟨_, rfl, _, _, rfl, rfl, _, rfl, ?_⟩
          refine ite2 (fun hgt => absurd (of_decide_eq_true hgt) (by omega)) (fun _ => ?_)
          refine ⟨_, rfl, .inl ⟨_, rfl, _, rfl, _, _, rfl, rfl, (by omega), ?_⟩⟩
          exact k _ _ (hD _ sq) (hle _).1 (hle _).2
      · dsimp only
        generalize 37 * u + 11 = cell
        revert cell
        intro cell
        have pw : CPow 10 18 := ⟨by decide, by decide, by decide⟩
        have last : ∀ (b : Int) (H3 : Hp), Same H1 H3 → True := fun _ _ _ => trivial
        refine ⟨_, rfl, _, rfl, p, _, rfl, dget_cells i1, c, _, rfl, .inl (SqL.of i2), _, _, rfl, rfl, _, rfl, ?_⟩
        refine ite2 (fun hlt => ?_) (fun hlt => ?_)
        · refine ⟨_, rfl, _, rfl, _, _, rfl, rfl, pw, _, _, rfl, rfl, _, rfl, ?_⟩
          refine ite2 (fun hge => ?_) (fun hge => ?_)
          · refine ⟨_, rfl, _, rfl, _, _, rfl, rfl, pw, _, _, rfl, rfl, _, rfl, _, _, rfl, rfl, hdiv, _, rfl, p, _, rfl, dput_left i1, ?_⟩
            refine ⟨_, rfl, _, rfl, _, _, rfl, rfl, pw, _, _, rfl, rfl, _, rfl, _, _, rfl, rfl, (by omega), ?_⟩
            refine k _ _ ⟨(hD _ sq).but.trans Wr.mk'.but, cs, u + 1, _, upd_same, ?_, by omega, by omega, hc⟩ (hle _).1 (hle _).2
            rw [upd_ne hpc]
            exact i2
          · refine ⟨_, rfl, .inl ⟨_, rfl, _, _, rfl, rfl, (show (4294967231 : Int) ≠ 0 by decide), _, _, rfl, rfl, ?_, _, rfl, _, _, rfl, rfl, ?_, _, rfl, _, _, rfl, rfl, ?_, _, _, rfl, rfl, ?_⟩⟩
            · have := fmod_bounds cell (m := 4294967231) (by decide)
              exact cmul200 (by omega) (by decide)
            · exact cmul200 (by decide) (by omega)
            · exact cmul200 (by omega) (by omega)
            dsimp only
            generalize cell.fmod 4294967231 * 1103515 + 40009 * u * u = b1
            refine ⟨_, rfl, _, rfl, _, _, rfl, rfl, ?_, _, _, rfl, rfl, _, _, rfl, rfl, .inl ⟨_, rfl, _, _, rfl, rfl, (by intro z; cases z), ?_⟩⟩
            · exact cmul200 (by decide) (by omega)
            obtain ⟨g1, g3⟩ := fmod_bounds (b1 + 176461 * u + 29) (m := 4294967197) (by decide)
            dsimp only
            generalize (b1 + 176461 * u + 29).fmod 4294967197 = b2 at g1 g3 ⊢
            refine ⟨_, rfl, _, rfl, _, _, rfl, rfl, ?_, _, rfl, _, _, rfl, rfl, ?_, _, _, rfl, rfl, _, rfl, _, _, rfl, rfl, ?_, _, _, rfl, rfl, _, _, rfl, rfl, .inl ⟨_, rfl, _, _, rfl, rfl, (by intro z; cases z), ?_⟩⟩
            · exact cmul200 (by omega) (by omega)
            · exact cmul200 (by decide) (by omega)
            · exact cmul200 (by decide) (by omega)
            obtain ⟨g4, g5⟩ := fmod_bounds (b2 * b2 + 16769023 * b2 + 7 * u + 3) (m := 4294967189) (by decide)
            dsimp only
            generalize (b2 * b2 + 16769023 * b2 + 7 * u + 3).fmod 4294967189 = b3 at g4 g5 ⊢
            refine ⟨_, rfl, _, rfl, _, _, rfl, rfl, _, _, rfl, rfl, ?_, .inl ⟨_, rfl, _, _, rfl, rfl, (by intro z; cases z), _, _, rfl, rfl, ?_, ?_⟩⟩
            · exact cmul200 (by omega) (by omega)
            · exact wide_div (by decide) (b := 30) (by decide) (by decide) (by decide)
            refine ⟨_, rfl, _, _, rfl, rfl, _, rfl, ?_⟩
            refine ite2 (fun hgt => absurd (of_decide_eq_true hgt) (by omega)) (fun _ => ?_)
            refine ⟨_, rfl, .inl ⟨_, rfl, _, rfl, _, _, rfl, rfl, (by omega), ?_⟩⟩
            exact k _ _ (hD _ sq) (hle _).1 (hle _).2
        · refine iteF ?_
          refine ⟨_, rfl, .inl ⟨_, rfl, _, _, rfl, rfl, (show (4294967231 : Int) ≠ 0 by decide), _, _, rfl, rfl, ?_, _, rfl, _, _, rfl, rfl, ?_, _, rfl, _, _, rfl, rfl, ?_, _, _, rfl, rfl, ?_⟩⟩
          · have := fmod_bounds cell (m := 4294967231) (by decide)
            exact cmul200 (by omega) (by decide)
          · exact cmul200 (by decide) (by omega)
          · exact cmul200 (by omega) (by omega)
          dsimp only
          generalize cell.fmod 4294967231 * 1103515 + 40009 * u * u = b1
          refine ⟨_, rfl, _, rfl, _, _, rfl, rfl, ?_, _, _, rfl, rfl, _, _, rfl, rfl, .inl ⟨_, rfl, _, _, rfl, rfl, (by intro z; cases z), ?_⟩⟩
          · exact cmul200 (by decide) (by omega)
          obtain ⟨g1, g3⟩ := fmod_bounds (b1 + 176461 * u + 29) (m := 4294967197) (by decide)
          dsimp only
          generalize (b1 + 176461 * u + 29).fmod 4294967197 = b2 at g1 g3 ⊢
          refine ⟨_, rfl, _, rfl, _, _, rfl, rfl, ?_, _, rfl, _, _, rfl, rfl, ?_, _, _, rfl, rfl, _, rfl, _, _, rfl, rfl, ?_, _, _, rfl, rfl, _, _, rfl, rfl, .inl ⟨_, rfl, _, _, rfl, rfl, (by intro z; cases z), ?_⟩⟩
          · exact cmul200 (by omega) (by omega)
          · exact cmul200 (by decide) (by omega)
          · exact cmul200 (by decide) (by omega)
          obtain ⟨g4, g5⟩ := fmod_bounds (b2 * b2 + 16769023 * b2 + 7 * u + 3) (m := 4294967189) (by decide)
          dsimp only
          generalize (b2 * b2 + 16769023 * b2 + 7 * u + 3).fmod 4294967189 = b3 at g4 g5 ⊢
          refine ⟨_, rfl, _, rfl, _, _, rfl, rfl, _, _, rfl, rfl, ?_, .inl ⟨_, rfl, _, _, rfl, rfl, (by intro z; cases z), _, _, rfl, rfl, ?_, ?_⟩⟩
          · exact cmul200 (by omega) (by omega)
          · exact wide_div (by decide) (b := 30) (by decide) (by decide) (by decide)
          refine ⟨_, rfl, _, _, rfl, rfl, _, rfl, ?_⟩
          refine ite2 (fun hgt => absurd (of_decide_eq_true hgt) (by omega)) (fun _ => ?_)
          refine ⟨_, rfl, .inl ⟨_, rfl, _, rfl, _, _, rfl, rfl, (by omega), ?_⟩⟩
          exact k _ _ (hD _ sq) (hle _).1 (hle _).2
end
end My
end
section
set_option Elab.async false
set_option linter.all false
set_option maxRecDepth 100000
set_option maxHeartbeats 2000000
namespace My
open PySem PySem.Spec PyProof.Rows L2
/-- the signs of a text, one text each -/
def signs (z : Str) : List V := z.cps.toList.map fun c => V.str ⟨#[c]⟩
theorem signs_len (z : Str) : (signs z).length = z.length := by
  unfold signs
  rw [List.length_map, Array.length_toList]
  rfl
/-- what is iterated over: a list, a tuple, a text -/
inductive SqA (K : PySem.W.Frag) (H : Hp) : V → List V → Prop
  | lst {a : Addr} {xs : List V} : SqL K H a xs → SqA K H (.ref a) xs
  | tup {a : Addr} {xs : List V} : SqT K H a xs → SqA K H (.ref a) xs
  | str {z : Str} : z.length ≤ sizeLine → SqA K H (.str z) (signs z)
theorem vals_signs {z : Str} {acc : Array Value} (h : ItemsOf (SignAt z) acc z.cps.size) : Vals (signs z) acc.toList := by
  obtain ⟨hs, hi⟩ := h
  have aux : ∀ (l : List Nat) (us : List Value), us.length = l.length → (∀ (j : Nat) (u : Value), us[j]? = some u → ∃ c t, l[j]? = some c ∧ u = Value.str ⟨#[c]⟩ t) → Vals (l.map fun c => V.str ⟨#[c]⟩) us := by
    intro l
    induction l with
    | nil =>
      intro us hl _
      cases us with
      | nil => exact .nil
      | cons _ _ => simp at hl
    | cons c l ih =>
      intro us hl hg
      cases us with
      | nil => simp at hl
      | cons u us =>
        obtain ⟨c', t, e1, e2⟩ := hg 0 u rfl
        have e3 : c = c' := by simpa using e1
        subst e3
        exact .cons ⟨t, e2⟩ (ih us (by simpa using hl) fun j v hj => hg (j + 1) v (by simpa using hj))
  refine aux z.cps.toList acc.toList (by simpa using hs) fun j u hj => ?_
  obtain ⟨c, t, e1, e2⟩ := hi j u (by simpa using hj)
  exact ⟨c, t, by simpa using e1, e2⟩
section
variable {X : Cx}
theorem CallR.or {f : Value} {r r' : List V → Hp → VK → Prop} (h : CallR X f r) (h' : CallR X f r') : CallR X f (fun xs H Q => r xs H Q ∨ r' xs H Q) := fun pins s σ H xs us Q I rx q =>
  q.elim (h pins s σ H xs us Q I rx) (h' pins s σ H xs us Q I rx)
/-- list(z), z a text -/
theorem call_listStr (hh : X.A.handled = none) : CallR X (.type "list") (fun xs H Q => ∃ z, xs = [.str z] ∧ z.length ≤ sizeLine ∧ ∀ l H', New H l (.lst (signs z)) H' → Q (.ref l) H') := by
  intro pins s σ H xs us Q I r h
  obtain ⟨z, rfl, hz, q⟩ := h
  obtain ⟨u, rfl, t, rfl⟩ := vals1 r
  refine call_list_str hh z t (fun h' tk acc' c' hk hS hacc => ?_) hz
  have hn := I.hok.fresh (Nat.le_refl s.heap.objs.size)
  exact ⟨.ref s.heap.objs.size, _, I.laid (t' := tk) hk (Nat.le_refl _) (show ObjOk X.prog X.w _ h' _ (.lst (signs z)) from ⟨by rw [signs_len]; exact hz, acc'.toList, c', vals_signs hacc, by simpa using hS⟩), rfl, q _ _ (.mk' hn)⟩
/-- list(x), x a list, a tuple or a text -/
def qListAny (K : PySem.W.Frag) : List V → Hp → VK → Prop := fun xs H Q => ∃ x ys, xs = [x] ∧ SqA K H x ys ∧ ∀ l H', New H l (.lst ys) H' → Q (.ref l) H'
theorem call_listAny (hh : X.A.handled = none) : CallR X (.type "list") (qListAny X.K) := CallR.weak (CallR.or call_listOf (call_listStr hh)) fun xs H Q q => by
  obtain ⟨x, ys, rfl, h, k⟩ := q
  cases h with
  | lst h => exact .inl ⟨_, ys, rfl, .inl h, k⟩
  | tup h => exact .inl ⟨_, ys, rfl, .inr h, k⟩
  | str h => exact .inr ⟨_, rfl, h, k⟩
end
theorem SqA.same {K : PySem.W.Frag} {H H1 : Hp} {x : V} {xs : List V} (s : Same H H1) (h : SqA K H x xs) : SqA K H1 x xs := by
  cases h with
  | lst h => exact .lst (s.seq h)
  | tup h => exact .tup (by
      rcases h with (h | ⟨o, h⟩) | h
      · exact .inl (.inl (s _ _ h))
      · exact .inl (.inr ⟨o, s _ _ h⟩)
      · exact .inr h)
  | str h => exact .str h
theorem perm_eraseIdx {α : Type} {l : List α} {j : Nat} (h : j < l.length) : (l[j] :: l.eraseIdx j).Perm l := by
  have e : l = l.take j ++ l[j] :: l.drop (j + 1) := by
    rw [List.getElem_cons_drop, List.take_append_drop]
  rw [List.eraseIdx_eq_take_drop_succ]
  exact List.perm_middle.symm.trans (.of_eq e.symm)
/-! ### promises -/
/-- one of the items of a list -/
def sp_pick (K : PySem.W.Frag) : Sp := fun vs H Q _ => ∃ (p c a : Addr) (xs : List V) (n : Nat), vs = [.ref p, .ref a] ∧ PenAt H p c n ∧ n < 2 ^ 60 ∧ SqL K H a xs ∧ a ≠ p ∧ 0 < xs.length ∧ xs.length ≤ 1000000 ∧
  ∀ H' v, DrewP H p c (n + 1) H' → v ∈ xs → Q v H'
/-- the items in some order -/
def sp_shuf (K : PySem.W.Frag) : Sp := fun vs H Q _ => ∃ (p c : Addr) (x : V) (xs : List V) (n : Nat), vs = [.ref p, x] ∧ PenAt H p c n ∧ n + xs.length < 2 ^ 60 ∧ SqA K H x xs ∧ xs.length ≤ 1000000 ∧
  ∀ H' r ys, DrewP H p c (n + xs.length) H' → H r = none → H' r = some (.lst ys) → ys.Perm xs → Q (.ref r) H'
end My
end
section
set_option Elab.async false
set_option linter.all false
set_option maxRecDepth 100000
set_option maxHeartbeats 3200000
namespace My
open PySem PySem.Spec PyProof.Rows L2
/-! ### set(z), z a text -/
/-- each number once, at its first place -/
def once (l : List Nat) : List Nat := l.foldl (fun acc c => if c ∈ acc then acc else acc ++ [c]) []
theorem once_snoc (l : List Nat) (c : Nat) : once (l ++ [c]) = if c ∈ once l then once l else once l ++ [c] := by
  unfold once
  rw [List.foldl_append]
  rfl
theorem mem_once (l : List Nat) (c : Nat) : c ∈ once l ↔ c ∈ l := by
  have aux : ∀ (l acc : List Nat), c ∈ l.foldl (fun acc c => if c ∈ acc then acc else acc ++ [c]) acc ↔ c ∈ acc ∨ c ∈ l := by
    intro l
    induction l with
    | nil => intro acc; simp
    | cons d l ih =>
      intro acc
      rw [List.foldl_cons, ih]
      by_cases h : d ∈ acc
      · rw [if_pos h]
        constructor
        · rintro (a | b)
          · exact .inl a
          · exact .inr (List.mem_cons_of_mem _ b)
        · rintro (a | b)
          · exact .inl a
          · rcases List.mem_cons.mp b with e | b
            · exact .inl (e ▸ h)
            · exact .inr b
      · rw [if_neg h]
        simp only [List.mem_append, List.mem_cons, List.not_mem_nil, or_false, or_assoc]
  unfold once
  rw [aux]
  simp
theorem once_le (l : List Nat) : (once l).length ≤ l.length := by
  have aux : ∀ (l acc : List Nat), (l.foldl (fun acc c => if c ∈ acc then acc else acc ++ [c]) acc).length ≤ acc.length + l.length := by
    intro l
    induction l with
    | nil => intro acc; simp
    | cons d l ih =>
      intro acc
      rw [List.foldl_cons]
      refine Nat.le_trans (ih _) ?_
      split
      · simp only [List.length_cons]; omega
      · simp only [List.length_append, List.length_cons, List.length_nil]; omega
  have := aux l []
  simpa [once] using this
theorem once_eq (l : List Nat) : (once l).length = l.length ↔ l.Nodup := by
  have aux : ∀ (l acc : List Nat), (l.foldl (fun acc c => if c ∈ acc then acc else acc ++ [c]) acc).length ≤ acc.length + l.length ∧
      ((l.foldl (fun acc c => if c ∈ acc then acc else acc ++ [c]) acc).length = acc.length + l.length ↔ l.Nodup ∧ ∀ c ∈ l, c ∉ acc) := by
    intro l
    induction l with
    | nil => intro acc; simp
    | cons d l ih =>
      intro acc
      rw [List.foldl_cons]
      by_cases h : d ∈ acc
      · rw [if_pos h]
        obtain ⟨h1, h2⟩ := ih acc
        refine ⟨by simp only [List.length_cons]; omega, ⟨fun e => ?_, fun e => absurd h (e.2 d List.mem_cons_self)⟩⟩
        simp only [List.length_cons] at e
        omega
      · rw [if_neg h]
        obtain ⟨h1, h2⟩ := ih (acc ++ [d])
        simp only [List.length_append, List.length_cons, List.length_nil] at h1 h2 ⊢
        refine ⟨by omega, ?_⟩
        rw [show acc.length + (l.length + 1) = acc.length + (0 + 1) + l.length by omega, h2, List.nodup_cons]
        constructor
        · rintro ⟨a, b⟩
          refine ⟨⟨fun m => ?_, a⟩, fun c hc => ?_⟩
          · exact b d m (List.mem_append_right _ List.mem_cons_self)
          · rcases List.mem_cons.mp hc with e | hc
            · exact e ▸ h
            · exact fun m => b c hc (List.mem_append_left _ m)
        · rintro ⟨⟨a, b⟩, c⟩
          refine ⟨b, fun x hx m => ?_⟩
          rcases List.mem_append.mp m with m | m
          · exact c x (List.mem_cons_of_mem _ hx) m
          · have e : x = d := by simpa using m
            exact a (e ▸ hx)
  have := (aux l []).2
  simpa [once] using this
/-- the texts of one sign in a list of signs -/
def signIn (l : List Nat) : Str → Bool := fun k => l.any fun c => decide (k = ⟨#[c]⟩)
theorem signIn_iff (l : List Nat) (c : Nat) : signIn l ⟨#[c]⟩ = true ↔ c ∈ l := by
  unfold signIn
  rw [List.any_eq_true]
  constructor
  · rintro ⟨d, hd, e⟩
    have e' := of_decide_eq_true e
    have : c = d := by
      injection e' with e2
      simpa using e2
    exact this ▸ hd
  · intro h
    exact ⟨c, h, by simp⟩
section
variable {prog : Program} {w : World} {A : Around} {R : Result → Shared → Prop} {I : Addr} {fp wr : List Addr} {G : Array GenState → Array GenState → Prop} {St : Nat → Shared → Prop}
theorem set_loop {z : Str} (W : WalksS prog w A.in1 I fp wr G z.cps.size (SignAt z) St) (S : Addr) (notIn : S ∉ fp) (few : z.cps.size + 1 < scanBound) :
    ∀ (left i : Nat) (s : Shared), z.cps.size - i = left → i ≤ z.cps.size → St i s → s.heap.SetOf (PySem.strKind prog w) S (signIn (z.cps.toList.take i)) (once (z.cps.toList.take i)).length →
      (∀ s', Moved (S :: wr) G s s' → s'.heap.SetOf (PySem.strKind prog w) S (signIn z.cps.toList) (once z.cps.toList).length → R (.ok (.ret .none)) s') →
      codeAny (model prog w) A (.builtin "set.update.loop" ⟨[.ref S, .ref I], []⟩) R s := by
  have notW : S ∉ wr := fun m => notIn (W.sub _ m)
  have more : ∀ b ∈ wr, b ∈ S :: wr := fun b m => List.mem_cons_of_mem _ m
  have all : z.cps.toList.take z.cps.size = z.cps.toList := List.take_of_length_le (by simp)
  have stays : ∀ {s s' : Shared} {T : Str → Bool} {m : Nat}, Moved wr G s s' → s.heap.SetOf (PySem.strKind prog w) S T m → s'.heap.SetOf (PySem.strKind prog w) S T m := by
    rintro s s' T m mv ⟨o, es, ep, tb, ho, r⟩
    exact ⟨o, es, ep, tb, mv.heap S _ notW ho, r⟩
  intro left
  induction left with
  | zero =>
    intro i s hl hi st set_ fin
    obtain rfl : i = z.cps.size := by omega
    apply codeAny_builtin PyProof.Rows.F.entry_set_update_loop
    rw [Around.under_plainId PyProof.Rows.F.plain_set_update_loop _]
    show wpAny _ A.in1 (pyNext (.ref I) >>= _) _ _ s
    apply wpAny_bind
    apply W.done s _ _ st
    intro s' mv
    apply wpAny_pure
    apply fin s' (mv.mono more)
    have := stays mv set_
    rw [all] at this
    exact this
  | succ left ih =>
    intro i s hl hi st set_ fin
    have lt : i < z.cps.size := by omega
    apply codeAny_builtin PyProof.Rows.F.entry_set_update_loop
    rw [Around.under_plainId PyProof.Rows.F.plain_set_update_loop _]
    show wpAny _ A.in1 (pyNext (.ref I) >>= _) _ _ s
    apply wpAny_bind
    apply W.item i s _ _ lt st
    intro v s' at_ st' mv
    obtain ⟨c, t, hc, rfl⟩ := at_
    have set' := stays mv set_
    have nx : z.cps.toList.take (i + 1) = z.cps.toList.take i ++ [c] := by
      have hc' : z.cps.toList[i]? = some c := by simpa using hc
      rw [List.take_add_one, hc']
      rfl
    show wpAny _ A.in1 (holding [Value.str ⟨#[c]⟩ t] (setAdd S (.str ⟨#[c]⟩ t)) >>= _) _ _ s'
    apply wpAny_bind
    apply wpAny_holding
    unfold setAdd
    apply wpAny_holding
    apply wpAny_bind
    apply (PySem.strKind prog w).pyHash (k := ⟨#[c]⟩) (strKind_is _ _ _ _)
    have room : (once (z.cps.toList.take i)).length + 1 < scanBound := by
      have h1 := once_le (z.cps.toList.take i)
      rw [List.length_take] at h1
      omega
    refine wpAny_setAddHashed_of (knd := PySem.strKind prog w) (s := { s' with toks := s'.toks + 1 }) (strKind_is _ _ _ _) rfl set' room fun h' but set2 => ?_
    have set3 : h'.SetOf (PySem.strKind prog w) S (signIn (z.cps.toList.take (i + 1))) (once (z.cps.toList.take (i + 1))).length := by
      refine SetOf_congr set2 (fun k => ?_) ?_
      · show (signIn (z.cps.toList.take i) k || decide (k = ⟨#[c]⟩)) = signIn (z.cps.toList.take (i + 1)) k
        rw [nx]
        unfold signIn
        rw [List.any_append]
        simp
      · rw [nx, once_snoc]
        by_cases m : c ∈ once (z.cps.toList.take i)
        · rw [if_pos m, if_pos ((signIn_iff _ c).mpr ((mem_once _ c).mp m))]
        · rw [if_neg m, if_neg (fun y => m ((mem_once _ c).mpr ((signIn_iff _ c).mp y))), List.length_append]
          rfl
    refine wpAny_pure ⟨plainId_quiet PyProof.Rows.F.plain_set_update_loop _, ih (i + 1) _ (by omega) lt (W.frame _ s' _ _ st' (Nat.le_succ _) fun b hb o e => ?_) set3 fun s'' mv2 set4 => ?_⟩
    · rw [but.2 b (fun e2 => notIn (e2 ▸ hb))]
      exact e
    · refine fin s'' (Moved.trans W.gtrans ((mv.mono more).then_heap (Nat.le_succ _) fun b o hb e => ?_) mv2) set4
      rw [but.2 b (fun e2 => hb (e2 ▸ List.mem_cons_self))]
      exact e
end
section
variable {prog : Program} {w : World} {A : Around} {E : Value → Shared → Prop} {s : Shared}
abbrev newSet (led : Bool) : Obj := { cls := .type "set", dict := none, data := .set #[] 0 (.fresh 0 0 led) }
/-- the body of set.__init__ over a text -/
theorem set_init_str {A2 : Around} (hh : A2.handled = none) {z : Str} {t : Tok} {led : Bool} {Qf : Fin → Shared → Prop} {Ef : Value → Shared → Prop} (few : z.cps.size + 1 < scanBound)
    (fin : ∀ h' tk, h'.SetOf (PySem.strKind prog w) s.heap.objs.size (signIn z.cps.toList) (once z.cps.toList).length → (∀ b o, s.heap.get? b = some o → h'.get? b = some o) → Qf (.done (.ret .none)) { s with heap := h', toks := tk }) :
    wpAny (model prog w) A2 (Builtin.«set.__init__» ⟨[.ref s.heap.objs.size, .str z t], []⟩) Qf Ef { s with heap := s.heap.push (newSet led) } := by
  have at_ : (s.heap.push (newSet led)).get? s.heap.objs.size = some (newSet led) := Heap.get?_push_size _ rfl
  have ty : Shared.TypeIs { s with heap := s.heap.push (newSet led) } (.ref s.heap.objs.size) "set" := ⟨_, at_, rfl⟩
  have no1 := PySem.F.sub_str_set
  have no2 := PySem.F.sub_str_frozenset
  have no3 : (Value.type "str" == Value.type "dict") = false := by decide
  unfold Builtin.«set.__init__» noKeywords Builtin.Frozenset.updateFrom
  generalize walkOf : pyIter = PI
  wp_walk
  subst walkOf
  refine wpAny_pyIter_str fun o St W st => ?_
  refine wpAny_bind (wpAny_runValue ?_)
  have sz : (s.heap.push (newSet led)).objs.size = s.heap.objs.size + 1 := Heap.size_push _ _
  have apart : s.heap.objs.size ∉ [(s.heap.push (newSet led)).objs.size] := by
    rw [sz]
    simp
  have hh2 : A2.in1.handled = none := hh
  refine set_loop ((W A2.in1 hh2).toS) s.heap.objs.size apart few (z.cps.size - 0) 0 _ rfl (Nat.zero_le _) st ?_ ?_
  · have at2 : ((s.heap.push (newSet led)).push o).get? s.heap.objs.size = some (newSet led) := Heap.get?_push_of_some _ at_
    exact SetOf_congr ((PyProof.Rows.setObjOf_fresh (knd := PySem.strKind prog w) led).setOf at2 (by unfold scanBound; omega)) (fun _ => rfl) rfl
  · intro s' mv set_
    obtain ⟨h', g', d', tk', os'⟩ := s'
    obtain rfl : g' = s.gens := mv.gens
    obtain rfl : d' = s.drawn := mv.drawn
    obtain rfl : os' = s.os := mv.os
    show wpAny _ _ _ _ _ _
    refine wpAny_pure ?_
    show wpAny _ _ (ret Value.none) _ _ _
    refine wpAny_pure (fin h' tk' set_ fun b ob e => ?_)
    have lt := Heap.lt_size e
    refine mv.heap b ob (fun m => ?_) (Heap.get?_push_of_some _ (Heap.get?_push_of_some _ e))
    rw [sz] at m
    rcases List.mem_cons.mp m with e2 | m
    · exact Nat.ne_of_lt lt e2
    · exact Nat.ne_of_lt (Nat.lt_succ_of_lt lt) (List.mem_singleton.mp m)
set_option maxHeartbeats 6400000 in
theorem call_set_text (hh : A.handled = none) {z : Str} {t : Tok} {Q : Value → Shared → Prop} (few : z.cps.size + 1 < scanBound)
    (fin : ∀ h' tk, h'.SetOf (PySem.strKind prog w) s.heap.objs.size (signIn z.cps.toList) (once z.cps.toList).length → (∀ b o, s.heap.get? b = some o → h'.get? b = some o) → Q (.ref s.heap.objs.size) { s with heap := h', toks := tk }) :
    wpAny (model prog w) A (call (.type "set") [.str z t]) Q E s := by
  obtain ⟨c, tl, mro_⟩ := PySem.F.called_set.mro
  have made_ := PySem.F.called_set.made
  have sub_ := PySem.F.called_set.sub
  apply wpAny_call
  apply codeAny_of_tree
  show wpAny _ _ (callAny (.type "set") _) _ _ _
  refine wpAny_pure ⟨Code.quiet_builtin _ (by decide +kernel), codeAny_builtin PySem.F.entry_type_call ?_⟩
  rw [Around.under_plain (weight_type_call_type "set" [.str z t] []) rfl]
  have nt_ := PySem.F.called_set.notType
  have can_ := PySem.F.called_set.canCreate
  have chk_ := PySem.F.typeCall_set_1 (.str z t)
  repeat (any_goals (first | assumption | wp_step))
  apply codeAny_mono (code_set_new_1 (.str z t) (E := E) (Q₁ := fun ob s1 => ∃ led : Bool, ob = .ref s.heap.objs.size ∧ s1 = { s with heap := s.heap.push (newSet led) }) fun led => ⟨led, rfl, rfl⟩)
  intro r s1 hr
  match r, hr with
  | .error _, hr => exact hr
  | .ok .next, hr => exact hr.elim
  | .ok .brk, hr => exact hr.elim
  | .ok .cont, hr => exact hr.elim
  | .ok (.ret ob), hr =>
    obtain ⟨led, rfl, rfl⟩ := hr
    have at_ : (s.heap.push (newSet led)).get? s.heap.objs.size = some (newSet led) := Heap.get?_push_size _ rfl
    have ty : Shared.TypeIs { s with heap := s.heap.push (newSet led) } (.ref s.heap.objs.size) "set" := ⟨_, at_, rfl⟩
    have look_ := PySem.F.called_set.init.lookup
    have bind_ := PySem.F.called_set.init.bind (.ref s.heap.objs.size)
    repeat (any_goals (first | assumption | wp_step))
    refine codeAny_mono (codeAny_call_builtin (R := wants (fun r s2 => r = .none ∧ ∃ h' tk, s2 = { s with heap := h', toks := tk } ∧ h'.SetOf (PySem.strKind prog w) s.heap.objs.size (signIn z.cps.toList) (once z.cps.toList).length ∧
        ∀ b o, s.heap.get? b = some o → h'.get? b = some o) E) PySem.F.called_set.init.plain PySem.F.entry_set_init (check_set_init_1 ty (set_init_str (A2 := A.in1.in1) hh few fun h' tk h1 h2 => ⟨rfl, h', tk, rfl, h1, h2⟩))) ?_
    intro r2 s2 hr2
    match r2, hr2 with
    | .error _, hr2 => exact hr2
    | .ok .next, hr2 => exact hr2.elim
    | .ok .brk, hr2 => exact hr2.elim
    | .ok .cont, hr2 => exact hr2.elim
    | .ok (.ret _), hr2 =>
      obtain ⟨rfl, h', tk, rfl, h1, h2⟩ := hr2
      repeat (any_goals (first | assumption | wp_step))
      exact fin h' tk h1 h2
end
section
variable {X : Cx}
/-- len(set(z)), z a text -/
def qLenSet (ta : TE) : TE := fun σ H Q => ta σ H fun x H1 => ∃ z : Str, x = .str z ∧ z.length ≤ 4000 ∧ Q (.int ((once z.cps.toList).length : Nat)) H1
theorem pe_lenSet {a : Expr} {ta : TE} {p p2 q pos : Pos} (hg : Gl X "len") (hm : X.mg "len" = none) (hg2 : Gl X "set") (hm2 : X.mg "set" = none) (ha : PE X a ta) (hc : X.calm = true := by rfl)
    (na : starEach [a] X.env = (false, eval a X.env) :: starEach [] X.env := by rfl) : PE X (.Call (.Name "len" p) [.Call (.Name "set" p2) [a] [] q] [] pos) (qLenSet ta) := by
  constructor
  intro pins s σ H Q I h
  apply Call_ (ld_blt I hg hm boot_len _)
  apply PyProof.Rows.callWith_builtin1 (PyProof.Rows.args_cons _ rfl) rfl rfl
  apply Call_ (ld_blt I hg2 hm2 boot_set _)
  refine PyProof.Rows.callWith_type1 (PyProof.Rows.args_cons (thn (ha.run pins s σ H _ I h) fun v s1 ⟨x, H1, I1, r1, q1⟩ => PyProof.Rows.args_nil ?_) na) na rfl
  obtain ⟨z, rfl, hz, q1⟩ := q1
  obtain ⟨t, rfl⟩ := r1
  have few : z.cps.size + 1 < scanBound := by
    have : z.cps.size ≤ 4000 := hz
    unfold scanBound
    omega
  refine call_set_text (I1.ok.hd hc) few fun h' tk set_ kept => ?_
  apply PyProof.Rows.args_nil
  obtain ⟨o, es, ep, tb, ho, ex, hd, _, _, _, fits, hn⟩ := set_
  have I2 : Inv X pins σ H1 { s1 with heap := h', toks := tk } := I1.kept kept
  have le : es.size ≤ 4000 := by
    rw [hn]
    refine Nat.le_trans (once_le _) ?_
    rw [Array.length_toList]
    exact hz
  rw [← hn] at q1
  exact call_len_set ho ex hd fits (by omega) ⟨.int (es.size : Nat), H1, I2.tok _, ⟨_, rfl⟩, q1⟩
end
end My
end
section
set_option Elab.async false
set_option linter.all false
set_option maxRecDepth 100000
set_option maxHeartbeats 2000000
namespace My
open PySem PySem.Spec PyProof.Rows L2
/-! ### data of any kind, apart from the object at p; st: no list of it stands at sys.modules' place -/
/-- an empty tuple of the written part -/
structure KEmp (K : PySem.W.Frag) (a : Addr) : Prop where
  ex : ∃ (o : Obj) (n : Nat), K.lookup a = some o ∧ o.cls = .type "tuple" ∧ o.data = .seq #[] n
theorem KEmp.sq {K : PySem.W.Frag} {H : Hp} {a : Addr} (h : KEmp K a) : SqT K H a [] := by
  obtain ⟨o, n, h1, h2, h3⟩ := h.ex
  exact .inr ⟨o, #[], n, h1, h2, h3, Nat.zero_le _, .nil⟩
mutual
inductive Rp (K : PySem.W.Frag) (p : Addr) (H : Hp) : Bool → V → PyData → Prop
  | non (st : Bool) : Rp K p H st .non .none
  | bl (st b : Bool) : Rp K p H st (.bl b) (.bool b)
  | int (st : Bool) (i : Int) : Rp K p H st (.int i) (.int i)
  | str (st : Bool) (z : Str) : Rp K p H st (.str z) (.str z)
  | lst {st : Bool} {a : Addr} {xs : List V} {ds : List PyData} : H a = some (.lst xs) → a ≠ p → ((st || PyData.hasDictAll ds) = true → a ≠ sysModules) → RpAll K p H (st || PyData.hasDictAll ds) xs ds → Rp K p H st (.ref a) (.list ds)
  | tup {st : Bool} {a : Addr} {xs : List V} {ds : List PyData} : H a = some (.tup xs) → a ≠ p → RpAll K p H (st || PyData.hasDictAll ds) xs ds → Rp K p H st (.ref a) (.tuple ds)
  | dct {st : Bool} {a : Addr} {kvs : List (Key × V)} {ks vs : List PyData} : H a = some (.dK kvs) → a ≠ p → RpAll K p H true (kvs.map fun e => kV e.1) ks → RpAll K p H true (kvs.map (·.2)) vs → ks.length = vs.length → Rp K p H st (.ref a) (.dict (ks.zip vs))
  | emp {st : Bool} {a : Addr} : KEmp K a → Rp K p H st (.ref a) (.tuple [])
inductive RpAll (K : PySem.W.Frag) (p : Addr) (H : Hp) : Bool → List V → List PyData → Prop
  | nil (st : Bool) : RpAll K p H st [] []
  | cons {st : Bool} {v : V} {vs : List V} {d : PyData} {ds : List PyData} : Rp K p H st v d → RpAll K p H st vs ds → RpAll K p H st (v :: vs) (d :: ds)
end
section
variable {K : PySem.W.Frag} {p : Addr} {H H1 : Hp}
mutual
theorem Rp.but (s : But p H H1) : ∀ {st : Bool} {d : PyData} {v : V}, Rp K p H st v d → Rp K p H1 st v d
  | _, _, _, .non _ => .non _
  | _, _, _, .bl _ b => .bl _ b
  | _, _, _, .int _ i => .int _ i
  | _, _, _, .str _ z => .str _ z
  | _, _, _, .lst h n m r => .lst (s _ _ n h) n m (RpAll.but s r)
  | _, _, _, .tup h n r => .tup (s _ _ n h) n (RpAll.but s r)
  | _, _, _, .dct h n r1 r2 e => .dct (s _ _ n h) n (RpAll.but s r1) (RpAll.but s r2) e
  | _, _, _, .emp h => .emp h
theorem RpAll.but (s : But p H H1) : ∀ {st : Bool} {ds : List PyData} {vs : List V}, RpAll K p H st vs ds → RpAll K p H1 st vs ds
  | _, _, _, .nil _ => .nil _
  | _, _, _, .cons a b => .cons (Rp.but s a) (RpAll.but s b)
end
mutual
theorem Rp.loose : ∀ {d : PyData} {v : V}, Rp K p H true v d → ∀ st, Rp K p H st v d
  | _, _, .non _, _ => .non _
  | _, _, .bl _ b, _ => .bl _ b
  | _, _, .int _ i, _ => .int _ i
  | _, _, .str _ z, _ => .str _ z
  | _, _, .lst h n m r, _ => .lst h n (fun _ => m (Bool.true_or _)) (RpAll.loose r _)
  | _, _, .tup h n r, _ => .tup h n (RpAll.loose r _)
  | _, _, .dct h n r1 r2 e, _ => .dct h n r1 r2 e
  | _, _, .emp h, _ => .emp h
theorem RpAll.loose : ∀ {b : Bool} {ds : List PyData} {vs : List V}, RpAll K p H (true || b) vs ds → ∀ st, RpAll K p H st vs ds
  | _, _, _, .nil _, _ => .nil _
  | _, _, _, .cons x y, _ => .cons (Rp.loose x _) (RpAll.loose (b := true) y _)
end
end
section
variable {K : PySem.W.Frag} {p : Addr} {H H1 : Hp}
theorem RpAll.len : ∀ {st : Bool} {ds : List PyData} {vs : List V}, RpAll K p H st vs ds → vs.length = ds.length
  | _, _, _, .nil _ => rfl
  | _, _, _, .cons _ b => by simp [RpAll.len b]
theorem RpAll.at : ∀ {st : Bool} {ds : List PyData} {vs : List V} {j : Nat} {v : V} {d : PyData}, RpAll K p H st vs ds → vs[j]? = some v → ds[j]? = some d → Rp K p H st v d
  | _, _, _, _, _, _, .nil _, h, _ => by simp at h
  | _, _, _, 0, _, _, .cons a _, h, e => by
    simp at h e
    exact h ▸ e ▸ a
  | _, _, _, j + 1, _, _, .cons _ b, h, e => RpAll.at (j := j) b (by simpa using h) (by simpa using e)
theorem Rp.loose2 {st : Bool} {v : V} {d : PyData} (h : Rp K p H st v d) : Rp K p H false v d := by
  cases st with
  | true => exact h.loose _
  | false => exact h
end
theorem pairs_keys {P : Program} {w : World} : ∀ {es : List DictEntry} {kvs : List (Key × V)} {rs : List (Key × Value)}, KV kvs rs → Pairs (mixKind P w) es rs → Vals (kvs.map fun e => kV e.1) (es.map (·.key)) ∧ Vals (kvs.map (·.2)) (es.map (·.val))
  | _, _, _, .nil, .nil => ⟨.nil, .nil⟩
  | _, (k, v) :: _, _, .cons r t, .cons h1 h2 h3 => by
    obtain ⟨a, b⟩ := pairs_keys t h3
    obtain ⟨e1, rv⟩ := r
    refine ⟨.cons ?_ a, .cons (h2.symm ▸ rv : L2.RelV v (DictEntry.val _)) b⟩
    show L2.RelV (kV k) _
    rw [mixKind_is, ← e1] at h1
    rcases keyIs_shape h1 with ⟨i, t, e2, e3⟩ | ⟨x, t, e2, e3⟩
    · subst e2
      exact ⟨t, e3⟩
    · subst e2
      exact ⟨t, e3⟩
section
variable {X : Cx} {pins : List (Addr × Obj)} {σ : L2.St} {p : Addr} {H : Hp} {s : Shared}
theorem zip_fst {α β : Type} : ∀ {l : List α} {r : List β}, l.length = r.length → (l.zip r).map (·.1) = l
  | [], _, _ => by simp
  | _ :: _, [], h => by simp at h
  | a :: l, b :: r, h => by simp [zip_fst (l := l) (r := r) (by simpa using h)]
theorem zip_snd {α β : Type} : ∀ {l : List α} {r : List β}, l.length = r.length → (l.zip r).map (·.2) = r
  | [], r, h => by cases r with | nil => rfl | cons _ _ => simp at h
  | _ :: _, [], h => by simp at h
  | a :: l, b :: r, h => by simp [zip_snd (l := l) (r := r) (by simpa using h)]
theorem or_split {a b : Bool} (h : (a || b) = true) : a = true ∨ b = true := by
  cases a with
  | true => exact .inl rfl
  | false => exact .inr h
mutual
theorem Rp.reads (I : Inv X pins σ H s) : ∀ {st : Bool} {d : PyData} {v : V} {u : Value}, Rp X.K p H st v d → RelV v u → ∃ as, Reads s.heap u d as ∧ ((st || d.hasDict) = true → sysModules ∉ as)
  | _, _, _, _, .non _, r => by
    cases r
    exact ⟨_, Reads.none, fun _ => by simp⟩
  | _, _, _, _, .bl _ b, r => by
    cases r
    exact ⟨_, Reads.bool b, fun _ => by simp⟩
  | _, _, _, _, .int _ i, r => by
    obtain ⟨t, rfl⟩ := r
    exact ⟨_, Reads.int i t, fun _ => by simp⟩
  | _, _, _, _, .str _ z, r => by
    obtain ⟨t, rfl⟩ := r
    exact ⟨_, Reads.str z t, fun _ => by simp⟩
  | _, _, _, _, .lst h n m q, r => by
    cases r
    obtain ⟨its, rv, ⟨o, k, ho, hc, _, hd⟩, _⟩ := I.list (SqL.of h : SqL X.K H _ _)
    obtain ⟨as, q1, q2⟩ := RpAll.reads I q rv
    refine ⟨_, Reads.list ho hc hd q1, fun e => ?_⟩
    simp only [PyData.hasDict] at e
    rw [List.mem_cons]
    rintro (z | z)
    · exact m e z.symm
    · exact q2 e z
  | _, _, _, _, .tup h n q, r => by
    cases r
    obtain ⟨its, rv, ⟨o, ho, hc, k, hd⟩, _⟩ := I.tuple (SqT.of h : SqT X.K H _ _)
    obtain ⟨as, q1, q2⟩ := RpAll.reads I q rv
    refine ⟨_, Reads.tuple ho hc hd q1, fun e => ?_⟩
    simp only [PyData.hasDict] at e
    exact q2 e
  | _, _, _, _, .dct h n k1 k2 el, r => by
    cases r
    obtain ⟨_, ns, rs, rk, o, es, ep, ho, hx, hd, _, hp, _⟩ := dk_of I.hok h
    obtain ⟨v1, v2⟩ := pairs_keys rk hp
    obtain ⟨as, q1, q2⟩ := RpAll.reads I k1 v1
    obtain ⟨bs, q3, q4⟩ := RpAll.reads I k2 v2
    refine ⟨_, Reads.dict ho hx.1 hd (by rw [zip_fst el]; exact q1) (by rw [zip_snd el]; exact q3), fun _ => ?_⟩
    rw [List.cons_append, List.mem_cons, List.mem_append]
    rintro (e | m | m)
    · rw [← e] at ns
      exact absurd ns (by decide)
    · exact q2 rfl m
    · exact q4 rfl m
  | _, _, _, _, .emp h, r => by
    cases r
    obtain ⟨its, rv, ⟨o, ho, hc, k, hd⟩, _⟩ := I.tuple (h.sq : SqT X.K H _ _)
    cases rv
    exact ⟨_, Reads.tuple ho hc hd ReadsAll.nil, fun _ => by simp⟩
theorem RpAll.reads (I : Inv X pins σ H s) : ∀ {st : Bool} {ds : List PyData} {vs : List V} {us : List Value}, RpAll X.K p H st vs ds → Vals vs us → ∃ as, ReadsAll s.heap us ds as ∧ (st = true → sysModules ∉ as)
  | _, _, _, _, .nil _, r => by
    cases r
    exact ⟨_, ReadsAll.nil, fun _ => by simp⟩
  | st, _, _, _, .cons a b, r => by
    cases r with
    | cons r1 r2 =>
      obtain ⟨as, q1, q2⟩ := Rp.reads I a r1
      obtain ⟨bs, q3, q4⟩ := RpAll.reads I b r2
      exact ⟨_, ReadsAll.cons q1 q3, fun e z => (List.mem_append.mp z).elim (q2 (by rw [e, Bool.true_or])) (q4 e)⟩
end
/-- repr(x) of data, no repr under way -/
def qReprD (K : PySem.W.Frag) : List V → Hp → VK → Prop := fun xs H Q => ∃ x d p, xs = [x] ∧ Rp K p H false x d ∧ d.showable = true ∧ d.shown.length ≤ sizeLine ∧ d.depth ≤ 60 ∧ Q (.str d.shown) H
theorem call_reprD (g : X.A.guards = some []) (hu : X.A.units + 64 < cLine) : CallR X (.builtin "repr") (qReprD X.K) := by
  intro pins s σ H xs us Q I r h
  obtain ⟨x, d, p, rfl, hd, h1, h3, h4, q⟩ := h
  obtain ⟨u, rfl, rx⟩ := vals1 r
  obtain ⟨as, rd, nos⟩ := Rp.reads I hd rx
  rw [Bool.false_or] at nos
  have fin : ∀ (h' : Heap) (t : Tok) (tk : Nat), (∀ b o, s.heap.get? b = some o → h'.get? b = some o) → EP X pins σ Q (.str d.shown t) { s with heap := h', toks := tk } := by
    intro h' t tk hk
    exact ⟨.str d.shown, H, I.kept (t' := tk) hk, ⟨t, rfl⟩, q⟩
  have big : ∀ a, u = .ref a → wpAny (model X.prog X.w) X.A (call (.builtin "repr") [u]) (EP X pins σ Q) X.xe s := by
    rintro a rfl
    exact repr_of_reads' rd h1 nos g (by omega) (fun _ _ z => z) (fun h' t tk hk => fin h' t tk hk) h3
  cases hd with
  | non =>
    cases rx
    exact PySem.P.repr_of_none (fin _ _ _ fun _ _ z => z)
  | bl _ b =>
    cases rx
    exact PySem.P.repr_of_bool (fin _ _ _ fun _ _ z => z)
  | int _ i =>
    obtain ⟨t, rfl⟩ := rx
    exact PySem.P.repr_of_int (by simpa [PyData.showable] using h1) (fin _ _ _ fun _ _ z => z)
  | str _ z =>
    obtain ⟨t, rfl⟩ := rx
    exact PySem.P.repr_of_str (fin _ _ _ fun _ _ z => z) (by simpa only [PyData.shown] using h3)
  | lst _ _ _ _ => exact big _ rx
  | tup _ _ _ => exact big _ rx
  | dct _ _ _ _ _ => exact big _ rx
  | emp _ => exact big _ rx
/-! ### kinds of data -/
def tyName : PyData → String
  | .none => "NoneType" | .bool _ => "bool" | .int _ => "int" | .str _ => "str" | .list _ => "list" | .tuple _ => "tuple" | .dict _ => "dict"
theorem Rp.ty {K : PySem.W.Frag} {st : Bool} {d : PyData} {v : V} (h : Rp K p H st v d) : TyX K H v (.type (tyName d)) := by
  cases h with
  | non => exact .base .non
  | bl _ b => exact .base (.bl b)
  | int _ i => exact .base (.int i)
  | str _ z => exact .base (.str z)
  | lst h _ _ _ => exact .base (.lst h)
  | tup h _ _ => exact .base (.tup h)
  | dct h _ _ _ _ => exact .base (.dK h)
  | emp h =>
    obtain ⟨o, n, h1, h2, _⟩ := h.ex
    exact .kTuple h1 h2
def isStrD : PyData → Bool | .str _ => true | _ => false
def isTupD : PyData → Bool | .tuple _ => true | _ => false
def isSeqD : PyData → Bool | .tuple _ => true | .list _ => true | _ => false
theorem kit_str {K : PySem.W.Frag} (d : PyData) : PySem.W.kitOne K (.type (tyName d)) (.type "str") = some (isStrD d) := by
  cases d
  · exact kit_ty (show kitB "NoneType" "str" = some false by decide +kernel)
  · exact kit_ty (show kitB "bool" "str" = some false by decide +kernel)
  · exact kit_ty (show kitB "int" "str" = some false by decide +kernel)
  · exact kit_ty (show kitB "str" "str" = some true by decide +kernel)
  · exact kit_ty (show kitB "list" "str" = some false by decide +kernel)
  · exact kit_ty (show kitB "tuple" "str" = some false by decide +kernel)
  · exact kit_ty (show kitB "dict" "str" = some false by decide +kernel)
theorem kit_tup {K : PySem.W.Frag} (d : PyData) : PySem.W.kitOne K (.type (tyName d)) (.type "tuple") = some (isTupD d) := by
  cases d
  · exact kit_ty (show kitB "NoneType" "tuple" = some false by decide +kernel)
  · exact kit_ty (show kitB "bool" "tuple" = some false by decide +kernel)
  · exact kit_ty (show kitB "int" "tuple" = some false by decide +kernel)
  · exact kit_ty (show kitB "str" "tuple" = some false by decide +kernel)
  · exact kit_ty (show kitB "list" "tuple" = some false by decide +kernel)
  · exact kit_ty (show kitB "tuple" "tuple" = some true by decide +kernel)
  · exact kit_ty (show kitB "dict" "tuple" = some false by decide +kernel)
theorem Rp.tupS {K : PySem.W.Frag} {st : Bool} {v : V} {ds : List PyData} (h : Rp K p H st v (.tuple ds)) : ∃ a xs st2, v = .ref a ∧ SqT K H a xs ∧ RpAll K p H st2 xs ds := by
  cases h with
  | tup ha _ r => exact ⟨_, _, _, rfl, SqT.of ha, r⟩
  | emp h => exact ⟨_, [], st, rfl, h.sq, .nil _⟩
end
end My
end
section
set_option Elab.async false
set_option linter.all false
set_option maxRecDepth 100000
set_option maxHeartbeats 2000000
namespace My
open PySem PySem.Spec PyProof.Rows L2
/-- what a caller wants of a def that stands at module level -/
structure Def (K : PySem.W.Frag) (mg : Str → Option Value) (x : Str) (f : Addr) (fd : FuncData) (ps : List Str) : Prop where
  mgf : mg x = some (.ref f)
  kp : PySem.W.keepIn K (.ref f) = true
  bd : Binds K fd ps []
/-- built-ins that the module does not give another meaning -/
structure TB (mg : Str → Option Value) : Prop where
  int : mg "int" = none
  len : mg "len" = none
  abs : mg "abs" = none
  list : mg "list" = none
  tuple : mg "tuple" = none
  str : mg "str" = none
  set : mg "set" = none
  all : mg "all" = none
  isi : mg "isinstance" = none
  repr : mg "repr" = none
  range : mg "range" = none
/-- texts that are not too long, at any depth -/
def textFits (n : Nat) : PyData → Prop
  | .str z => z.length ≤ n
  | _ => True
/-- whether a value is one of the signs -/
def signD (S : Str) : PyData → Bool
  | .str z => decide (z.length = 1) && z.cps.toList.all fun c => decide (c ∈ S.cps.toList)
  | _ => false
/-- whether a value is a text of different ones of the signs -/
def setD (S : Str) : PyData → Bool
  | .str z => decide z.cps.toList.Nodup && z.cps.toList.all fun c => decide (c ∈ S.cps.toList)
  | _ => false
theorem signD_str (S z : Str) : signD S (.str z) = (decide (z.length = 1) && z.cps.toList.all fun c => decide (c ∈ S.cps.toList)) := rfl
theorem setD_str (S z : Str) : setD S (.str z) = (decide z.cps.toList.Nodup && z.cps.toList.all fun c => decide (c ∈ S.cps.toList)) := rfl
theorem mem_signs {z : Str} {x : V} (h : x ∈ signs z) : ∃ c, c ∈ z.cps.toList ∧ x = .str ⟨#[c]⟩ := by
  obtain ⟨c, h1, h2⟩ := List.mem_map.mp h
  exact ⟨c, h1, h2.symm⟩
theorem kit_list {K : PySem.W.Frag} (d : PyData) : PySem.W.kitOne K (.type (tyName d)) (.type "list") = some (match d with | .list _ => true | _ => false) := by
  cases d
  · exact kit_ty (show kitB "NoneType" "list" = some false by decide +kernel)
  · exact kit_ty (show kitB "bool" "list" = some false by decide +kernel)
  · exact kit_ty (show kitB "int" "list" = some false by decide +kernel)
  · exact kit_ty (show kitB "str" "list" = some false by decide +kernel)
  · exact kit_ty (show kitB "list" "list" = some true by decide +kernel)
  · exact kit_ty (show kitB "tuple" "list" = some false by decide +kernel)
  · exact kit_ty (show kitB "dict" "list" = some false by decide +kernel)
theorem kit_seq {K : PySem.W.Frag} (d : PyData) : PySem.W.kitAny K (.type (tyName d)) [.type "list", .type "tuple"] = some (isSeqD d) := by
  refine kitAny_cons (kit_list d) (fun h => kitAny_cons (kit_tup d) (fun h2 => ?_) fun h2 => ?_) fun h => ?_
  · rw [kitAny_nil]
    cases d <;> first | rfl | exact absurd (show true = false from h) (by decide) | exact absurd (show true = false from h2) (by decide)
  · cases d <;> first | rfl | exact absurd (show false = true from h2) (by decide)
  · cases d <;> first | rfl | exact absurd (show false = true from h) (by decide)
theorem one_sign {z : Str} (h : z.length = 1) : ∃ c, z = ⟨#[c]⟩ := by
  obtain ⟨⟨l⟩⟩ := z
  have h' : l.length = 1 := h
  obtain ⟨c, rfl⟩ := List.length_eq_one_iff.mp h'
  exact ⟨c, rfl⟩
/-! ### promises of the program's helpers -/
def sp_isSign (K : PySem.W.Frag) : Sp := fun vs H Q _ => ∃ (S : Str) (v : V) (d : PyData) (p : Addr), vs = [.str S, v] ∧ Rp K p H false v d ∧ textFits sizeLine d ∧ Q (.bl (signD S d)) H
def sp_isSet (K : PySem.W.Frag) : Sp := fun vs H Q _ => ∃ (S : Str) (v : V) (d : PyData) (p : Addr), vs = [.str S, v] ∧ Rp K p H false v d ∧ textFits 4000 d ∧ ∀ H', Same H H' → Q (.bl (setD S d)) H'
def alphabet : Str := "0123456789abcdefghijklmnopqrstuvwxyz"
/-- whether a value is the signs of a font -/
def fontD (d : PyData) : Bool := match d with
  | .str z => decide (2 ≤ z.length ∧ z.length ≤ 10) && setD alphabet (.str z)
  | _ => false
theorem fontD_str (z : Str) : fontD (.str z) = (decide (2 ≤ z.length ∧ z.length ≤ 10) && setD alphabet (.str z)) := rfl
def sp_isFont (K : PySem.W.Frag) : Sp := fun vs H Q _ => ∃ (v : V) (d : PyData) (p : Addr), vs = [v] ∧ Rp K p H false v d ∧ textFits 4000 d ∧ ∀ H', Same H H' → Q (.bl (fontD d)) H'
/-- a class whose values are read off it -/
structure ClassV (K : PySem.W.Frag) (C : Addr) (f : Str) (v : V) : Prop where
  ok : ∃ mc u, ClX.CRead K C mc ∧ ClX.CVal K C mc f v u
/-! ### comprehensions whose parts change nothing that is tracked -/
theorem walk_signs {z : Str} : Walk (Its z) (signs z).length (fun _ => True) (YAt (signs z)) := by
  have e : (signs z).length = z.cps.size := by rw [signs_len]; rfl
  rw [e]
  refine ⟨fun _ _ hi _ => hi, fun _ _ => Nat.le_refl _, fun i H x H' hi _ y => ?_⟩
  obtain ⟨e1, c, hc, e2⟩ := y
  refine ⟨e1, ?_⟩
  unfold signs
  rw [List.getElem?_map, Array.getElem?_toList, hc, e2]
  rfl
theorem lc_ff {J : It} {xs : List V} {G : Hp → Prop} (w : Walk J xs.length G (YAt xs)) {i : Nat} {tt : TT} {te : TE} {vs : List Nat} {σ : L2.St} {H1 : Hp} {D : Addr} {Qd : Hp → Prop} (p : V → Bool) (f : V → V) (free : H1 D = none)
    (hG : ∀ H', Same H1 H' → G H') (small : xs.length < sizeLine) (hw : ∀ x, wipe ((wipe σ vs).set i (some x)) vs = wipe σ vs)
    (ht : ∀ x H' (C : Bool → Hp → Prop), x ∈ xs → Same H1 H' → (∀ H3, Same H' H3 → C (p x) H3) → tt ((wipe σ vs).set i (some x)) H' C)
    (he : ∀ x H' (C : VK), x ∈ xs → p x = true → Same H1 H' → (∀ H4, Same H' H4 → C (f x) H4) → te ((wipe σ vs).set i (some x)) H' C)
    (hd : ∀ H', Same H1 H' → H' D = some (.lst ((xs.filter p).map f)) → Qd H') :
    ∃ W : Nat → Nat → Hp → Prop, (∃ m, W 0 m (upd H1 D (.lst []))) ∧ ∀ j m H, W j m H →
      (J.stop j H ∧ Qd H) ∨ (J.go j H ∧ ∃ Nx : Hp → Prop, (∀ H', Nx H' → ∃ m', m' < m ∧ W (j + 1) m' H') ∧ ∀ x H', J.yld j H x H' → gName i x (wipe σ vs) H' fun σ2 H2 => wipe σ2 vs = wipe σ vs ∧ tt σ2 H2 fun b H3 =>
        if b = true then te σ2 H3 fun y H4 => ∃ acc, H4 D = some (.lst acc) ∧ acc.length < sizeLine ∧ Nx (upd H4 D (.lst (acc ++ [y]))) else Nx H3) := by
  refine lc_it w (fun j H' => Same H1 H' ∧ H' D = some (.lst (((xs.take j).filter p).map f))) ⟨Same.wr (Same.refl H1) free .mk', upd_same⟩ (fun j H' _ q => hG H' q.1) ?_ ?_
  · rintro j x H2 H3 hj ⟨s, hD⟩ ⟨rfl, hx⟩
    have mem : x ∈ xs := List.mem_of_getElem? hx
    have nx : xs.take (j + 1) = xs.take j ++ [x] := by
      rw [List.take_add_one, hx]
      rfl
    refine ⟨hw x, ht x H3 _ mem s fun H4 s4 => ?_⟩
    have hD4 := s4 _ _ hD
    cases hp : p x with
    | true =>
      rw [if_pos rfl]
      refine he x H4 _ mem hp (s.trans s4) fun H5 s5 => ⟨_, s5 _ _ hD4, ?_, ?_, ?_⟩
      · rw [List.length_map]
        have h1 : ((xs.take j).filter p).length ≤ (xs.take j).length := List.length_filter_le _ _
        have h2 : (xs.take j).length ≤ xs.length := by rw [List.length_take]; omega
        omega
      · exact Same.wr ((s.trans s4).trans s5) free .mk'
      · rw [upd_same, nx, List.filter_append, List.map_append]
        simp [hp]
    | false =>
      rw [if_neg Bool.false_ne_true]
      refine ⟨s.trans s4, ?_⟩
      rw [hD4, nx, List.filter_append]
      simp [hp]
  · rintro H' ⟨s, hD⟩
    rw [List.take_length] at hD
    exact hd H' s hD
end My
end
section
set_option Elab.async false
set_option linter.all false
set_option maxRecDepth 100000
set_option maxHeartbeats 2000000
namespace My
open PySem PySem.Spec PyProof.Rows L2
/-- a text of one sign -/
abbrev sg (c : Nat) : V := .str ⟨#[c]⟩
/-- pairs of signs, each a tuple of its own -/
def PairsAt (H : Hp) (ps : List (Nat × Nat)) (ys : List V) : Prop := Paired (fun (ab : Nat × Nat) y => ∃ q, y = V.ref q ∧ H q = some (.tup [sg ab.1, sg ab.2])) ps ys
theorem PairsAt.same {H H1 : Hp} (s : Same H H1) : ∀ {ps : List (Nat × Nat)} {ys : List V}, PairsAt H ps ys → PairsAt H1 ps ys
  | _, _, .nil => .nil
  | _, _, .cons ⟨q, e, h⟩ t => .cons ⟨q, e, s _ _ h⟩ (PairsAt.same s t)
theorem Paired.at {α β : Type} {R : α → β → Prop} : ∀ {l : List α} {r : List β} {j : Nat} {b : β}, Paired R l r → r[j]? = some b → ∃ a, l[j]? = some a ∧ R a b
  | _, _, _, _, .nil, h => by simp at h
  | _, _, 0, _, .cons h _, e => by
    simp at e
    subst e
    exact ⟨_, rfl, h⟩
  | _, _, j + 1, _, .cons _ t, e => by
    obtain ⟨a, h1, h2⟩ := Paired.at (j := j) t (by simpa using e)
    exact ⟨a, by simpa using h1, h2⟩
theorem Paired.snoc {α β : Type} {R : α → β → Prop} : ∀ {l : List α} {r : List β} {a : α} {b : β}, Paired R l r → R a b → Paired R (l ++ [a]) (r ++ [b])
  | _, _, _, _, .nil, h => .cons h .nil
  | _, _, _, _, .cons h t, k => .cons h (Paired.snoc t k)
theorem Paired.map {α β : Type} {R R' : α → β → Prop} (f : ∀ a b, R a b → R' a b) : ∀ {l : List α} {r : List β}, Paired R l r → Paired R' l r
  | _, _, .nil => .nil
  | _, _, .cons h t => .cons (f _ _ h) (Paired.map f t)
theorem paired_eq {α β : Type} {f : α → β} : ∀ {l : List α} {r : List β}, Paired (fun a y => y = f a) l r → r = l.map f
  | _, _, .nil => rfl
  | _, _, .cons h t => by rw [h, paired_eq t]; rfl
/-- a comprehension over what is told by l: tests and elements may make objects -/
theorem lc_pair {α : Type} {J : It} {xs : List V} {G : Hp → Prop} (w : Walk J xs.length G (YAt xs)) (l : List α) (hl : l.length = xs.length) {i : Nat} {tt : TT} {te : TE} {vs : List Nat} {σ : L2.St} {H1 : Hp} {D : Addr} {Qd : Hp → Prop} (p : α → Bool) (R : α → V → Hp → Prop)
    (mono : ∀ a y H H', (∃ zs, H D = some (.lst zs)) → But D H H' → R a y H → R a y H') (free : H1 D = none) (hG : ∀ H', Same H1 H' → G H') (small : xs.length < sizeLine) (hw : ∀ x, wipe ((wipe σ vs).set i (some x)) vs = wipe σ vs)
    (ht : ∀ (j : Nat) x a H' (C : Bool → Hp → Prop), xs[j]? = some x → l[j]? = some a → Same H1 H' → (∀ H3, Same H' H3 → C (p a) H3) → tt ((wipe σ vs).set i (some x)) H' C)
    (he : ∀ (j : Nat) x a H' (C : VK), xs[j]? = some x → l[j]? = some a → p a = true → Same H1 H' → (∀ H4 y, Same H' H4 → R a y H4 → C y H4) → te ((wipe σ vs).set i (some x)) H' C)
    (hd : ∀ H' ys, Same H1 H' → H' D = some (.lst ys) → Paired (fun a y => R a y H') (l.filter p) ys → Qd H') :
    ∃ W : Nat → Nat → Hp → Prop, (∃ m, W 0 m (upd H1 D (.lst []))) ∧ ∀ j m H, W j m H →
      (J.stop j H ∧ Qd H) ∨ (J.go j H ∧ ∃ Nx : Hp → Prop, (∀ H', Nx H' → ∃ m', m' < m ∧ W (j + 1) m' H') ∧ ∀ x H', J.yld j H x H' → gName i x (wipe σ vs) H' fun σ2 H2 => wipe σ2 vs = wipe σ vs ∧ tt σ2 H2 fun b H3 =>
        if b = true then te σ2 H3 fun y H4 => ∃ acc, H4 D = some (.lst acc) ∧ acc.length < sizeLine ∧ Nx (upd H4 D (.lst (acc ++ [y]))) else Nx H3) := by
  refine lc_it w (fun j H' => Same H1 H' ∧ ∃ ys, H' D = some (.lst ys) ∧ ys.length ≤ j ∧ Paired (fun a y => R a y H') ((l.take j).filter p) ys)
    ⟨Same.wr (Same.refl H1) free .mk', [], upd_same, Nat.le_refl _, by simp; exact .nil⟩ (fun j H' _ q => hG H' q.1) ?_ ?_
  · rintro j x H2 H3 hj ⟨s, ys, hD, hy, hp⟩ ⟨rfl, hx⟩
    have hjl : j < l.length := by omega
    obtain ⟨a, ha⟩ : ∃ a, l[j]? = some a := ⟨l[j], by simp [hjl]⟩
    have nx : l.take (j + 1) = l.take j ++ [a] := by
      rw [List.take_add_one, ha]
      rfl
    refine ⟨hw x, ht j x a H3 _ hx ha s fun H4 s4 => ?_⟩
    have hD4 := s4 _ _ hD
    have hp4 := Paired.map (fun a y h => mono a y H3 H4 ⟨_, hD⟩ (.of s4) h) hp
    cases hpa : p a with
    | true =>
      rw [if_pos rfl]
      refine he j x a H4 _ hx ha hpa (s.trans s4) fun H5 y s5 hR => ⟨ys, s5 _ _ hD4, by omega, ?_, ys ++ [y], upd_same, by simp; omega, ?_⟩
      · exact Same.wr ((s.trans s4).trans s5) free .mk'
      · have w5 : But D H5 (upd H5 D (.lst (ys ++ [y]))) := Wr.mk'.but
        have hp5 := Paired.map (fun a y h => mono a y H4 H5 ⟨_, hD4⟩ (.of s5) h) hp4
        have hp6 := Paired.map (fun a y h => mono a y H5 _ ⟨_, s5 _ _ hD4⟩ w5 h) hp5
        rw [nx, List.filter_append]
        have e : [a].filter p = [a] := by simp [hpa]
        rw [e]
        exact Paired.snoc hp6 (mono a y H5 _ ⟨_, s5 _ _ hD4⟩ w5 hR)
    | false =>
      rw [if_neg Bool.false_ne_true]
      refine ⟨s.trans s4, ys, hD4, by omega, ?_⟩
      rw [nx, List.filter_append]
      have e : [a].filter p = [] := by simp [hpa]
      rw [e, List.append_nil]
      exact hp4
  · rintro H' ⟨s, ys, hD, _, hp⟩
    rw [← hl, List.take_length] at hp
    exact hd H' ys s hD hp
/-- what is iterated over: a list or a tuple -/
def iSeq (K : PySem.W.Frag) (tl : TE) : TI := fun σ H R => tl σ H fun x H1 => ∃ a xs, x = .ref a ∧ ((SqL K H1 a xs ∧ R (Itl K a) H1) ∨ (SqT K H1 a xs ∧ R (Itt K a) H1))
theorem pi_seq {X : Cx} {tg l : Expr} {tl : TE} (h : PE X l tl) : PI X tg l (iSeq X.K tl) := by
  constructor
  intro pins s σ H R I q
  apply thn (h.run pins s σ H _ I q)
  intro v s1 hv
  obtain ⟨x, H1, I1, r1, a, xs, rfl, hq⟩ := hv
  cases r1
  have more : ∀ {o : Obj}, L2.Inv X pins σ H1 { s1 with heap := s1.heap.push o } := fun {o} => I1.kept (t' := s1.toks) fun b ob e => Heap.get?_push_of_some _ e
  have fresh : ∀ b ∈ [s1.heap.objs.size], FpOk X pins H1 b := by
    intro b hb
    rw [List.mem_singleton.mp hb]
    exact I1.fpOk (Nat.le_refl _) (I1.hok.fresh (Nat.le_refl _))
  cases hq with
  | inl hq =>
    obtain ⟨its, rv, pl, hz⟩ := I1.list hq.1
    apply wpAny_pyIter_list pl.isList
    exact ⟨_, [s1.heap.objs.size], _, _, H1, rfl, more, turn_list a _, ⟨_, Heap.get?_push_size _ rfl, rfl, rfl⟩, fresh, hq.2⟩
  | inr hq =>
    obtain ⟨its, rv, pl, hz⟩ := I1.tuple hq.1
    apply wpAny_pyIter_tuple (show s1.heap.IsTuple a its.toArray from pl)
    exact ⟨_, [s1.heap.objs.size], _, _, H1, rfl, more, turn_tuple a _, ⟨_, Heap.get?_push_size _ rfl, rfl, rfl⟩, fresh, hq.2⟩
/-! ### the place of a sign in a text -/
theorem idx_first {l : List Nat} {c k : Nat} (h : l[k]? = some c) (hn : ∀ j, j < k → l[j]? ≠ some c) : l.idxOf c = k := by
  induction l generalizing k with
  | nil => simp at h
  | cons a l ih =>
    cases k with
    | zero =>
      have e : a = c := by simpa using h
      subst e
      simp
    | succ k =>
      have ne : a ≠ c := fun e => hn 0 (Nat.zero_lt_succ _) (by simp [e])
      have rest := ih (k := k) (by simpa using h) fun j hj => by
        have := hn (j + 1) (Nat.succ_lt_succ hj)
        simpa using this
      rw [List.idxOf_cons, beq_eq_false_iff_ne.mpr ne, cond_false, rest]
theorem index0_one (z : Str) (c : Nat) (h : c ∈ z.cps.toList) : Txt.index0 z ⟨#[c]⟩ = some (z.cps.toList.idxOf c) := by
  unfold Txt.index0
  rcases StrLaws.occ_head z ⟨#[c]⟩ 1 (Nat.le_refl 1) with ⟨_, hn⟩ | ⟨i, r, e, ha, hn⟩
  · obtain ⟨j, hj⟩ := List.mem_iff_getElem?.mp h
    exact absurd ((StrLaws.subAt_one z c j).mpr hj) (hn j)
  · rw [e]
    have e2 : z.cps.toList.idxOf c = i := by
      refine idx_first ((StrLaws.subAt_one z c i).mp ha) fun j hj hjc => ?_
      exact hn j hj ((StrLaws.subAt_one z c j).mpr hjc)
    rw [e2]
    rfl
/-! ### turns as they are kept -/
mutual
/-- data of no more than 4,000 signs or items anywhere -/
def fit : PyData → Bool
  | .str z => decide (z.length ≤ 4000)
  | .list ds => decide (ds.length ≤ 4000) && fitAll ds
  | .tuple ds => decide (ds.length ≤ 4000) && fitAll ds
  | _ => true
def fitAll : List PyData → Bool
  | [] => true
  | d :: ds => fit d && fitAll ds
end
theorem fit.text {d : PyData} (h : fit d = true) : textFits 4000 d := by
  cases d with
  | str z =>
    simp only [fit, decide_eq_true_eq] at h
    exact h
  | _ => trivial
theorem textFits.more {m n : Nat} {d : PyData} (h : textFits m d) (l : m ≤ n) : textFits n d := by
  cases d with
  | str z => exact Nat.le_trans h l
  | _ => trivial
theorem fitAll.at : ∀ {ds : List PyData} {j : Nat} {d : PyData}, fitAll ds = true → ds[j]? = some d → fit d = true
  | [], _, _, _, h => by simp at h
  | _ :: _, 0, _, h, e => by
    simp only [fitAll, Bool.and_eq_true] at h
    simp at e
    exact e ▸ h.1
  | _ :: _, j + 1, _, h, e => by
    simp only [fitAll, Bool.and_eq_true] at h
    exact fitAll.at (j := j) h.2 (by simpa using e)
/-- a pair of signs -/
def pairOf (S : Str) : PyData → Option (Nat × Nat)
  | .tuple [.str x, .str y] => if signD S (.str x) && signD S (.str y) then some (x.cps.toList.headD 0, y.cps.toList.headD 0) else none
  | _ => none
theorem signD_some {S z : Str} (h : signD S (.str z) = true) : ∃ c, z = ⟨#[c]⟩ ∧ c ∈ S.cps.toList := by
  rw [signD_str, Bool.and_eq_true, decide_eq_true_eq] at h
  obtain ⟨c, rfl⟩ := one_sign h.1
  refine ⟨c, rfl, ?_⟩
  have := h.2
  simpa using this
theorem pairOf_some {S : Str} {d : PyData} {a b : Nat} (h : pairOf S d = some (a, b)) : d = .tuple [.str ⟨#[a]⟩, .str ⟨#[b]⟩] ∧ a ∈ S.cps.toList ∧ b ∈ S.cps.toList := by
  unfold pairOf at h
  split at h
  · rename_i x y
    split at h
    · rename_i hs
      rw [Bool.and_eq_true] at hs
      obtain ⟨c, rfl, hc⟩ := signD_some hs.1
      obtain ⟨e, rfl, he⟩ := signD_some hs.2
      simp at h
      obtain ⟨rfl, rfl⟩ := h
      exact ⟨rfl, hc, he⟩
    · cases h
  · cases h
theorem pairOf_two (S : Str) (x y : PyData) : (pairOf S (.tuple [x, y])).isSome = (signD S x && signD S y) := by
  cases x with
  | str a =>
    cases y with
    | str b =>
      show (if (signD S (.str a) && signD S (.str b)) = true then some _ else none).isSome = _
      cases signD S (.str a) && signD S (.str b) <;> rfl
    | _ => simp [pairOf, signD]
  | _ => simp [pairOf, signD]
theorem pairOf_len (S : Str) {ds : List PyData} (h : ds.length ≠ 2) : (pairOf S (.tuple ds)).isSome = false := by
  match ds, h with
  | [], _ => rfl
  | [x], _ => simp [pairOf]
  | [_, _], h => exact absurd rfl h
  | x :: y :: z :: r, _ => simp [pairOf]
/-- heads as an assoc list: a pair is put both ways -/
def putN (h : List (Nat × Nat)) (a b : Nat) : List (Nat × Nat) := if (h.any fun e => decide (e.1 = a)) = true then h.map (fun e => if e.1 = a then (e.1, b) else e) else h ++ [(a, b)]
def headOf (h : List (Nat × Nat)) (a : Nat) : Option Nat := (h.find? fun e => decide (e.1 = a)).map (·.2)
def headsFrom (S : Str) : List (Nat × Nat) → List PyData → Option (List (Nat × Nat))
  | h, [] => some h
  | h, d :: ds => match pairOf S d with
    | none => none
    | some (a, b) => if (headOf h a).isSome || (headOf h b).isSome then none else headsFrom S (putN (putN h a b) b a) ds
/-- the turns that a dict of heads has, each once, its earlier sign first -/
def dueOf (S : Str) (h : List (Nat × Nat)) : List (Nat × Nat) :=
  ((S.cps.toList.filter fun c => (headOf h c).isSome).map fun c => (c, (headOf h c).getD 0)).filter fun e => decide (S.cps.toList.idxOf e.1 ≤ S.cps.toList.idxOf e.2)
def keptD (S : Str) : PyData → Option (List (Nat × Nat))
  | .list ds => (headsFrom S [] ds).map (dueOf S)
  | .tuple ds => (headsFrom S [] ds).map (dueOf S)
  | _ => none
/-- heads as a dict holds them -/
def toK (h : List (Nat × Nat)) : List (Key × V) := h.map fun e => (Sum.inr ⟨#[e.1]⟩, sg e.2)
theorem sign_inj {a b : Nat} : ((⟨#[a]⟩ : Str) = ⟨#[b]⟩) ↔ a = b := by
  constructor
  · intro e
    injection e with e
    simpa using e
  · intro e
    rw [e]
theorem keyS_inj {a b : Nat} : ((Sum.inr ⟨#[a]⟩ : Key) = Sum.inr ⟨#[b]⟩) ↔ a = b := by
  constructor
  · intro e
    exact sign_inj.mp (Sum.inr.inj e)
  · intro e
    rw [e]
theorem valV_toK (h : List (Nat × Nat)) (a : Nat) : valV (toK h) (Sum.inr ⟨#[a]⟩ : Key) = (headOf h a).map sg := by
  induction h with
  | nil => rfl
  | cons e h ih =>
    by_cases q : e.1 = a
    · have e1 : valV (toK (e :: h)) (Sum.inr ⟨#[a]⟩ : Key) = some (sg e.2) := valV_pos (keyS_inj.mpr q)
      rw [e1]
      simp [headOf, q]
    · have e1 : valV (toK (e :: h)) (Sum.inr ⟨#[a]⟩ : Key) = valV (toK h) (Sum.inr ⟨#[a]⟩ : Key) := valV_neg (fun z => q (keyS_inj.mp z))
      rw [e1, ih]
      simp [headOf, q]
theorem putK_toK (h : List (Nat × Nat)) (a b : Nat) : putK (toK h) (Sum.inr ⟨#[a]⟩ : Key) (sg b) = toK (putN h a b) := by
  have e : ((toK h).any fun kv => decide (kv.1 = (Sum.inr ⟨#[a]⟩ : Key))) = h.any fun e => decide (e.1 = a) := by
    unfold toK
    rw [List.any_map]
    congr 1
    funext x
    simp only [Function.comp]
    rw [decide_eq_decide]
    exact keyS_inj
  unfold putK putN
  rw [e]
  split
  · unfold toK
    rw [List.map_map, List.map_map]
    congr 1
    funext x
    simp only [Function.comp]
    by_cases q : x.1 = a
    · rw [if_pos (keyS_inj.mpr q), if_pos q]
    · rw [if_neg (fun z => q (keyS_inj.mp z)), if_neg q]
  · unfold toK
    rw [List.map_append]
    rfl
theorem dget_toK {H : Hp} {p : Addr} {h : List (Nat × Nat)} (a : Nat) (e : H p = some (.dK (toK h))) : DGet H p (sg a) ((headOf h a).map sg) := by
  rw [← valV_toK]
  exact DGet.k (k := Sum.inr ⟨#[a]⟩) e
theorem dput_toK {H : Hp} {p : Addr} {h : List (Nat × Nat)} (a b : Nat) (e : H p = some (.dK (toK h))) (l : h.length < sizeLine) : DPut H p (sg a) (sg b) (upd H p (.dK (toK (putN h a b)))) := by
  rw [← putK_toK]
  exact DPut.k (k := Sum.inr ⟨#[a]⟩) e (by rw [toK, List.length_map]; exact l)
theorem headOf_putN (h : List (Nat × Nat)) (a b c : Nat) : headOf (putN h a b) c = if c = a then some b else headOf h c := by
  have app : ∀ (h : List (Nat × Nat)), (h.any fun e => decide (e.1 = a)) = false → headOf (h ++ [(a, b)]) c = if c = a then some b else headOf h c := by
    intro h hn
    induction h with
    | nil =>
      by_cases q : a = c
      · subst q; simp [headOf]
      · rw [if_neg (fun e => q e.symm)]
        simp [headOf, q]
    | cons e h ih =>
      rw [List.any_cons, Bool.or_eq_false_iff] at hn
      have hne : e.1 ≠ a := of_decide_eq_false hn.1
      by_cases q : e.1 = c
      · have : c ≠ a := fun z => hne (q.trans z)
        rw [if_neg this]
        simp [headOf, q]
      · have ih := ih hn.2
        have r1 : headOf (e :: h ++ [(a, b)]) c = headOf (h ++ [(a, b)]) c := by simp [headOf, q]
        have r2 : headOf (e :: h) c = headOf h c := by simp [headOf, q]
        rw [r1, r2, ih]
  have rep : ∀ (h : List (Nat × Nat)), headOf (h.map fun e => if e.1 = a then (e.1, b) else e) c = if c = a then (if (h.any fun e => decide (e.1 = a)) = true then some b else none) else headOf h c := by
    intro h
    induction h with
    | nil =>
      by_cases q : c = a
      · rw [if_pos q]; rfl
      · rw [if_neg q]; rfl
    | cons e h ih =>
      by_cases k : e.1 = a
      · have e1 : (List.map (fun e => if e.1 = a then (e.1, b) else e) (e :: h)) = (e.1, b) :: List.map (fun e => if e.1 = a then (e.1, b) else e) h := by
          rw [List.map_cons, if_pos k]
        rw [e1]
        by_cases q : c = a
        · rw [if_pos q]
          simp [headOf, k, q]
        · have n1 : ¬ e.1 = c := fun z => q (z.symm.trans k)
          rw [if_neg q] at ih ⊢
          have r1 : headOf ((e.1, b) :: List.map (fun e => if e.1 = a then (e.1, b) else e) h) c = headOf (List.map (fun e => if e.1 = a then (e.1, b) else e) h) c := by simp [headOf, n1]
          have r2 : headOf (e :: h) c = headOf h c := by simp [headOf, n1]
          rw [r1, r2, ih]
      · have e1 : (List.map (fun e => if e.1 = a then (e.1, b) else e) (e :: h)) = e :: List.map (fun e => if e.1 = a then (e.1, b) else e) h := by
          rw [List.map_cons, if_neg k]
        have e2 : ((e :: h).any fun e => decide (e.1 = a)) = h.any fun e => decide (e.1 = a) := by
          rw [List.any_cons, decide_eq_false k, Bool.false_or]
        rw [e1, e2]
        by_cases q : e.1 = c
        · have : c ≠ a := fun z => k (q.trans z)
          rw [if_neg this]
          simp [headOf, q]
        · have r1 : headOf (e :: List.map (fun e => if e.1 = a then (e.1, b) else e) h) c = headOf (List.map (fun e => if e.1 = a then (e.1, b) else e) h) c := by simp [headOf, q]
          have r2 : headOf (e :: h) c = headOf h c := by simp [headOf, q]
          rw [r1, r2, ih]
  unfold putN
  cases hq : (h.any fun e => decide (e.1 = a)) with
  | true =>
    rw [if_pos rfl, rep h, hq, if_pos rfl]
  | false =>
    rw [if_neg Bool.false_ne_true, app h hq]
theorem Paired.length {α β : Type} {R : α → β → Prop} : ∀ {l : List α} {r : List β}, Paired R l r → l.length = r.length
  | _, _, .nil => rfl
  | _, _, .cons _ t => by simp [Paired.length t]
theorem toK_length (h : List (Nat × Nat)) : (toK h).length = h.length := List.length_map _
theorem putN_length (h : List (Nat × Nat)) (a b : Nat) : (putN h a b).length ≤ h.length + 1 := by
  unfold putN
  split
  · rw [List.length_map]; omega
  · rw [List.length_append]; exact Nat.le_refl _
section
variable {X : Cx}
/-- {} -/
def qDNew : TE := fun _ H Q => ∀ p H1, New H p (.dK []) H1 → Q (.ref p) H1
theorem pe_dnew' {pos : Pos} : PE X (.Dict [] [] pos) qDNew := PE.weak pe_dnewK fun σ H Q q p hp => q p _ (.mk' hp)
end
def sp_isPair (K : PySem.W.Frag) : Sp := fun vs H Q _ => ∃ (S : Str) (v : V) (d : PyData) (p : Addr), vs = [.str S, v] ∧ Rp K p H false v d ∧ fit d = true ∧ ∀ H', Same H H' → Q (.bl (pairOf S d).isSome) H'
def sp_isListed (K : PySem.W.Frag) : Sp := fun vs H Q _ => ∃ (v : V) (d : PyData) (p : Addr), vs = [v] ∧ Rp K p H false v d ∧ ∀ H', Same H H' → Q (.bl (isSeqD d)) H'
def sp_kept (K : PySem.W.Frag) : Sp := fun vs H Q _ => ∃ (S : Str) (v : V) (d : PyData) (p : Addr), vs = [.str S, v] ∧ Rp K p H false v d ∧ fit d = true ∧ S.length ≤ 4000 ∧
  (keptD S d = none → ∀ H', Same H H' → Q .non H') ∧ (∀ ps, keptD S d = some ps → ∀ H' r ys, Same H H' → H r = none → H' r = some (.tup ys) → PairsAt H' ps ys → Q (.ref r) H')
theorem rp_pair {K : PySem.W.Frag} {p : Addr} {H : Hp} {st : Bool} {v : V} {x y : Str} (h : Rp K p H st v (.tuple [.str x, .str y])) : ∃ q, v = .ref q ∧ H q = some (.tup [.str x, .str y]) ∧ q ≠ p := by
  cases h with
  | tup ha hp r =>
    cases r with
    | cons r1 r2 =>
      cases r1
      cases r2 with
      | cons r3 r4 =>
        cases r3
        cases r4
        exact ⟨_, rfl, ha, hp⟩
/-- a list or a tuple of data -/
theorem rp_seq {K : PySem.W.Frag} {p : Addr} {H : Hp} {st : Bool} {v : V} {d : PyData} (h : Rp K p H st v d) (hs : isSeqD d = true) : ∃ a xs ds st2, v = .ref a ∧ (SqL K H a xs ∨ SqT K H a xs) ∧ RpAll K p H st2 xs ds ∧ (d = .list ds ∨ d = .tuple ds) := by
  cases h with
  | lst ha hp _ r => exact ⟨_, _, _, _, rfl, .inl (SqL.of ha), r, .inl rfl⟩
  | tup ha hp r => exact ⟨_, _, _, _, rfl, .inr (SqT.of ha), r, .inr rfl⟩
  | emp h => exact ⟨_, [], [], st, rfl, .inr h.sq, .nil _, .inr rfl⟩
  | _ => cases hs
theorem RpAll.but2 {K : PySem.W.Frag} {p : Addr} {H H1 : Hp} (s : Same H H1) {st : Bool} {ds : List PyData} {vs : List V} (h : RpAll K p H st vs ds) : RpAll K p H1 st vs ds := RpAll.but (.of s) h
theorem headsFrom_cons (S : Str) (h : List (Nat × Nat)) (d : PyData) (ds : List PyData) : headsFrom S h (d :: ds) = match pairOf S d with
    | none => none
    | some (a, b) => if (headOf h a).isSome || (headOf h b).isSome then none else headsFrom S (putN (putN h a b) b a) ds := rfl
theorem at0 (a b : V) : atI [a, b] (0 : Int) = some a := atI_nat (j := 0) rfl
theorem at1 (a b : V) : atI [a, b] (1 : Int) = some b := atI_nat (j := 1) rfl
/-- a for over a list or a tuple that stands since H0 -/
theorem tFor_seq {K : PySem.W.Frag} {tl : TE} {g : TG} {tb : TS} {D : Ends} {σ : L2.St} {H H0 : Hp} {a : Addr} {xs : List V} (hv : ∀ C : VK, C (.ref a) H → tl σ H C) (hq : SqL K H0 a xs ∨ SqT K H0 a xs) (Pv : Nat → L2.St → Hp → Prop) (h0 : Pv 0 σ H)
    (hS : ∀ i σ' H', Pv i σ' H' → Same H0 H')
    (hs : ∀ i x σ' H', i < xs.length → xs[i]? = some x → Pv i σ' H' → g x σ' H' fun σ2 H2 => tb { D with nx := Pv (i + 1), ct := Pv (i + 1), bk := D.nx } σ2 H2) (hd : ∀ σ' H', Pv xs.length σ' H' → D.nx σ' H') : tFor (iSeq K tl) g tb D σ H := by
  refine hv _ ⟨a, xs, rfl, ?_⟩
  rcases hq with hq | hq
  · refine .inl ⟨(hS 0 σ H h0).seq hq, for_it walk_list Pv h0 (fun i σ' H' _ p => (hS i σ' H' p).seq hq) (fun i x σ' H1 H2 hi p y => ?_) hd⟩
    obtain ⟨rfl, hx⟩ := y
    exact hs i x σ' _ hi hx p
  · refine .inr ⟨(hS 0 σ H h0).tupl hq, for_it walk_tup Pv h0 (fun i σ' H' _ p => (hS i σ' H' p).tupl hq) (fun i x σ' H1 H2 hi p y => ?_) hd⟩
    obtain ⟨rfl, hx⟩ := y
    exact hs i x σ' _ hi hx p
/-! ### rules within a comprehension: the written part by its name -/
section
variable {X : Cx} {K : PySem.W.Frag}
theorem ix_tupK (h : X.K = K) : IxR X (rIxT K) := h ▸ ix_tup
theorem ix_listK (h : X.K = K) : IxR X (rIxL K) := h ▸ ix_list
theorem pe_bmSK {o e : Expr} {es : List Expr} {to : TE} {t : TA} {name : Str} {apos cpos : Pos} {T id : String} {r : L2.St → V → List V → Hp → VK → Prop} (h : X.K = K) (pa : PlainAttrs T) (slot : Slot T name id) (hty : typeOf (.builtin id) = pure (.type "method_descriptor")) (hm : MtS X id r) (ho : PE X o to) (ha : PA X (e :: es) t)
    (hbase : attributeBase o name X.env (eval o X.env) = eval o X.env := by rfl)
    (hfew : ((backTo cpos (starEach (e :: es) X.env)).all (fun x => !x.1) && (backToKw cpos (keywordEach [] X.env)).all (fun x => x.1.isSome)
      && decide ((e :: es).length + ([] : List Keyword).length + (if ([] : List Keyword).isEmpty then 0 else 1) < 30)) = true := by rfl)
    (hline : (apos.endLine == cpos.line) = true := by rfl) (hs : starEach (e :: es) X.env = (false, eval e X.env) :: starEach es X.env := by rfl) (hplain : (backTo cpos (starEach es X.env)).any (·.1) = false := by rfl) :
    PE X (.Call (.Attribute o name apos) (e :: es) [] cpos) (tBMS K T r to t) := h ▸ pe_bmS pa slot hty hm ho ha hbase hfew hline hs hplain
end
end My
end
section
set_option Elab.async false
set_option linter.all false
set_option maxRecDepth 100000
set_option maxHeartbeats 4000000
namespace My
open PySem PySem.Spec PyProof.Rows L2
/-- heads of turns: each put both ways -/
def headsAll (ps : List (Nat × Nat)) : List (Nat × Nat) := ps.foldl (fun h e => putN (putN h e.1 e.2) e.2 e.1) []
theorem headsAll_snoc (ps : List (Nat × Nat)) (e : Nat × Nat) : headsAll (ps ++ [e]) = putN (putN (headsAll ps) e.1 e.2) e.2 e.1 := by
  unfold headsAll
  rw [List.foldl_append]
  rfl
theorem headsAll_in {S : List Nat} (ps : List (Nat × Nat)) (h : ∀ e ∈ ps, e.1 ∈ S ∧ e.2 ∈ S) : ∀ c b, headOf (headsAll ps) c = some b → b ∈ S := by
  have aux : ∀ (ps h0 : List (Nat × Nat)), (∀ e ∈ ps, e.1 ∈ S ∧ e.2 ∈ S) → (∀ c b, headOf h0 c = some b → b ∈ S) → ∀ c b, headOf (ps.foldl (fun h e => putN (putN h e.1 e.2) e.2 e.1) h0) c = some b → b ∈ S := by
    intro ps
    induction ps with
    | nil => intro h0 _ i c b q; exact i c b q
    | cons e ps ih =>
      intro h0 m i c b q
      refine ih _ (fun x hx => m x (List.mem_cons_of_mem _ hx)) ?_ c b q
      intro c b hcb
      rw [headOf_putN, headOf_putN] at hcb
      have me := m e List.mem_cons_self
      split at hcb
      · exact Option.some.inj hcb ▸ me.1
      · split at hcb
        · exact Option.some.inj hcb ▸ me.2
        · exact i c b hcb
  exact aux ps [] h (fun c b e => by cases e)
theorem headsAll_le (ps : List (Nat × Nat)) : (headsAll ps).length ≤ 2 * ps.length := by
  have aux : ∀ (ps h0 : List (Nat × Nat)), (ps.foldl (fun h e => putN (putN h e.1 e.2) e.2 e.1) h0).length ≤ h0.length + 2 * ps.length := by
    intro ps
    induction ps with
    | nil => intro h0; exact Nat.le_refl _
    | cons e ps ih =>
      intro h0
      refine Nat.le_trans (ih _) ?_
      have l1 := putN_length h0 e.1 e.2
      have l2 := putN_length (putN h0 e.1 e.2) e.2 e.1
      rw [List.length_cons]
      dsimp only
      omega
  have := aux ps []
  simpa [headsAll] using this
end My
end
section
set_option Elab.async false
set_option linter.all false
set_option maxRecDepth 100000
set_option maxHeartbeats 4000000
/-! B10: mathematics of signs. -/
namespace My
open PySem PySem.Spec PyProof.Rows L2
/-- the text of these signs -/
abbrev mkS (l : List Nat) : Str := ⟨l.toArray⟩
theorem mkS_self (S : Str) : mkS S.cps.toList = S := by
  cases S
  simp [mkS]
theorem mkS_len (l : List Nat) : (mkS l).length = l.length := List.size_toArray
/-- the sign that another shows on its head -/
def turnOf : List (Nat × Nat) → Nat → Option Nat
  | [], _ => none
  | e :: r, c => if c = e.1 then some e.2 else if c = e.2 then some e.1 else turnOf r c
def sgO : Option Nat → V
  | some b => sg b
  | none => .non
/-- the signs of a turn -/
def spread (e : Nat × Nat) : List Nat := if e.1 = e.2 then [e.1] else [e.1, e.2]
/-- a font: signs and turns -/
structure Good (m : Nat) (S : Str) (ps : List (Nat × Nat)) : Prop where
  lo : 2 ≤ S.length
  hi : S.length ≤ m
  nd : S.cps.toList.Nodup
  ab : ∀ c ∈ S.cps.toList, c ∈ alphabet.cps.toList
  tnd : (ps.flatMap spread).Nodup
  tin : ∀ c ∈ ps.flatMap spread, c ∈ S.cps.toList
/-- the sign of a text of one sign -/
def ofSg : V → Nat
  | .str z => z.cps.toList.headD 0
  | _ => 0
theorem perm_signs {l : List Nat} {ys : List V} (h : ys.Perm (l.map sg)) : ∃ k : List Nat, ys = k.map sg ∧ k.Perm l := by
  have back : ∀ k : List Nat, (k.map sg).map ofSg = k := by
    intro k
    rw [List.map_map]
    exact List.map_id k
  refine ⟨ys.map ofSg, ?_, ?_⟩
  · rw [List.map_map]
    have : ∀ y ∈ ys, (sg ∘ ofSg) y = y := by
      intro y hy
      obtain ⟨c, _, rfl⟩ := List.mem_map.mp (h.mem_iff.mp hy)
      rfl
    rw [List.map_congr_left this]
    exact (List.map_id ys).symm
  · have := h.map ofSg
    rw [back] at this
    exact this
theorem join_signs : ∀ l : List Nat, Str.join Str.empty (l.map fun c => (⟨#[c]⟩ : Str)) = ⟨l.toArray⟩
  | [] => rfl
  | [c] => rfl
  | c :: d :: r => by
    have ih := join_signs (d :: r)
    show (⟨#[c]⟩ : Str) ++ Str.empty ++ Str.join Str.empty ((d :: r).map fun c => (⟨#[c]⟩ : Str)) = _
    rw [ih]
    show (⟨(#[c] ++ #[]) ++ (d :: r).toArray⟩ : Str) = _
    congr 1
    simp
theorem sum_ones : ∀ l : List Nat, ((l.map fun c => (⟨#[c]⟩ : Str)).map (·.length)).sum = l.length
  | [] => rfl
  | c :: l => by
    have ih := sum_ones l
    rw [List.map_cons, List.map_cons, List.sum_cons, ih, List.length_cons]
    show 1 + l.length = _
    omega
theorem eqV_sg (a b : Nat) : eqV (sg a) (sg b) = decide (a = b) := by
  show ((⟨#[a]⟩ : Str) == ⟨#[b]⟩) = _
  by_cases h : a = b
  · rw [h, decide_eq_true rfl]
    exact beq_self_eq_true _
  · rw [decide_eq_false h]
    exact beq_eq_false_iff_ne.mpr fun z => h (sign_inj.mp z)
theorem eqV_sgO (o : Option Nat) (b : Nat) : eqV (sgO o) (sg b) = decide (o = some b) := by
  cases o with
  | none => rfl
  | some a =>
    show eqV (sg a) (sg b) = _
    rw [eqV_sg]
    by_cases h : a = b
    · rw [h]; simp
    · rw [decide_eq_false h, decide_eq_false (fun z => h (Option.some.inj z))]
theorem inV_sg (c : Nat) (l : List Nat) : inV (sg c) (l.map sg) = decide (c ∈ l) := by
  induction l with
  | nil => rfl
  | cons a l ih =>
    show (eqV (sg a) (sg c) || inV (sg c) (l.map sg)) = _
    rw [ih, eqV_sg]
    by_cases h : a = c
    · subst h; simp
    · rw [decide_eq_false h, Bool.false_or, decide_eq_decide, List.mem_cons]
      exact ⟨.inr, fun z => z.elim (fun q => absurd q.symm h) id⟩
theorem inV_sgO (c : Nat) (f : Nat → Option Nat) (l : List Nat) : inV (sg c) (l.map fun x => sgO (f x)) = decide (some c ∈ l.map f) := by
  induction l with
  | nil => rfl
  | cons a l ih =>
    show (eqV (sgO (f a)) (sg c) || inV (sg c) (l.map fun x => sgO (f x))) = _
    rw [ih, eqV_sgO]
    by_cases h : f a = some c
    · rw [List.map_cons, h]; simp
    · rw [decide_eq_false h, Bool.false_or, decide_eq_decide, List.map_cons, List.mem_cons]
      exact ⟨.inr, fun z => z.elim (fun q => absurd q.symm h) id⟩
theorem flat_sg (l : List Nat) : (l.map sg).all flatV = true := by
  rw [List.all_eq_true]
  intro x hx
  obtain ⟨c, _, rfl⟩ := List.mem_map.mp hx
  rfl
theorem flat_sgO (f : Nat → Option Nat) (l : List Nat) : (l.map fun x => sgO (f x)).all flatV = true := by
  rw [List.all_eq_true]
  intro x hx
  obtain ⟨c, _, rfl⟩ := List.mem_map.mp hx
  cases f c <;> rfl
theorem filter_sg (p : V → Bool) (l : List Nat) : (l.map sg).filter p = (l.filter fun c => p (sg c)).map sg := by
  induction l with
  | nil => rfl
  | cons a l ih =>
    rw [List.map_cons, List.filter_cons, List.filter_cons, ih]
    cases p (sg a) <;> rfl
theorem dash_sg (c : Nat) : decide (sg c = V.str (PySem.Str.ofString "-")) = decide (c = 45) := by
  have e : PySem.Str.ofString "-" = (⟨#[45]⟩ : Str) := by decide
  rw [e, decide_eq_decide]
  exact ⟨fun z => sign_inj.mp (by injection z), fun z => by rw [z]⟩
theorem join_sg (l : List Nat) : Txt.join (PySem.Str.ofString "") (l.map fun c => (⟨#[c]⟩ : Str)) = mkS l := by
  rw [TL.join_eq]
  exact join_signs l
end My
end
section
set_option Elab.async false
set_option linter.all false
set_option maxRecDepth 100000
set_option maxHeartbeats 4000000
namespace My
open PySem PySem.Spec PyProof.Rows L2
/-! ### a pair turned round: t[::-1] -/
section
variable {prog : Program} {w : World} {A : Around} {E : Value → Shared → Prop} {s : Shared}
theorem applied2 {sl : Addr} {vl vu vs : Value} {Q : Int × Int × Nat → Shared → Prop} (hs : s.heap.IsSliceOf sl vl vu vs) (pl : IsPart vl none) (pu : IsPart vu none) (ps : IsPart vs (some (-1)))
    (h : Q ((1 : Int), -1, 2) s) : wpAny (model prog w) A (Builtin.Slice.sliceApplied (.ref sl) (pure (2 : Int))) Q E s := by
  obtain ⟨os, hos, hcs, hds⟩ := id hs
  unfold Builtin.Slice.sliceApplied Builtin.Slice.sliceFields
  refine wpAny_bind (wpAny_bind (wpAny_field hos hds (x := vl) rfl (wpAny_bind (wpAny_field hos hds (x := vu) rfl
    (wpAny_bind (wpAny_field hos hds (x := vs) rfl (wpAny_pure ?_)))))))
  refine wpAny_bind (HT.slicePart_ ps ?_)
  show wpAny _ _ (if ((-1 : Int) == 0) = true then _ else _) _ _ s
  rw [if_neg (by decide)]
  refine wpAny_bind (HT.slicePart_ pl (wpAny_bind (HT.slicePart_ pu (wpAny_bind (wpAny_pure ?_)))))
  exact wpAny_pure h
theorem get_turned {t sl : Addr} {u v vl vu vs : Value} {Q : Value → Shared → Prop} (ht : IsTup s.heap t #[u, v]) (hs : s.heap.IsSliceOf sl vl vu vs) (pl : IsPart vl none) (pu : IsPart vu none) (ps : IsPart vs (some (-1)))
    (h : Q (.ref s.heap.objs.size) { s with heap := s.heap.push { cls := .type "tuple", data := .seq #[v, u] } }) : wpAny (model prog w) A (getItem (.ref t) (.ref sl)) Q E s := by
  have fits : sizeOk (.seq #[v, u]) := by
    show 2 ≤ sizeLine
    rw [sizeLine_eq]
    decide
  obtain ⟨os, hos, hcs, hds⟩ := id hs
  have isS : s.TypeIs (.ref sl) "slice" := ⟨os, hos, hcs⟩
  unfold getItem
  try with_reducible refine wpAny_holding ?_
  first
    | refine wpAny_bind (wpAny_pure ?_)
    | skip
  refine wpAny_bind (wpAny_sequenceKey ht.typeIs (by decide) ?_)
  refine wpAny_bind (wpAny_callSpecial?_slot (name := Str.ofString "__getitem__") ht.typeIs PyProof.Rows.slot_tuple_getitem
    (wpAny_call_entry PyProof.Rows.slot_tuple_getitem ht.typeIs entry_tuple_getitem ?_ (args_tuple_getitem _ _)))
  show wpAny _ _ (Builtin.Tuple.tupleItemsOf (.ref t) >>= _) _ _ s
  refine wpAny_bind (tupleItemsOf_ ht ?_)
  refine wpAny_bind (wpAny_typeOf isS ?_)
  rw [if_pos (by decide)]
  refine wpAny_bind (applied2 hs pl pu ps ?_)
  show wpAny _ _ (if ((1 : Int) == 0 && (-1 : Int) == 1 && (2 : Nat) == 2) = true then _ else _) _ _ s
  rw [if_neg (by decide)]
  first
    | exact wpAny_bind (m := Builtin.Tuple.tupleExact _) (wpAny_newObj_type (wpAny_pure ⟨_, rfl, wpAny_pure h⟩) fits)
    | exact wpAny_bind (wpAny_bind (m := Builtin.Tuple.tupleExact _) (wpAny_newObj_type (wpAny_pure (wpAny_pure ⟨_, rfl, wpAny_pure h⟩)) fits))
    | exact wpAny_bind (wpAny_bind (m := Builtin.Tuple.tupleExact _) (wpAny_newObj_type (wpAny_pure ⟨_, rfl, wpAny_pure h⟩) fits))
end
/-- t[::-1], t a pair -/
def tTurn (K : PySem.W.Frag) (te : TE) : TE := fun σ H Q => te σ H fun x H1 => ∃ a x1 x2, x = .ref a ∧ SqT K H1 a [x1, x2] ∧ ∀ p H2, New H1 p (.tup [x2, x1]) H2 → Q (.ref p) H2
theorem pe_turn {X : Cx} {e : Expr} {te : TE} {k : Nat} {p1 p2 p3 pos : Pos} (he : PE X e te) : PE X (.Subscript e (.Slice none none (some (.UnaryOp .USub (.Constant (.int 1) k p1) p2)) p3) pos) (tTurn X.K te) := by
  refine ⟨fun pins s σ H Q I h => ?_⟩
  refine Subscript_ (thn (he.run pins s σ H _ I h) fun v s1 ⟨x, H1, I1, r1, q1⟩ => ?_)
  obtain ⟨a, x1, x2, ex, hx, q⟩ := q1
  subst ex
  cases r1
  have step : PO X (some (.UnaryOp .USub (.Constant (.int 1) k p1) p2)) (tPart (tUn (rU fun i => .int (-i)) (tC (.int 1)))) := po_some (pe_un un_neg pe_int)
  refine wpAny_Slice (thn (po_none.run pins s1 σ H1 (fun o H2 => o = none ∧ H2 = H1) I1 ⟨rfl, rfl⟩) fun vl s2 ⟨l, H2, I2, pl, el, e2⟩ => ?_)
  subst el e2
  refine thn (po_none.run pins s2 σ H2 (fun o H3 => o = none ∧ H3 = H2) I2 ⟨rfl, rfl⟩) fun vu s3 ⟨u, H3, I3, pu, eu, e3⟩ => ?_
  subst eu e3
  refine thn (step.run pins s3 σ H3 (fun o H4 => o = some (-1) ∧ H4 = H3) I3 ⟨1, rfl, -1, rfl, rfl, rfl⟩) fun vs s4 ⟨o, H4, I4, ps, eo, e4⟩ => ?_
  subst eo e4
  have I5 : Inv X pins σ H4 { s4 with heap := s4.heap.push { cls := .type "slice", data := .fields #[vl, vu, vs] } } := I4.kept (t' := s4.toks) fun b ob q => Heap.get?_push_of_some _ q
  obtain ⟨its, r, ht, hz⟩ := I5.tuple hx
  cases r with
  | cons r1 r2 =>
    cases r2 with
    | cons r3 r4 =>
      cases r4
      show wpAny (model X.prog X.w) X.A (subscriptTail e (.Slice none none (some (.UnaryOp .USub (.Constant (.int 1) k p1) p2)) p3) (.ref a) (.ref s4.heap.objs.size)) (EP X pins σ Q) X.xe { s4 with heap := s4.heap.push { cls := .type "slice", data := .fields #[vl, vu, vs] } }
      refine tail_any (ops := [.ref a, .ref s4.heap.objs.size]) (show Shared.TypeIs _ (.ref a) "tuple" from ht.typeIs) PyProof.Rows.slot_tuple_getitem.lookup ?_ (by with_unfolding_all rfl)
      refine get_turned ht (Heap.IsSliceOf.new _ vl vu vs) pl pu ps ?_
      refine ⟨.ref _, _, I5.laid (t' := s4.toks) (o := .tup [x2, x1]) (fun b ob q => Heap.get?_push_of_some _ q) (Nat.le_refl _) ?_, rfl, q _ _ (.mk' (I5.hok.fresh (Nat.le_refl _)))⟩
      exact ⟨by show 2 ≤ sizeLine; decide, _, .cons r3 (.cons r1 .nil), IsTup.new _ _⟩
end My
end
section
set_option Elab.async false
set_option linter.all false
set_option maxRecDepth 100000
set_option maxHeartbeats 2000000
namespace My
open PySem PySem.Spec PyProof.Rows L2
/-! ### a list that may hold a dict: it does not stand at sys.modules' place -/
section
variable {X : Cx}
def qLstB (t : TA) : TE := fun σ H Q => t σ H fun xs H1 => xs.length ≤ sizeLine ∧ ∀ p H2, p ≠ sysModules → New H1 p (.lst xs) H2 → Q (.ref p) H2
theorem pe_lstB {es : List Expr} {t : TA} {pos : Pos} (h : PA X es t) : PE X (.List es pos) (qLstB t) := by
  constructor
  intro pins s σ H Q I q
  apply wpAny_List_spliced
  apply thn (h.run pos pins s σ H _ I q)
  intro us s1 hv
  obtain ⟨xs, H1, J, r, z, k⟩ := hv
  have free : H1 s1.heap.objs.size = none := J.hok.fresh (Nat.le_refl _)
  have other : s1.heap.objs.size ≠ sysModules := Nat.ne_of_gt J.big
  constructor
  · rw [← r.length]
    exact z
  have laid : ObjOk X.prog X.w (upd H1 s1.heap.objs.size (.lst xs)) (s1.heap.push { cls := .type "list", data := .seq us.toArray }) s1.heap.objs.size (.lst xs) := ⟨z, us, 0, r, Heap.get?_push_size _ rfl⟩
  have J2 := J.laid (t' := s1.toks) (fun b u e => Heap.get?_push_of_some _ e) (Nat.le_refl _) laid
  exact ⟨.ref s1.heap.objs.size, _, J2, rfl, k _ _ other (.mk' free)⟩
end
end My
end
section
set_option Elab.async false
set_option linter.all false
set_option maxRecDepth 100000
set_option maxHeartbeats 2000000
namespace My
open PySem PySem.Spec PyProof.Rows L2
abbrev s_pick : Stmt := topS 31
abbrev s_shuf : Stmt := topS 32
section
variable {P : Program} {w : World} {K : PySem.W.Frag} {mg : Str → Option Value} {base : Heap}
theorem sc_pick : FnScope ["_law_pen_here", "_law_some"] ["_law_pen_here", "_law_some"] (defScope s_pick) := ⟨rfl, rfl, rfl, by decide +kernel, rfl, by decide +kernel, by decide +kernel⟩
theorem ok_pick {f fD : Addr} {fd fdD : FuncData} (F : Fun K "_law_pick" "_law_pick" s_pick f fd) (T : TDraw mg) (D : Def K mg "_law_draw" fD fdD ["_law_pen_here", "_law_many"]) (G : FnOk P w K mg base CX0 1 fD fdD ["_law_pen_here", "_law_many"] sp_draw) :
    FnOk P w K mg base CX0 2 f fd ["_law_pen_here", "_law_some"] (sp_pick K) := by
  refine F.ok sc_pick (fun vs H Q E h => ?_) (fun cdv A outer s H vs Q E hr h => ?_)
  · obtain ⟨p, c, a, xs, n, rfl, _⟩ := h
    rfl
  · obtain ⟨p, c, a, xs, n, rfl, hP, hn, hS, hap, h0, h1, k⟩ := h
    refine ⟨_, pss_one (ps_ret (pe_ix ix_list (pv 1) (pe_call G hr rfl D.mgf D.kp D.bd .nil pass0 (pa_cons (pv 0) (pa_cons (pe_callB call_len_seq (by rfl) T.len PySem.boot_len (pa_cons (pv 1) pa_nil)) pa_nil))) (fun _ _ => rfl))), ?_⟩
    refine ⟨_, rfl, _, rfl, _, rfl, a, _, rfl, .inl hS, p, c, _, n, rfl, hP, hn, by omega, by omega, fun H' r hD r0 r1 => ?_⟩
    obtain ⟨j, rfl⟩ : ∃ j : Nat, r = j := ⟨_, (Int.toNat_of_nonneg r0).symm⟩
    have hj : j < xs.length := by omega
    exact ⟨a, xs, _, xs[j], rfl, rfl, hD.but.seq hap hS, atI_nat (by simp [hj]), k _ _ hD (List.getElem_mem hj)⟩
theorem sc_shuf : FnScope ["_law_pen_here", "_law_items", "_law_left", "_law_found"] ["_law_pen_here", "_law_items"] (defScope s_shuf) := ⟨rfl, rfl, rfl, by decide +kernel, rfl, by decide +kernel, by decide +kernel⟩
theorem ok_shuf {f fD : Addr} {fd fdD : FuncData} (F : Fun K "_law_shuffled" "_law_shuffled" s_shuf f fd) (T : TDraw mg) (Tl : mg "list" = none) (D : Def K mg "_law_draw" fD fdD ["_law_pen_here", "_law_many"]) (G : FnOk P w K mg base CX0 1 fD fdD ["_law_pen_here", "_law_many"] sp_draw) :
    FnOk P w K mg base CX0 2 f fd ["_law_pen_here", "_law_items"] (sp_shuf K) := by
  refine F.ok sc_shuf (fun vs H Q E h => ?_) (fun cdv A outer s H vs Q E hr h => ?_)
  · obtain ⟨p, c, x, xs, n, rfl, _⟩ := h
    rfl
  · obtain ⟨p, c, x, xs, n, rfl, hP, hn, hS, hxl, k⟩ := h
    refine ⟨_, pss_cons (ps_par (i := 2) (j := 3) rfl sc_shuf.nd rfl rfl (by decide) rfl rfl (pa_cons (pe_callTy (call_listAny hr.hd) (by rfl) Tl (by decide +kernel) (pa_cons (pv 1) pa_nil)) (pa_cons (pe_lst' pa_nil) pa_nil)) (by rfl))
      (pss_cons (ps_while PassesOwn.never (pt_cmpR (op_neNil hr.units0) (pv 2) (pe_lst' pa_nil) (nomark _))
        (pss_one (ps_expr (pe_bm PySem.F.plainAttrs_list PySem.F.slot_list_append PySem.F.type_list_append mt_append' (pv 3) (pa_cons
          (pe_bm PySem.F.plainAttrs_list PySem.F.slot_list_pop PySem.F.type_list_pop mt_popAt' (pv 2) (pa_cons (pe_call G hr rfl D.mgf D.kp D.bd .nil pass0 (pa_cons (pv 0) (pa_cons (pe_callB call_len_seq (by rfl) T.len PySem.boot_len (pa_cons (pv 2) pa_nil)) pa_nil))) pa_nil)) pa_nil)))))
      (pss_one (ps_ret (pv 3)))), ?_⟩
    refine ⟨_, rfl, x, xs, rfl, hS, fun a H1 n1 => ⟨by decide, fun b H2 n2 => ⟨_, _, rfl, ?_⟩⟩⟩
    have hpa : p ≠ a := hP.ne n1.free
    have hpb : p ≠ b := (hP.same n1.same).ne n2.free
    have hca : c ≠ a := hP.neC n1.free
    have hcb : c ≠ b := (hP.same n1.same).neC n2.free
    have hab : a ≠ b := ne_of_none n1.here n2.free
    have hb0 : H b = none := by
      cases e : H b with
      | none => rfl
      | some o => have := n1.same _ _ e; rw [n2.free] at this; cases this
    have s2 : Same H H2 := n1.same.trans n2.same
    refine while_by (fun σ H' => ∃ (left found : List V) (m : Nat), σ = [some (.ref p), some x, some (.ref a), some (.ref b)] ∧ H' a = some (.lst left) ∧ H' b = some (.lst found) ∧ But p H H' ∧ PenAt H' p c m ∧ m + left.length ≤ n + xs.length ∧ (found ++ left).Perm xs)
      (fun _ H' => match H' a with | some (.lst l) => l.length | _ => 0) ⟨xs, [], n, rfl, n2.same _ _ n1.here, n2.here, .of s2, hP.same s2, Nat.le_refl _, by simp⟩ ?_ ?_
    · rintro σ H3 ⟨left, found, m, rfl, ha, hb, hB, hP3, hm, hperm⟩
      have hlen := hperm.length_eq
      rw [List.length_append] at hlen
      refine ⟨_, rfl, by decide, fun q H4 n4 => ⟨a, q, left, rfl, rfl, SqL.of (n4.same _ _ ha), n4.here, _, rfl, ?_⟩⟩
      have ha4 := n4.same _ _ ha
      have hb4 := n4.same _ _ hb
      have hP4 := hP3.same n4.same
      refine ite2 (fun ht => ?_) (fun hf => ?_)
      · have hpos : 0 < left.length := by
          cases left with
          | nil => simp at ht
          | cons _ _ => simp
        refine ⟨_, rfl, .inl ⟨rfl, _, SqL.of hb4⟩, _, rfl, .inl ⟨rfl, _, SqL.of ha4⟩, _, rfl, _, rfl, a, _, rfl, .inl (SqL.of ha4), p, c, _, m, rfl, hP4, by omega, by omega, by omega, fun H5 r hD r0 r1 => ?_⟩
        obtain ⟨j, rfl⟩ : ∃ j : Nat, r = j := ⟨_, (Int.toNat_of_nonneg r0).symm⟩
        have hj : j < left.length := by omega
        have ha5 := hD.but a _ hpa.symm ha4
        have hb5 := hD.but b _ hpb.symm hb4
        refine ⟨a, left, left[j], j, rfl, rfl, ha5, by simp [hj], by omega, fun H6 w6 => ?_⟩
        have hb6 : H6 b = some (.lst found) := (w6.els b hab.symm).trans hb5
        have fits : found.length < sizeLine := Nat.lt_of_le_of_lt (show found.length ≤ 1000000 by omega) (by decide)
        refine ⟨b, found, left[j], rfl, rfl, hb6, fits, fun H7 w7 => ?_⟩
        refine ⟨⟨left.eraseIdx j, found ++ [left[j]], m + 1, rfl, (w7.els a hab).trans w6.here, w7.here, ?_, ?_, ?_, ?_⟩, ?_⟩
        · exact But.wr (But.wr ((hB.trans (.of n4.same)).trans hD.but) n1.free w6) hb0 w7
        · exact (hD.pen.els w6 hpa hca).els w7 hpb hcb
        · rw [List.length_eraseIdx_of_lt hj]
          omega
        · rw [List.append_assoc]
          exact (List.Perm.append_left found (perm_eraseIdx hj)).trans hperm
        · show (match H7 a with | some (.lst l) => l.length | _ => 0) < (match H3 a with | some (.lst l) => l.length | _ => 0)
          rw [(w7.els a hab).trans w6.here, ha]
          show (left.eraseIdx j).length < left.length
          rw [List.length_eraseIdx_of_lt hj]
          omega
      · have hnil : left = [] := by
          cases left with
          | nil => rfl
          | cons _ _ => simp at hf
        subst hnil
        rw [List.append_nil] at hperm
        exact ⟨_, rfl, k _ b found ⟨hB.trans (.of n4.same), hP4.mono (by rw [List.length_nil] at hm; omega)⟩ hb0 hb4 hperm⟩
    · intro σ H Q Q' m h
      obtain ⟨v, e, h0, h⟩ := h
      refine ⟨v, e, h0, fun q H' n => ?_⟩
      obtain ⟨a, b, xs, e1, e2, h1, h2, k, e3, h3⟩ := h q H' n
      exact ⟨a, b, xs, e1, e2, h1, h2, k, e3, m _ _ h3⟩
end
end My
end
section
set_option Elab.async false
set_option linter.all false
set_option maxRecDepth 100000
set_option maxHeartbeats 4000000
namespace My
open PySem PySem.Spec PyProof.Rows L2
def lenD : PyData → Nat
  | .list ds => ds.length
  | .tuple ds => ds.length
  | _ => 0
end My
end
section
set_option Elab.async false
set_option linter.all false
set_option maxRecDepth 100000
set_option maxHeartbeats 4000000
namespace My
open PySem PySem.Spec PyProof.Rows L2
open PySem.HandSPX (excO)
/-! ### own errors over any built-in error -/
/-- what is asked of the chain of an own error's class -/
structure Chain (F : String) (bm : List Value) : Prop where
  base : bm.contains (.type F) = true
  attr : bm.contains (.type "AttributeError") = false
  name : bm.contains (.type "NameError") = false
  obj : bm.contains (.type "object") = true
  some : bm.isEmpty = false
  pass : ∀ self : Value, refuseLoop self "__setattr__" bm = pure ()
section
variable {prog : Program} {w : World} {A : Around} {E : Value → Shared → Prop} {R : Result → Shared → Prop} {h : Heap} {g : Array GenState} {d : Drawn} {t : Nat} {os : OsState}
variable {nm q : Str} {C N : Addr} {bs bm bmB : List Value} {sn : List Str} {sub : List Value} {ab : Bool} {col : Option Bool} {dd : Option Addr} {k0 k1 k2 k3 k5 : Option Value} {B newId initId : String}
/-- C(..): a fresh error, then the class's own __init__ -/
theorem make_own (F : ExcBaseFacts B newId initId bmB) (T : Chain B bm) {rest : List Value} {fI : Addr}
    (hC : h.get? C = some (excClassObj nm q C N bs bm true sn sub ab col dd k0 k1 k2 k3 k5 newId))
    (hi : PySem.W.Looks (model prog w) h (typeLookup (.ref C) "__init__") (some (.ref fI)))
    (hb : ∀ self, PySem.W.Looks (model prog w) h (bindSpecial (.ref fI) self) (.ref fI, [self])) (hl : rest.length ≤ sizeLine)
    (hq : codeAny (model prog w) (A.under (.builtin "type.__call__" ⟨.ref C :: rest, []⟩)) (.call (.ref fI) ⟨.ref (h.objs.size + 1) :: rest, []⟩) (PySem.W.InitBack (h.objs.size + 1) R)
      ⟨(h.push (PySem.W.kdv_tup rest)).push (excO C h.objs.size), g, d, t, os⟩) :
    codeAny (model prog w) A (.call (.ref C) ⟨rest, []⟩) R ⟨h, g, d, t, os⟩ := by
  have isB : (Value.ref C :: bm).contains (.type B) = true := by
    rw [List.contains_cons, T.base, Bool.or_true]
  have notA : (Value.ref C :: bm).contains (.type "AttributeError") = false := by
    rw [List.contains_cons, T.attr]; rfl
  have notN : (Value.ref C :: bm).contains (.type "NameError") = false := by
    rw [List.contains_cons, T.name]; rfl
  have isC : (Value.ref C :: bm).contains (.ref C) = true := by simp
  have ty : (⟨h, g, d, t, os⟩ : Shared).TypeIs (.ref C) "type" := ⟨_, hC, rfl⟩
  have t1 := tc_lookup
  have t2 := tc_bind (.ref C)
  have star := F.noStar
  have ends := F.ends
  have k : ∀ b o, h.get? b = some o → ((h.push (PySem.W.kdv_tup rest)).push (excO C h.objs.size)).get? b = some o := fun b o e =>
    Heap.get?_push_of_some _ (Heap.get?_push_of_some _ e)
  have i1 := hi.keeps k
  have b1 := (hb (.ref (h.objs.size + 1))).keeps k
  have new1 : ((h.push (PySem.W.kdv_tup rest)).push (excO C h.objs.size)).get? (h.objs.size + 1) = some (excO C h.objs.size) := by heap_get
  have hC1 := k _ _ hC
  refine codeAny_of_tree ?_
  show wpAny _ _ (callAny (.ref C) _) _ _ _
  repeat (any_goals (first
    | assumption
    | with_reducible refine wpAny_loadPart_at hC ?_
    | wp_step))
  refine ⟨rfl, ?_⟩
  refine codeAny_call_builtin_at (Code.quiet_builtin _ (by decide +kernel)) entry_typeCall (wpAny_check_type_call_sub hC ?_)
  repeat (first
    | with_reducible refine wpAny_loadPart_at hC ?_
    | with_reducible refine wpAny_madeBy_exc hC ?_
    | wp_step)
  refine codeAny_call_builtin_code (Code.quiet_builtin _ F.quiet) ?_
  · simp only [checkBuiltinCall, F.newKind, F.newSplit, F.newRow]
    repeat (first
      | refine wpAny_loadPart_at hC ?_
      | (refine wpAny_isSubtype_exc hC ?_
         rw [isB])
      | refine wpAny_staticBase_exc hC ?_
      | refine wpAny_madeBy_exc hC ?_
      | simp only [bne_self_eq_false, Bool.false_eq_true, if_false]
      | wp_step)
    refine codeAny_builtinAt F.entry ?_
    unfold Builtin.«BaseException.__new__»
    refine PySem.wpAt_bind ?_
    show PySem.wpAt _ _ _ (stack >>= _) _ _ _
    refine PySem.wpAt_bind (PySem.wpAt_stack fun p below => PySem.wpAt_of_wpAny ?_)
    wp_walk
    refine PySem.wpAt_of_wpAny ?_
    rw [F.owner]
    repeat (first
      | with_reducible refine wpAny_madeHere_exc F.canon hC ?_
      | with_reducible refine wpAny_loadPart_at hC ?_
      | (with_reducible refine wpAny_isSubtype_exc hC ?_
         first
           | rw [isB]
           | rw [notA]
           | rw [notN])
      | wp_step)
    rw [Heap.size_push]
    show wpAny _ _ (isSubtype (.ref C) (.ref C)) _ _ ⟨(h.push (PySem.W.kdv_tup rest)).push (excO C h.objs.size), g, d, t, os⟩
    refine wpAny_isSubtype_exc hC1 ?_
    rw [isC]
    repeat (first
      | with_reducible refine wpAny_loadPart_at new1 ?_
      | wp_step)
    show wpAny _ _ (typeLookup (.ref C) _) _ _ _
    refine i1.at ?_
    refine wpAny_holding (wpAny_bind (b1.at ?_))
    refine wpAny_bind (wpAny_call (codeAny_mono hq fun r s' z => ?_))
    rcases r with e | (v | _ | _ | _) <;> first | exact z | exact z.elim | skip
    obtain ⟨rfl, z⟩ := z
    first
      | exact wpAny_pure (wpAny_pure z)
      | (wp_walk; exact z)
end
end My
end
section
set_option Elab.async false
set_option linter.all false
set_option maxRecDepth 100000
set_option maxHeartbeats 4000000
namespace My
open PySem PySem.Spec PyProof.Rows L2
open PySem.HandSPX (excO)
/-! ### the field of an own error -/
section
open Builtin Builtin.ObjectAttr
variable {prog : Program} {w : World} {A : Around} {E : Value → Shared → Prop} {R : Result → Shared → Prop} {hp : Heap} {g : Array GenState} {d : Drawn} {t : Nat} {os : OsState}
/-- e.f = v, e an own error without a dict as yet -/
theorem err_store {K : PySem.W.Frag} {B : String} {bm : List Value} {f : Str} {tk : Tok} {v : Value} {x C : Addr} {fv : Array Value} {cd : ClassData} (T : Chain B bm)
    (X : K.In hp) (hx : hp.get? x = some { cls := .ref C, data := .fields fv }) (hcd : PySem.W.clsIn K C = some cd) (hm : cd.mro = .ref C :: bm) (hh : cd.hasDict = true)
    (ha : PySem.W.findIn K (.ref C) f = some none)
    (hq : ∀ h' tk' dx, (∀ b o, b ≠ x → hp.get? b = some o → h'.get? b = some o) → hp.objs.size ≤ dx → dx ≠ x →
      h'.get? x = some { cls := .ref C, dict := some dx, data := .fields fv } → h'.Ns1 dx (fun y => if y = f then some v else none) → R (.ok (.ret .none)) ⟨h', g, d, tk', os⟩) :
    codeAny (model prog w) A (.call (.builtin "object.__setattr__") ⟨[.ref x, .str f tk, v], []⟩) R ⟨hp, g, d, t, os⟩ := by
  have at0 : PySem.W.InstAt hp x { cls := .ref C, data := .fields fv } C none := ⟨hx, rfl, rfl, trivial⟩
  have st := F.store_object
  have obj : cd.mro.contains (.type "object") = true := by
    rw [hm, List.contains_cons, T.obj, Bool.or_true]
  have full : cd.mro.isEmpty = false := by rw [hm]; rfl
  have free : refuseLoop (.ref x) "__setattr__" cd.mro = pure () := by
    rw [hm, refuseLoop_ref]
    exact T.pass _
  have other : x ≠ hp.objs.size := Nat.ne_of_lt (Heap.lt_size hx)
  have isO : PySem.W.Looks (model prog w) hp (isInstance (.ref x) (.type "object")) true := at0.type.andThen
    (PySem.W.looks_mroIn X (by unfold PySem.W.mroIn; rw [hcd, Option.bind_some, if_neg (by rw [full]; decide), obj]))
  refine codeAny_call_builtin st.slot.plain st.entry (@PySem.W.check_slot (model prog w) _ _ ⟨hp, g, d, t, os⟩ "object.__setattr__" "object" "__setattr__"
    (.ref x) [.str f tk, v] [] _ st.kind st.split isO (st.args (.ref x) (.str f tk) v) ?_)
  have mro : PySem.W.Looks (model prog w) hp (mroOf (.ref C)) cd.mro := (PySem.W.looks_clsIn X hcd).andThen .now
  have taker : PySem.W.Looks (model prog w) hp (storeTaker? none) none := .now
  have data : PySem.W.Looks (model prog w) hp (classData C) cd := PySem.W.looks_clsIn X hcd
  rw [PySem.W.osa_eq, refuse_eq]
  refine wpAny_bind (wpAny_bind (at0.type.at (wpAny_bind (mro.at ?_))))
  rw [free]
  refine wpAny_pure (wpAny_bind (at0.type.at (wpAny_bind ((PySem.W.looks_findIn X ha).at (wpAny_bind (taker.at ?_))))))
  show wpAny _ _ (storeInOwnDict (.ref x) (.ref C) (.str f tk) f v false) _ _ _
  obtain ⟨nm, bs, mro, ns, qn, hd, sn, sb, ab, col, del⟩ := cd
  dsimp only at hh
  subst hh
  unfold storeInOwnDict ownDictForStores
  repeat (first
    | with_reducible refine PySem.HandSPX.store_in_new ?_ ?_
    | with_reducible refine wpAny_loadPart_at hx ?_
    | with_reducible refine data.at ?_
    | wp_step)
  · exact ⟨_, #[], _, (Heap.get?_update_ne _ _ _ _ other.symm).trans (Heap.get?_push_at rfl rfl), rfl, fun e he => absurd he (by simp), fun _ => rfl⟩
  · intro h' tk' hn' hs
    have hx1 : (hp.push { cls := .type "dict", data := .dict #[] }).get? x = some { cls := .ref C, data := .fields fv } := Heap.get?_push_of_some _ hx
    refine hq h' tk' hp.objs.size (fun b o hb ho => ?_) (Nat.le_refl _) other.symm ?_ hn'
    · exact (hs.2 b (Nat.ne_of_lt (Heap.lt_size ho))).trans ((Heap.get?_update_ne _ _ _ _ hb).trans (Heap.get?_push_of_some _ ho))
    · exact (hs.2 x other).trans (Heap.get?_update_self _ hx1 rfl)
end
/-! ### the class of an error that keeps one value -/
def eArgs (f : Str) (p1 p2 : Pos) : Arguments := { posonlyargs := [], args := [{ arg := "self", annotation := none, pos := p1 }, { arg := f, annotation := none, pos := p2 }], vararg := none, kwonlyargs := [], kw_defaults := [], kwarg := none, defaults := [] }
def eBody (f : Str) (q1 q2 q3 q4 : Pos) : List Stmt := [.Assign [.Attribute (.Name "self" q1) f q2] (.Name f q3) q4]
def eScope (f : Str) : Scope := { kind := .function, names := [(PySem.Str.ofString "self", .local), (f, .local)], isGenerator := false, isCoroutine := false, more := [] }
/-- the name of a field: no name that means something else in __init__ -/
structure Fld (f : Str) : Prop where
  bind : ∀ (qi : Str) (p1 p2 : Pos) (b : List Stmt) (doc pm : Value) (an : Option Addr) (cdv ct a v : Value),
    bindArgs (PySem.W.fnOf "__init__" qi (eArgs f p1 p2) b (eScope f) .none .none doc pm an cdv ct) ⟨[a, v], []⟩ = pure [(("self" : Str), a), (f, v)]
  loc : (eScope f).names.lookup f = some .local
  first : ∀ (qi : Str) (L a : Addr) (cd p v : Value), bindL (envOfC qi (eScope f) L a cd).kindOf [("self", p), (f, v)] (fun _ => none) "self" = some p
  snd : ∀ (qi : Str) (L a : Addr) (cd p v : Value), bindL (envOfC qi (eScope f) L a cd).kindOf [("self", p), (f, v)] (fun _ => none) f = some v
  dbg : (f == ("__debug__" : Str)) = false
theorem fld_value : Fld "value" where
  bind := fun _ _ _ _ _ _ _ _ _ _ _ => by first | rfl | with_unfolding_all rfl
  loc := by decide +kernel
  first := fun _ _ _ _ _ _ => by first | rfl | with_unfolding_all rfl
  snd := fun _ _ _ _ _ _ => by first | rfl | with_unfolding_all rfl
  dbg := by decide
/-- what the written part says of the class x at C, over the built-in error B, with the field f, and of its __init__ at fI -/
structure ErrC (K : PySem.W.Frag) (mg : Str → Option Value) (x f qi : Str) (B newId initId : String) (bmB bm : List Value) (C fI : Addr) : Prop where
  facts : ExcBaseFacts B newId initId bmB
  chain : Chain B bm
  gC : mg x = some (.ref C)
  cls : ∃ nm q N bs sn sub ab col dd k0 k1 k2 k3 k5, K.lookup C = some (excClassObj nm q C N bs bm true sn sub ab col dd k0 k1 k2 k3 k5 newId)
  sa : PySem.W.findIn K (.ref C) "__setattr__" = some (some (.builtin "object.__setattr__"))
  ga : PySem.W.findIn K (.ref C) "__getattribute__" = some (some (.builtin "BaseException.__getattribute__"))
  gg : PySem.W.findIn K (.ref C) "__getattr__" = some none
  noN : PySem.W.findIn K (.ref C) f = some none
  iC : PySem.W.findIn K (.ref C) "__init__" = some (some (.ref fI))
  tC : PySem.W.typeIn K (.ref fI) = some (.type "function")
  kC : PySem.W.keepIn K (.ref C) = true
  exC : PySem.W.subIn K (.ref C) (.type "BaseException") = some true
  tyC : PySem.W.typeIn K (.ref C) = some (.type "type")
  hdC : PySem.W.hasDictIn K C = true
  te : PySem.W.exmOne K (.ref C) (.ref C) = some true
  fn : ∃ (oc : Value) (od : Option Addr) (doc pm : Value) (an : Option Addr) (cdv ct : Value) (osl : Array (Option Value)) (p1 p2 q1 q2 q3 q4 : Pos),
    K.lookup fI = some ⟨oc, od, .func (PySem.W.fnOf "__init__" qi (eArgs f p1 p2) (eBody f q1 q2 q3 q4) (eScope f) .none .none doc pm an cdv ct), osl⟩ ∧ PySem.W.codeIn K cdv qi = true
/-- what __init__ leaves -/
structure Kept1 (h h' : Heap) (x C dx t1 : Addr) (f : Str) (v : Value) : Prop where
  keep : ∀ b o, b ≠ x → h.get? b = some o → h'.get? b = some o
  obj : h'.get? x = some { cls := .ref C, dict := some dx, data := .fields #[.ref t1, .none, .none, .none, .bool false, .none] }
  big : h.objs.size ≤ dx
  ne : dx ≠ x
  ns : h'.Ns1 dx (fun y => if y = f then some v else none)
/-- what C(v) leaves: the error at e, its dict at dx -/
structure Made1 (h h' : Heap) (e C dx : Addr) (f : Str) (v : Value) : Prop where
  keep : ∀ b o, h.get? b = some o → h'.get? b = some o
  new : h.objs.size ≤ e
  obj : ∃ oe vs, h'.get? e = some oe ∧ oe.cls = .ref C ∧ oe.dict = some dx ∧ oe.data = .fields vs ∧ vs[1]? = some .none
  big : h.objs.size ≤ dx
  ne : dx ≠ e
  ns : h'.Ns1 dx (fun y => if y = f then some v else none)
section
variable {prog : Program} {w : World} {A : Around} {E : Value → Shared → Prop} {R : Result → Shared → Prop} {s : Shared} {K : PySem.W.Frag} {mg : Str → Option Value} {x f qi : Str} {B newId initId : String} {bmB bm : List Value} {C fI : Addr}
theorem ld_local {M : Model} {s : Shared} {name : Str} {scope : Scope} {L a : Addr} {cd : Value} {m : Str → Option Value} {x : Str} {pos : Pos} {v : Value} {Q : Value → Shared → Prop} {A : Around} {E : Value → Shared → Prop}
    (hn : s.heap.Ns L m) (hv : m x = some v) (h : Q v s) (hk : scope.kind = .function) (hl : (envOfC name scope L a cd).kindOf x = some .local) (hd : (x == ("__debug__" : Str)) = false) :
    wpAny M A (eval (.Name x pos) (envOfC name scope L a cd)) Q E s :=
  wpAny_Name (wpAny_loadName_local hk hl hn hv h) hd
theorem err_init (T : ErrC K mg x f qi B newId initId bmB bm C fI) (Z : Fld f) {p t0 : Addr} {v : Value} (X : K.In s.heap) (hlim : s.heap.NoLimit) (hx : s.heap.get? p = some (excO C t0)) (room : A.depth < recursionLimit)
    (hq : ∀ h' tk dx, Kept1 s.heap h' p C dx t0 f v → R (.ok (.ret .none)) { s with heap := h', toks := tk }) :
    codeAny (model prog w) A (.call (.ref fI) ⟨[.ref p, v], []⟩) R s := by
  obtain ⟨oc, od, doc, pm, an, cdv, ct, osl, p1, p2, q1, q2, q3, q4, ho, hcd⟩ := T.fn
  obtain ⟨nm, q, N, bs, sn, sub, ab, col, dd, k0, k1, k2, k3, k5, hC⟩ := T.cls
  have hcl : PySem.W.clsIn K C = some { name := nm, bases := bs, mro := .ref C :: bm, ns := N, qualname := q, hasDict := true, slotNames := sn, subclasses := sub, abstract := ab, collection := col, hasDel := false } := by
    unfold PySem.W.clsIn
    rw [hC] <;> rfl
  refine Att.call_fn (binds := [("self", .ref p), (f, v)]) X hlim ho hcd room (BindsTo.of_eq (Z.bind ..)) ?_ (fun s₁ IC => ?_) rfl rfl rfl
  · have e : (eScope f).names.lookup ("self" : Str) = some .local := rfl
    show ((((eScope f).names.lookup ("self" : Str) == some .local) || ((eScope f).names.lookup ("self" : Str) == some .cell)) && ((((eScope f).names.lookup f == some .local) || ((eScope f).names.lookup f == some .cell)) && true)) = true
    rw [e, Z.loc]
    rfl
  obtain ⟨h₁, tk₁, rfl⟩ := IC.toInCall.same
  have k : ∀ b o, s.heap.get? b = some o → h₁.get? b = some o := IC.toInCall.keep
  have hn := IC.toInCall.ns
  have X1 : K.In h₁ := X.keeps k
  have hx1 := k _ _ hx
  show wpAny _ _ (execs _ _) _ _ _
  refine wpAny_execs_cons (plainObj_wpAny_Assign_Attribute ?_)
  refine ld_local (v := v) hn (Z.snd ..) (ld_local (v := .ref p) hn (Z.first ..) ?_ rfl rfl (by decide)) rfl Z.loc Z.dbg
  refine PySem.W.set_plain X1 (ox := excO C t0) (od := none) ⟨hx1, rfl, rfl, trivial⟩ T.sa ?_
  refine err_store T.chain X1 hx1 hcl rfl rfl T.noN (fun h₃ tk₃ dx k₃ dn dne hx₃ hn₃ => ?_)
  show wpAny _ _ (execs _ _) _ _ _
  have z : s.heap.objs.size < h₁.objs.size := hn.lt
  exact wpAny_execs_nil (hq h₃ tk₃ dx ⟨fun b o hb e => k₃ b o hb (k b o e), hx₃, Nat.le_of_lt (Nat.lt_of_lt_of_le z dn), dne, hn₃⟩)
theorem err_made (T : ErrC K mg x f qi B newId initId bmB bm C fI) (Z : Fld f) {v : Value} (X : K.In s.heap) (hlim : s.heap.NoLimit) (room : A.depth + 1 < recursionLimit)
    (hq : ∀ h' tk e d, Made1 s.heap h' e C d f v → R (.ok (.ret (.ref e))) { s with heap := h', toks := tk }) :
    codeAny (model prog w) A (.call (.ref C) ⟨[v], []⟩) R s := by
  obtain ⟨nm, q, N, bs, sn, sub, ab, col, dd, k0, k1, k2, k3, k5, hC⟩ := T.cls
  obtain ⟨hp, g, dr, tk, os⟩ := s
  have k : ∀ b o, hp.get? b = some o → ((hp.push (PySem.W.kdv_tup [v])).push (excO C hp.objs.size)).get? b = some o := fun b o e =>
    Heap.get?_push_of_some _ (Heap.get?_push_of_some _ e)
  have here : ((hp.push (PySem.W.kdv_tup [v])).push (excO C hp.objs.size)).get? (hp.objs.size + 1) = some (excO C hp.objs.size) := by heap_get
  have one : [v].length ≤ sizeLine := by
    rw [sizeLine_eq]
    exact (by decide : 1 ≤ 16777216)
  refine make_own T.facts T.chain (X _ _ hC) (PySem.W.looks_findIn X T.iC) (fun self => PySem.W.bind_fn X self T.tC) one ?_
  refine err_init (s := ⟨(hp.push (PySem.W.kdv_tup [v])).push (excO C hp.objs.size), g, dr, tk, os⟩) T Z (X.keeps k) (hlim.keeps k) here ?_ fun h' tk' dx ⟨k', hx, dn, dne, hns⟩ => ?_
  · show A.depth + 1 < recursionLimit
    exact room
  · have old : ∀ b o, hp.get? b = some o → h'.get? b = some o := fun b o e => k' b o (Nat.ne_of_lt (Nat.lt_succ_of_lt (Heap.lt_size e))) (k b o e)
    have z : hp.objs.size + 1 + 1 ≤ dx := by
      have q := dn
      rw [Heap.size_push, Heap.size_push] at q
      exact q
    exact ⟨rfl, hq h' tk' (hp.objs.size + 1) dx ⟨old, Nat.le_succ _, ⟨_, _, hx, rfl, rfl, rfl, rfl⟩, Nat.le_trans (Nat.le_trans (Nat.le_succ _) (Nat.le_succ _)) z, dne, hns⟩⟩
end
/-! ### the error in rules -/
theorem relO_one {f : Str} {v : V} {v' : Value} (r : RelV v v') (y : Str) : RelO (List.lookup y [(f, v)]) (if y = f then some v' else none) := by
  by_cases e : y = f
  · subst e
    rw [if_pos rfl]
    have q : List.lookup y [(y, v)] = some v := by simp [List.lookup]
    rw [q]
    exact r
  · rw [if_neg e]
    have q1 : (y == f) = false := by simpa using e
    have q2 : List.lookup y [(f, v)] = none := by simp [List.lookup, q1]
    rw [q2]
    trivial
section
variable {X : Cx} {x f qi : Str} {B newId initId : String} {bmB bm : List Value} {C fI : Addr}
/-- C(e) -/
def tErr (C : Addr) (f : Str) (ta : TA) : L2.St → Hp → XK → Prop := fun σ H Q => ta σ H fun vs H1 => ∃ v, vs = [v] ∧ ∀ d, H1 d = none → Q (.ref C) (some d) (upd H1 d (.xd [(f, v)]))
theorem pmk_err {a : Expr} {ta : TA} {p pos : Pos} {k : Nat} (T : ErrC X.K X.mg x f qi B newId initId bmB bm C fI) (Z : Fld f) (hr : Room k X.A) (hk : 1 ≤ k) (ha : PA X [a] ta) (hg : Gl X x)
    (hdb : (x == ("__debug__" : Str)) = false := by decide)
    (he : starEach (a :: []) X.env = (false, eval a X.env) :: starEach [] X.env := by rfl) (hpl : (backTo pos (starEach [] X.env)).any (·.1) = false := by rfl) :
    PMk X (.Call (.Name x p) [a] [] pos) (tErr C f ta) := by
  intro pins s σ H Q I h
  refine wpAny_Call_Name_kw (ld_glob I hg T.gC ?_ hdb)
  refine PySem.W.callWith_K (h₀ := X.base) I.ok.mod.kin T.kC (thn (ha.run pos pins s σ H _ I h) fun us s1 hh => ?_) he hpl
  obtain ⟨vs, H1, I1, r1, v, ev, q1⟩ := hh
  subst ev
  refine ⟨I1.kIn, ?_⟩
  obtain ⟨v', rfl, rv⟩ := vals1 r1
  show wpAny _ _ (call (.ref C) [v']) _ _ _
  have hlim := I1.nolimit
  obtain ⟨hp, g, dr, tk, os⟩ := s1
  refine wpAny_call (err_made T Z I1.kIn hlim (by have := hr.dp; omega) fun h' tk' e d M => ?_)
  show MkP X pins σ Q (.ref e) ⟨h', g, dr, tk', os⟩
  obtain ⟨oe, fv, hoe, hc, hd, hdat, h1⟩ := M.obj
  have hns := M.ns
  obtain ⟨G', g1, g2⟩ := restrict h' fun b => decide (b ≠ e)
  have gk : ∀ b, b ≠ e → G'.get? b = h'.get? b := fun b hb => g1 b (decide_eq_true hb)
  have ge : G'.get? e = none := g2 e (by simp)
  have old : ∀ b o, hp.get? b = some o → G'.get? b = some o := fun b o q => (gk b (Nat.ne_of_lt (Nat.lt_of_lt_of_le (Heap.lt_size q) M.new))).trans (M.keep b o q)
  have ob : ObjOk X.prog X.w (upd H1 d (.xd [(f, v)])) G' d (.xd [(f, v)]) := ⟨_, hns.at (fun o q => (gk d M.ne).trans q), fun y => relO_one rv y⟩
  have J : Inv X pins σ (upd H1 d (.xd [(f, v)])) ⟨G', g, dr, tk', os⟩ := I1.laid (t' := tk') old M.big ob
  refine ⟨e, oe, fv, ⟨G', g, dr, tk', os⟩, _, .ref C, some d, rfl, J, fun b o q => ?_, ge, hoe, ⟨hc, hd⟩, hdat, h1, ?_, rfl, I1.bare, raises_own T.exC T.tyC, q1 d (I1.hok.fresh M.big)⟩
  · by_cases hb : b = e
    · have q' : G'.get? b = some o := q
      rw [hb, ge] at q'
      cases q'
    · exact (gk b hb).symm.trans q
  · rw [upd_ne (Ne.symm M.ne)]
    exact I1.hok.fresh M.new
/-- raise C(e) -/
def tRaiseErr (C : Addr) (f : Str) (W : WX) (ta : TA) : TS := fun _ σ H => tErr C f ta σ H fun cls d H' => W cls d σ H'
theorem ps_raiseErr {a : Expr} {ta : TA} {W : WX} {p pos pos2 : Pos} {k : Nat} (hc : X.calm = true) (T : ErrC X.K X.mg x f qi B newId initId bmB bm C fI) (Z : Fld f) (hr : Room k X.A) (hk : 1 ≤ k) (tk : Takes X W) (ha : PA X [a] ta) (hg : Gl X x)
    (hdb : (x == ("__debug__" : Str)) = false := by decide)
    (he : starEach (a :: []) X.env = (false, eval a X.env) :: starEach [] X.env := by rfl) (hpl : (backTo pos (starEach [] X.env)).any (·.1) = false := by rfl) :
    PS X (.Raise (some (.Call (.Name x p) [a] [] pos)) none pos2) (tRaiseErr C f W ta) := ps_raise hc tk (pmk_err T Z hr hk ha hg hdb he hpl)
/-- e.f in the suite that holds e -/
def tErrF (C : Addr) (f : Str) (a : Addr) (cls : Value) (d : Option Addr) (te : TE) : TE := fun σ H Q => te σ H fun y H1 => y = .ref a ∧ cls = .ref C ∧ ∃ (dd : Addr) (v : V), d = some dd ∧ H1 dd = some (.xd [(f, v)]) ∧ Q v H1
theorem pe_errF {a : Addr} {oe : Obj} {cls : Value} {d : Option Addr} {pn : List (Addr × Obj)} {e : Expr} {te : TE} {pos : Pos} (T : ErrC X.K X.mg x f qi B newId initId bmB bm C fI) (hz : Zc cls d oe) (hf : ∃ vs, oe.data = .fields vs) (he : PE (X.suite a ((a, oe) :: pn)) e te)
    (hb : attributeBase e f X.env (eval e X.env) = eval e X.env := by rfl) :
    PE (X.suite a ((a, oe) :: pn)) (.Attribute e f pos) (tErrF C f a cls d te) := by
  refine ⟨fun pins s σ H Q I h => ?_⟩
  refine attr_of hb (thn (he.run pins s σ H _ I h) fun u s1 hh => ?_)
  obtain ⟨y, H1, I1, ry, ey, ec, dd, v, ed, ea, q⟩ := hh
  subst ey
  obtain rfl : u = Value.ref a := ry
  subst ec
  subst ed
  obtain ⟨ha, _⟩ := I1.pin (a, oe) (List.mem_append_left _ List.mem_cons_self)
  obtain ⟨vs, hd⟩ := hf
  have hx : ObjOk X.prog X.w H1 s1.heap dd (.xd [(f, v)]) := I1.hok dd _ ea
  obtain ⟨mA, hns, hr⟩ := hx
  obtain ⟨od, ho, hl⟩ := lookIn_ns hns
  have l : List.lookup f [(f, v)] = some v := by simp [List.lookup]
  obtain ⟨u, hu, ru⟩ := RelO.some_of (v := v) (o := mA f) (by rw [← l]; exact hr f)
  have J : PySem.W.InstAt s1.heap a oe C (some od) := ⟨ha, hz.1, by unfold PySem.W.notCls; rw [hd] <;> rfl, by rw [hz.2]; exact ho⟩
  exact HandSPX.exc_get I1.kIn J T.ga T.gg T.exC (PySem.W.findObj_own T.hdC T.noN rfl (by rw [hl, hu])) (handed_of ru) ⟨v, H1, I1.tok _, ru, q⟩
end
/-! ### the chains of the built-in errors -/
abbrev bmValue : List Value := [.type "ValueError", .type "Exception", .type "BaseException", .type "object"]
abbrev bmLookup : List Value := [.type "LookupError", .type "Exception", .type "BaseException", .type "object"]
abbrev bmKey : List Value := [.type "KeyError", .type "LookupError", .type "Exception", .type "BaseException", .type "object"]
theorem chain_Value : Chain "ValueError" bmValue := ⟨by decide +kernel, by decide +kernel, by decide +kernel, by decide +kernel, rfl, PySem.F.store_ValueError.passes⟩
theorem key_pass (self : Value) : refuseLoop self "__setattr__" bmKey = pure () := by
  first
    | kernel_rfl
    | rfl
theorem chain_Key : Chain "LookupError" bmKey := ⟨by decide +kernel, by decide +kernel, by decide +kernel, by decide +kernel, rfl, key_pass⟩
end My
end
section
set_option Elab.async false
set_option linter.all false
set_option maxRecDepth 100000
set_option maxHeartbeats 4000000
namespace My
open PySem PySem.Spec PyProof.Rows L2
/-- a statement of a class body -/
def inCls (s : Stmt) (i : Nat) : Stmt := match s with
  | .ClassDef _ _ _ b _ _ _ _ _ _ _ => b.getD i (.Pass ⟨0, 0, 0, 0⟩)
  | _ => .Pass ⟨0, 0, 0, 0⟩
abbrev s_cls : Stmt := topS 15
abbrev s_init : Stmt := inCls s_cls 1
/-- what a font keeps -/
def fontFs (S : Str) (r : Addr) : List (Str × V) := putF "_turns" (.ref r) (putF "_signs" (.str S) [])
theorem fs_signs (S : Str) (r : Addr) : List.lookup ("_signs" : Str) (fontFs S r) = some (V.str S) := rfl
theorem fs_turns (S : Str) (r : Addr) : List.lookup ("_turns" : Str) (fontFs S r) = some (V.ref r) := rfl
/-- a font at a -/
structure FontAt (H : Hp) (C a : Addr) (S : Str) (ps : List (Nat × Nat)) : Prop where
  at_ : ∃ dx r ys, H a = some (.ins C dx (fontFs S r)) ∧ H r = some (.tup ys) ∧ PairsAt H ps ys
theorem FontAt.same {H H1 : Hp} {C a : Addr} {S : Str} {ps : List (Nat × Nat)} (s : Same H H1) (h : FontAt H C a S ps) : FontAt H1 C a S ps := by
  obtain ⟨dx, r, ys, h1, h2, h3⟩ := h.at_
  exact ⟨dx, r, ys, s _ _ h1, s _ _ h2, h3.same s⟩
def sp_init (K : PySem.W.Frag) (C : Addr) : Sp := fun vs H Q _ => ∃ (a dx p : Addr) (S : Str) (v : V) (d : PyData) (ps : List (Nat × Nat)), vs = [.ref a, .str S, v] ∧ H a = some (.ins C dx []) ∧ Rp K p H false v d ∧ fit d = true ∧ fontD (.str S) = true ∧ keptD S d = some ps ∧
  ∀ H', But a H H' → FontAt H' C a S ps → Q .non H'
section
variable {P : Program} {w : World} {K : PySem.W.Frag} {mg : Str → Option Value} {base : Heap}
theorem sc_init : FnScope ["self", "signs", "turns", "pairs"] ["self", "signs", "turns"] (defScope s_init) := ⟨rfl, rfl, rfl, by decide +kernel, rfl, by decide +kernel, by decide +kernel⟩
theorem ok_init {f fF fK C : Addr} {fd fdF fdK : FuncData} {dvs : List V} (F : FunD K "__init__" "Font.__init__" (defArgs s_init) (defBody s_init) (defScope s_init) dvs [] f fd) (c : Cls K C) (n1 : NoAttr K C "_signs") (n2 : NoAttr K C "_turns")
    (DF : Def K mg "is_font_signs" fF fdF ["value"]) (GF : FnOk P w K mg base CX0 2 fF fdF ["value"] (sp_isFont K)) (DK : Def K mg "kept_turns" fK fdK ["signs", "turns"]) (GK : FnOk P w K mg base CX0 3 fK fdK ["signs", "turns"] (sp_kept K)) :
    FnOk P w K mg base CX0 4 f fd ["self", "signs", "turns"] (sp_init K C) := by
  refine F.ok sc_init (fun vs H Q E h => ?_) (fun cdv A outer s H vs Q E hr h => ?_)
  · obtain ⟨a, dx, p, S, v, d, ps, rfl, _⟩ := h
    rfl
  · obtain ⟨a, dx, p, S, v, d, ps, rfl, ha, hd, hf, hF, hK, k⟩ := h
    have hr2 : Room 2 _ := hr.mono (by decide)
    refine ⟨_, PSs.nox (pss_cons (ps_if (pt_not (pt_val (pe_call GF hr2 rfl DF.mgf DF.kp DF.bd .nil pass0 (pa_cons (pv 1) pa_nil)))) (pss_one ps_never) pss_nil)
      (pss_cons (ps_set (i := 3) sc_init.nd rfl (Or.inl rfl) (pe_call GK hr rfl DK.mgf DK.kp DK.bd .nil pass0 (pa_cons (pv 1) (pa_cons (pv 2) pa_nil))))
      (pss_cons (ps_if (pt_cmp (pc_isN (pv 3))) (pss_one ps_never) pss_nil)
      (pss_cons (ps_fld (pv 0) (pv 1) rfl)
      (pss_one (ps_fld (pv 0) (pv 3) rfl)))))), ?_⟩
    have hlen : S.length ≤ 10 := by
      rw [fontD_str, Bool.and_eq_true, decide_eq_true_eq] at hF
      exact hF.1.2
    refine ⟨_, rfl, .str S, .str S, p, rfl, Rp.str _ S, Nat.le_trans hlen (by decide), fun H1 s1 => ⟨_, rfl, ?_⟩⟩
    rw [hF]
    refine iteF ?_
    refine ⟨_, rfl, _, rfl, S, v, d, p, rfl, hd.but (.of s1), hf, Nat.le_trans hlen (by decide), fun e => absurd (e.symm.trans hK) (by intro z; cases z), fun ps' hps H2 r ys s2 f2 h2 hP2 => ?_⟩
    rw [hK] at hps
    obtain rfl := Option.some.inj hps
    have s12 : Same H H2 := s1.trans s2
    have ha2 := s12 _ _ ha
    refine ⟨_, rfl, _, rfl, iteF ?_⟩
    refine ⟨_, rfl, _, rfl, a, C, dx, [], rfl, ha2, c, n1, by decide, ?_⟩
    have w3 : Wr H2 a (.ins C dx (putF "_signs" (.str S) [])) (upd H2 a (.ins C dx (putF "_signs" (.str S) []))) := .mk'
    generalize upd H2 a (HO.ins C dx (putF "_signs" (V.str S) [])) = H3 at w3 ⊢
    refine ⟨_, rfl, _, rfl, a, C, dx, _, rfl, w3.here, c, n2, (show 1 < 1000 by decide), ?_⟩
    have w4 : Wr H3 a (.ins C dx (putF "_turns" (.ref r) (putF "_signs" (.str S) []))) (upd H3 a (.ins C dx (putF "_turns" (.ref r) (putF "_signs" (.str S) [])))) := .mk'
    generalize upd H3 a (HO.ins C dx (putF "_turns" (V.ref r) (putF "_signs" (V.str S) []))) = H4 at w4 ⊢
    have el : ∀ {q : Addr} {xs : List V}, H2 q = some (.tup xs) → H4 q = some (.tup xs) := fun {q xs} e => by
      have ne : q ≠ a := ne_of e ha2 (by intro z; cases z)
      exact (w4.els q ne).trans ((w3.els q ne).trans e)
    refine k _ (((But.of s12).trans w3.but).trans w4.but) ⟨dx, r, ys, w4.here, el h2, Paired.map (fun e y hy => ?_) hP2⟩
    obtain ⟨q, e1, e2⟩ := hy
    exact ⟨q, e1, el e2⟩
end
end My
end
section
set_option Elab.async false
set_option linter.all false
set_option maxRecDepth 100000
set_option maxHeartbeats 4000000
/-! B9: dict comprehensions, dicts from signs to numbers, a dict that is walked. -/
namespace My
open PySem PySem.Spec PyProof.Rows L2
theorem isiN {X : Cx} {K : PySem.W.Frag} (h : X.K = K) : CallR X (.builtin "isinstance") (rIsi K) := h ▸ call_isi
theorem inSeqN {X : Cx} {K : PySem.W.Frag} (h : X.K = K) : OpR X (compareOp .In) (rIn K false) := h ▸ op_in_seq
theorem pe_fldN {X : Cx} {K : PySem.W.Frag} {e : Expr} {f : Str} {pos : Pos} {te : TE} (h : X.K = K) (he : PE X e te) (hb : attributeBase e f X.env (eval e X.env) = eval e X.env) : PE X (.Attribute e f pos) (tFld K te f) := h ▸ pe_fld he hb
/-- a comprehension of a dict over it: Pv by the turn and the heap (the new dict at D within) -/
theorem dc_it {J : It} {n : Nat} {G : Hp → Prop} {Y : Nat → Hp → V → Hp → Prop} (w : Walk J n G Y) {g : TG} {tt : TT} {tk tv : TE} {vs : List Nat} {σ : L2.St} {H1 : Hp} {D : Addr} {Qd : Hp → Prop} (Pv : Nat → Hp → Prop) (h0 : Pv 0 (upd H1 D (.dK []))) (hG : ∀ i H, i ≤ n → Pv i H → G H)
    (hs : ∀ i x H H', i < n → Pv i H → Y i H x H' → g x (wipe σ vs) H' fun σ2 H2 => wipe σ2 vs = wipe σ vs ∧ tt σ2 H2 fun b H3 =>
      if b = true then tk σ2 H3 fun y H4 => tv σ2 H4 fun z H5 => ∃ kvs k, y = kV k ∧ H5 D = some (.dK kvs) ∧ kvs.length < sizeLine ∧ Pv (i + 1) (upd H5 D (.dK (putK kvs k z))) else Pv (i + 1) H3) (hd : ∀ H, Pv n H → Qd H) :
    ∃ W : Nat → Nat → Hp → Prop, (∃ m, W 0 m (upd H1 D (.dK []))) ∧ ∀ j m H, W j m H →
      (J.stop j H ∧ Qd H) ∨ (J.go j H ∧ ∃ Nx : Hp → Prop, (∀ H', Nx H' → ∃ m', m' < m ∧ W (j + 1) m' H') ∧ ∀ x H', J.yld j H x H' → g x (wipe σ vs) H' fun σ2 H2 => wipe σ2 vs = wipe σ vs ∧ tt σ2 H2 fun b H3 =>
        if b = true then tk σ2 H3 fun y H4 => tv σ2 H4 fun z H5 => ∃ kvs k, y = kV k ∧ H5 D = some (.dK kvs) ∧ kvs.length < sizeLine ∧ Nx (upd H5 D (.dK (putK kvs k z))) else Nx H3) := by
  refine ⟨fun i m H => m = n - i ∧ i ≤ n ∧ Pv i H, ⟨n, by simp, Nat.zero_le _, h0⟩, ?_⟩
  rintro i m H ⟨rfl, hi, p⟩
  have q := hG i H hi p
  by_cases hlt : i < n
  · exact .inr ⟨w.goes i H hlt q, Pv (i + 1), fun H' p' => ⟨n - (i + 1), by omega, rfl, hlt, p'⟩, fun x H' y => hs i x H H' hlt p (w.yields i H x H' hlt q y)⟩
  · have e : i = n := by omega
    subst e
    exact .inl ⟨w.stops H q, hd H p⟩
theorem putK_new {kvs : List (Key × V)} {k : Key} {v : V} (h : k ∉ kvs.map (·.1)) : putK kvs k v = kvs ++ [(k, v)] := by
  unfold putK
  have e : (kvs.any fun kv => decide (kv.1 = k)) = false := by
    rw [List.any_eq_false]
    intro x hx hk
    exact h (List.mem_map.mpr ⟨x, hx, of_decide_eq_true hk⟩)
  rw [e]
  rfl
/-- what a dict comprehension over l makes: parts and tests change nothing that is tracked -/
theorem dc_map {α : Type} {J : It} {xs : List V} {G : Hp → Prop} (w : Walk J xs.length G (YAt xs)) (l : List α) (hl : l.length = xs.length) {i : Nat} {tt : TT} {tk tv : TE} {vs : List Nat} {σ : L2.St} {H1 : Hp} {D : Addr} {Qd : Hp → Prop} (p : α → Bool) (key : α → Key) (val : α → V) (nd : (l.map key).Nodup)
    (free : H1 D = none) (hG : ∀ H', Same H1 H' → G H') (small : xs.length < sizeLine) (hw : ∀ x, wipe ((wipe σ vs).set i (some x)) vs = wipe σ vs)
    (ht : ∀ (j : Nat) x a H' (C : Bool → Hp → Prop), xs[j]? = some x → l[j]? = some a → Same H1 H' → (∀ H3, Same H' H3 → C (p a) H3) → tt ((wipe σ vs).set i (some x)) H' C)
    (hk : ∀ (j : Nat) x a H' (C : VK), xs[j]? = some x → l[j]? = some a → p a = true → Same H1 H' → (∀ H4, Same H' H4 → C (kV (key a)) H4) → tk ((wipe σ vs).set i (some x)) H' C)
    (hv : ∀ (j : Nat) x a H' (C : VK), xs[j]? = some x → l[j]? = some a → p a = true → Same H1 H' → (∀ H4, Same H' H4 → C (val a) H4) → tv ((wipe σ vs).set i (some x)) H' C)
    (hd : ∀ H', Same H1 H' → H' D = some (.dK ((l.filter p).map fun a => (key a, val a))) → Qd H') :
    ∃ W : Nat → Nat → Hp → Prop, (∃ m, W 0 m (upd H1 D (.dK []))) ∧ ∀ j m H, W j m H →
      (J.stop j H ∧ Qd H) ∨ (J.go j H ∧ ∃ Nx : Hp → Prop, (∀ H', Nx H' → ∃ m', m' < m ∧ W (j + 1) m' H') ∧ ∀ x H', J.yld j H x H' → gName i x (wipe σ vs) H' fun σ2 H2 => wipe σ2 vs = wipe σ vs ∧ tt σ2 H2 fun b H3 =>
        if b = true then tk σ2 H3 fun y H4 => tv σ2 H4 fun z H5 => ∃ kvs k, y = kV k ∧ H5 D = some (.dK kvs) ∧ kvs.length < sizeLine ∧ Nx (upd H5 D (.dK (putK kvs k z))) else Nx H3) := by
  refine dc_it w (fun j H' => Same H1 H' ∧ H' D = some (.dK (((l.take j).filter p).map fun a => (key a, val a)))) ⟨Same.wr (Same.refl H1) free .mk', by simp [upd_same]⟩ (fun j H' _ q => hG H' q.1) ?_ ?_
  · rintro j x H2 H3 hj ⟨s, hD⟩ ⟨rfl, hx⟩
    have hjl : j < l.length := by omega
    obtain ⟨a, ha⟩ : ∃ a, l[j]? = some a := ⟨l[j], by simp [hjl]⟩
    have nx : l.take (j + 1) = l.take j ++ [a] := by
      rw [List.take_add_one, ha]
      rfl
    refine ⟨hw x, ht j x a H3 _ hx ha s fun H4 s4 => ?_⟩
    have hD4 := s4 _ _ hD
    cases hpa : p a with
    | true =>
      rw [if_pos rfl]
      refine hk j x a H4 _ hx ha hpa (s.trans s4) fun H5 s5 => hv j x a H5 _ hx ha hpa ((s.trans s4).trans s5) fun H6 s6 => ?_
      have hD6 := s6 _ _ (s5 _ _ hD4)
      refine ⟨_, key a, rfl, hD6, ?_, Same.wr (((s.trans s4).trans s5).trans s6) free .mk', ?_⟩
      · rw [List.length_map]
        have h1 : ((l.take j).filter p).length ≤ (l.take j).length := List.length_filter_le _ _
        have h2 : (l.take j).length ≤ l.length := by rw [List.length_take]; omega
        omega
      · rw [upd_same, nx, List.filter_append, List.map_append]
        have e : [a].filter p = [a] := by simp [hpa]
        rw [e]
        refine congrArg (fun z => some (HO.dK z)) (putK_new ?_)
        rw [List.map_map]
        intro hm
        obtain ⟨b, hb, eb⟩ := List.mem_map.mp hm
        have hb : b ∈ l.take j := (List.mem_filter.mp hb).1
        obtain ⟨i', hi'⟩ := List.mem_iff_getElem?.mp hb
        rw [List.getElem?_take] at hi'
        split at hi'
        · rename_i hlt
          have h1 : (l.map key)[i']? = some (key b) := by rw [List.getElem?_map, hi']; rfl
          have h2 : (l.map key)[j]? = some (key a) := by rw [List.getElem?_map, ha]; rfl
          have hlen : j < (l.map key).length := by rw [List.length_map]; exact hjl
          have eb : key b = key a := eb
          rw [← eb] at h2
          have := (List.getElem?_inj (Nat.lt_trans hlt hlen) nd).mp (h1.trans h2.symm)
          omega
        · cases hi'
    | false =>
      rw [if_neg Bool.false_ne_true]
      refine ⟨s.trans s4, ?_⟩
      rw [hD4, nx, List.filter_append]
      simp [hpa]
  · rintro H' ⟨s, hD⟩
    rw [← hl, List.take_length] at hD
    exact hd H' s hD
/-! ### a dict that is walked -/
theorem unlock {H H' : Hp} {d : Addr} {od : Obj} {u : HO} (h : H d = some u) (s : Same (upd H d (.frz od u)) H') : Same H (upd H' d u) := fun b o e => by
  by_cases q : b = d
  · subst q
    rw [h] at e
    rw [upd_same, e]
  · rw [upd_ne q]
    refine s b o ?_
    rw [upd_ne q]
    exact e
theorem locked {H : Hp} {d : Addr} {od : Obj} {u : HO} : (upd H d (.frz od u)) d = some (.frz od u) := upd_same
theorem lock_els {H : Hp} {d b : Addr} {od : Obj} {u : HO} (q : b ≠ d) : (upd H d (.frz od u)) b = H b := upd_ne q
theorem walk_ks {d : Addr} {o : Obj} {kvs : List (Key × V)} : Walk (Itk d o kvs) (kvs.map fun e => kV e.1).length (fun H => H d = some (.frz o (.dK kvs))) (YAt (kvs.map fun e => kV e.1)) := by
  rw [List.length_map]
  refine walk_keys.mono (fun _ h => h) fun i H x H' _ _ y => ?_
  obtain ⟨e, k, v, h1, h2⟩ := y
  refine ⟨e, ?_⟩
  rw [List.getElem?_map, h1, h2]
  rfl
/-! ### dicts from signs to numbers -/
def toC (h : List (Nat × Int)) : List (Key × V) := h.map fun e => (Sum.inr ⟨#[e.1]⟩, .int e.2)
def cntOf (h : List (Nat × Int)) (a : Nat) : Option Int := (h.find? fun e => decide (e.1 = a)).map (·.2)
theorem valV_toC (h : List (Nat × Int)) (a : Nat) : valV (toC h) (Sum.inr ⟨#[a]⟩ : Key) = (cntOf h a).map V.int := by
  induction h with
  | nil => rfl
  | cons e h ih =>
    by_cases q : e.1 = a
    · have e1 : valV (toC (e :: h)) (Sum.inr ⟨#[a]⟩ : Key) = some (.int e.2) := valV_pos (keyS_inj.mpr q)
      rw [e1]
      simp [cntOf, q]
    · have e1 : valV (toC (e :: h)) (Sum.inr ⟨#[a]⟩ : Key) = valV (toC h) (Sum.inr ⟨#[a]⟩ : Key) := valV_neg (fun z => q (keyS_inj.mp z))
      rw [e1, ih]
      simp [cntOf, q]
theorem dget_toC {H : Hp} {p : Addr} {h : List (Nat × Int)} (a : Nat) (e : H p = some (.dK (toC h))) : DGet H p (sg a) ((cntOf h a).map V.int) := by
  rw [← valV_toC]
  exact DGet.k (k := Sum.inr ⟨#[a]⟩) e
theorem dget_frz {H : Hp} {p : Addr} {o : Obj} {h : List (Nat × Int)} (a : Nat) (e : H p = some (.frz o (.dK (toC h)))) : DGet H p (sg a) ((cntOf h a).map V.int) := by
  rw [← valV_toC]
  exact .inl ⟨toC h, Sum.inr ⟨#[a]⟩, .inr ⟨o, e⟩, rfl, rfl⟩
/-- the counts f of these signs -/
def cts (l : List Nat) (f : Nat → Int) : List (Nat × Int) := l.map fun c => (c, f c)
theorem cts_at {l : List Nat} {f : Nat → Int} {c : Nat} (h : c ∈ l) : cntOf (cts l f) c = some (f c) := by
  induction l with
  | nil => cases h
  | cons a l ih =>
    by_cases q : a = c
    · subst q
      simp [cntOf, cts]
    · have hc : c ∈ l := (List.mem_cons.mp h).resolve_left (fun z => q z.symm)
      have e : cntOf (cts (a :: l) f) c = cntOf (cts l f) c := by simp [cntOf, cts, q]
      rw [e, ih hc]
theorem cts_no {l : List Nat} {f : Nat → Int} {c : Nat} (h : c ∉ l) : cntOf (cts l f) c = none := by
  induction l with
  | nil => rfl
  | cons a l ih =>
    have q : a ≠ c := fun z => h (z ▸ List.mem_cons_self)
    have e : cntOf (cts (a :: l) f) c = cntOf (cts l f) c := by simp [cntOf, cts, q]
    rw [e, ih fun z => h (List.mem_cons_of_mem _ z)]
theorem toC_keys (h : List (Nat × Int)) : (toC h).map (·.1) = h.map fun e => (Sum.inr ⟨#[e.1]⟩ : Key) := by
  unfold toC
  rw [List.map_map]
  rfl
theorem toC_ks (h : List (Nat × Int)) : (toC h).map (fun e => kV e.1) = (h.map (·.1)).map sg := by
  unfold toC
  rw [List.map_map, List.map_map]
  rfl
theorem nodup_map {α β : Type} {f : α → β} (hf : ∀ a b, f a = f b → a = b) : ∀ {l : List α}, l.Nodup → (l.map f).Nodup
  | [], _ => List.nodup_nil
  | a :: l, h => by
    obtain ⟨h1, h2⟩ := List.nodup_cons.mp h
    rw [List.map_cons, List.nodup_cons]
    refine ⟨fun m => ?_, nodup_map hf h2⟩
    obtain ⟨b, hb, e⟩ := List.mem_map.mp m
    exact h1 (hf _ _ e ▸ hb)
theorem keys_nodup {l : List Nat} (nd : l.Nodup) : (l.map fun c => (Sum.inr ⟨#[c]⟩ : Key)).Nodup := nodup_map (fun _ _ e => keyS_inj.mp e) nd
/-- dict(pairs) with different keys -/
theorem mergeK_nodup {kvs : List (Key × V)} (nd : (kvs.map (·.1)).Nodup) : mergeK [] kvs = kvs := by
  have aux : ∀ (b a : List (Key × V)), ((a ++ b).map (·.1)).Nodup → mergeK a b = a ++ b := by
    intro b
    induction b with
    | nil => intro a _; rw [List.append_nil]; rfl
    | cons e b ih =>
      intro a h
      have e1 : mergeK a (e :: b) = mergeK (putK a e.1 e.2) b := rfl
      rw [List.map_append, List.nodup_append] at h
      have hne : e.1 ∉ a.map (·.1) := fun m => h.2.2 _ m e.1 List.mem_cons_self rfl
      rw [e1, putK_new hne]
      have h2 : ((a ++ [(e.1, e.2)] ++ b).map (·.1)).Nodup := by
        rw [List.append_assoc]
        show ((a ++ e :: b).map (·.1)).Nodup
        rw [List.map_append, List.nodup_append]
        exact h
      rw [ih _ h2, List.append_assoc]
      rfl
  have := aux kvs [] (by simpa using nd)
  simpa using this
end My
end
section
set_option Elab.async false
set_option linter.all false
set_option maxRecDepth 100000
set_option maxHeartbeats 4000000
/-! B11: errors over a value. -/
namespace My
open PySem PySem.Spec PyProof.Rows L2
abbrev VErr (K : PySem.W.Frag) (mg : Str → Option Value) (x qi : Str) (U fI : Addr) : Prop := ErrC K mg x "value" qi "ValueError" "ValueError.__new__" "ValueError.__init__" bmValue bmValue U fI
/-- what is told of an error over a value -/
def Err (E : XK) (U : Addr) (v : V) (H : Hp) : Prop := ∀ H' dd, Same H H' → H dd = none → H' dd = some (.xd [("value", v)]) → E (.ref U) (some dd) H'
theorem Err.at {E : XK} {U : Addr} {v : V} {H H1 : Hp} {dd : Addr} (h : Err E U v H) (s : Same H H1) (f : H1 dd = none) : E (.ref U) (some dd) (upd H1 dd (.xd [("value", v)])) := by
  have n : New H1 dd (.xd [("value", v)]) (upd H1 dd (.xd [("value", v)])) := .mk' f
  refine h _ dd (s.trans n.same) ?_ n.here
  cases e : H dd with
  | none => rfl
  | some o => have := s _ _ e; rw [f] at this; cases this
theorem Same.free {H H1 : Hp} {a : Addr} (s : Same H H1) (f : H1 a = none) : H a = none := by
  cases e : H a with
  | none => rfl
  | some o => have := s _ _ e; rw [f] at this; cases this
theorem Err.up {E : XK} {U : Addr} {v : V} {H H1 : Hp} (h : Err E U v H) (s : Same H H1) : Err E U v H1 := fun H' dd s2 f e => h H' dd (L2.Same.trans s s2) (My.Same.free s f) e
theorem passN {P : Program} {w : World} {X : Cx} : Passes (L2.CX P w) X E0 := fun _ _ _ _ _ _ _ h => by
  obtain ⟨_, _, _, _, _, _, _, _, _, _, _, _, hE⟩ := h
  exact hE.elim
/-- a wish is asked only at slots of the def's own number -/
theorem takes_len {X : Cx} {W : WX} (t : Takes X W) : Takes X (fun c d σ H => σ.length = X.N.length → W c d σ H) := fun u s' ⟨a, B, sI, pins, σ, H, cls, d, e, I, nb, up, sky, na, os, ag, w⟩ =>
  t u s' ⟨a, B, sI, pins, σ, H, cls, d, e, I, nb, up, sky, na, os, ag, w I.len⟩
theorem set_at1 {σ : L2.St} {x : Option V} (h : σ.length = 2) : (σ.set 1 x)[1]? = some x := by
  rw [List.getElem?_set_self (by omega)]
theorem cx_up {P : Program} {w : World} {K : PySem.W.Frag} {mg : Str → Option Value} {base : Heap} {k : Nat} {f : Addr} {fd : FuncData} {ps : List Str} {sp : Sp} (F : FnOk P w K mg base CX0 k f fd ps sp) : FnOk P w K mg base (L2.CX P w) k f fd ps sp := by
  refine ⟨F.len, fun A o s H args us vs Q E hr e b v q => codeAny_mono (F.run A o s H args us vs Q E hr e b v q) fun r s' hq => ?_⟩
  cases r with
  | error er => exact False.elim hq
  | ok fl => cases fl <;> exact hq
end My
end
section
set_option Elab.async false
set_option linter.all false
set_option maxRecDepth 100000
set_option maxHeartbeats 2000000
namespace My
open PySem PySem.Spec PyProof.Rows L2 LamX
/-- the heap that stands still: all but the tables and the script -/
structure Still (P : Program) (w : World) (K : PySem.W.Frag) (cs : List (Addr × Addr)) (a : Addr) (h : Heap) (H : Hp) : Prop where
  tab : ∀ p ∈ cs, H p.2 = some (.tbl #[])
  only : ∀ b u, H b = some u → (b ∈ cs.map (·.2) ∧ u = .tbl #[]) ∨ (b = a ∧ K.lookup a = none ∧ ∃ o xs, u = .frz o (.lst xs))
  ok : HOk P w H h
section
variable {P : Program} {w : World} {K : PySem.W.Frag} {mg mb : Str → Option Value} {k : Nat} {fa a : Addr} {cs : List (Addr × Addr)} {fd : FuncData} {x : Str} {sp : Sp} {s1 : Shared} {vs : List Value} {ns : List Int} {H : Hp}
abbrev emptyTab : Obj := { cls := .none, data := .fields #[] }
theorem tab_at (hT : ∀ p ∈ cs, s1.heap.get? p.2 = some emptyTab) {b : Addr} (hb : b ∈ cs.map (·.2)) : s1.heap.get? b = some emptyTab := by
  obtain ⟨p, hp, e⟩ := List.mem_map.mp hb
  exact e ▸ hT p hp
/-- what is neither a list nor an empty table stands still -/
theorem Still.free (S : Still P w K cs a s1.heap H) (hT : ∀ p ∈ cs, s1.heap.get? p.2 = some emptyTab) (ha : s1.heap.get? a = some { cls := .type "list", data := .seq vs.toArray }) {b : Addr} {o : Obj} (e : s1.heap.get? b = some o)
    (h1 : o ≠ emptyTab) (h2 : o ≠ { cls := .type "list", data := .seq vs.toArray }) : H b = none := by
  cases q : H b with
  | none => rfl
  | some u =>
    rcases S.only b u q with ⟨m, _⟩ | ⟨m, _⟩
    · rw [tab_at hT m] at e
      exact absurd (Option.some.inj e).symm h1
    · rw [m, ha] at e
      exact absurd (Option.some.inj e).symm h2
theorem still_call (S : Still P w K cs a s1.heap H) (KX : K.In s1.heap) (hns : s1.heap.Ns mainGlobals mg) (hb : s1.heap.Ns builtinsNs mb) (hbb : ∀ x : Str, x ≠ "__name__" → mb x = bootBuiltins x) (hlim : s1.heap.NoLimit) (hg : s1.gens = #[])
    (hT : ∀ p ∈ cs, s1.heap.get? p.2 = some emptyTab) (nT : ∀ p ∈ cs, K.lookup p.2 = none) (C : ∀ p ∈ cs, PySem.W.CodeHd s1.heap p.1 p.2)
    (hbm : ∃ (bm : Addr) (ob : Obj), mg "__builtins__" = some (.ref bm) ∧ bm ≠ builtinsNs ∧ s1.heap.get? bm = some ob ∧ ob.cls = .type "module" ∧ ob.dict = some builtinsNs ∧ ob.data = .plain)
    (ha : s1.heap.get? a = some { cls := .type "list", data := .seq vs.toArray }) (hr : Room k callerA) (hS : SqL K H a (ns.map V.int))
    (F : ∀ base : Heap, K.In base → base.Ns mainGlobals mg → (∀ p ∈ cs, TabB base mg p.1 p.2) → FnG P w K mg base k fa fd [x] sp) (bind1 : ∀ (s : Shared) (u : Value), BindsTo s fd ⟨[u], []⟩ [(x, u)])
    (hsp : sp [.ref a] H (fun v _ => v = .bl true) fun _ _ _ => False) :
    codeAny (model P w) callerA (.call (.ref fa) ⟨[.ref a], []⟩) (fun r s' => r = .ok (.ret (.bool true)) ∧ OldK s1.heap s'.heap ∧ s'.os = s1.os ∧ AllBare s'.gens) s1 := by
  have inB : ∀ {b : Addr} {o : Obj}, s1.heap.get? b = some o → H b = none → (hidT s1.heap H).get? b = some o := fun e n => hidT_get e n
  have dictB : ∀ {b : Addr} {m : Str → Option Value}, s1.heap.Ns b m → (hidT s1.heap H).Ns b m := by
    rintro b m ⟨o, es, ep, e, d, r⟩
    exact ⟨o, es, ep, inB e (S.free hT ha e (fun z => by rw [z] at d; cases d) fun z => by rw [z] at d; cases d), d, r⟩
  have kinB : K.In (hidT s1.heap H) := by
    intro b o e
    refine inB (KX b o e) ?_
    cases q : H b with
    | none => rfl
    | some u =>
      rcases S.only b u q with ⟨m, _⟩ | ⟨m, m2, _⟩
      · obtain ⟨p, hp, ep⟩ := List.mem_map.mp m
        have := nT p hp
        rw [ep, e] at this
        cases this
      · rw [← m, e] at m2
        cases m2
  have modB : L2.Mod K mg (hidT s1.heap H) := by
    refine ⟨kinB, dictB hns, ⟨mb, dictB hb, hbb⟩, ?_⟩
    obtain ⟨mc, h1, h2⟩ := hlim
    exact ⟨mc, dictB h1, h2⟩
  have tabB : ∀ p ∈ cs, TabB (hidT s1.heap H) mg p.1 p.2 := by
    intro p hp
    have tp := hT p hp
    constructor
    · obtain ⟨o, us, file, tf, flags, tg, inF, text, tt, e1, r1, r2, r3, r4, r5, r6, r7, r8, hne⟩ := C p hp
      refine ⟨o, us, file, tf, flags, tg, inF, text, tt, inB e1 (S.free hT ha e1 (fun z => ?_) fun z => ?_), r1, r2, r3, r4, r5, r6, r7, r8, hne⟩
      · rw [z] at r2
        cases r2
        simp at r3
      · rw [z] at r2
        cases r2
    · obtain ⟨bm, ob, b1, b2, b3, b4, b5, b6⟩ := hbm
      refine ⟨bm, ob, b1, b2, fun q => ?_, fun q => ?_, inB b3 (S.free hT ha b3 (fun z => ?_) fun z => ?_), b4, b5, b6⟩
      · obtain ⟨o, es, ep, e, hd, _⟩ := hns
        rw [q, e] at b3
        rw [Option.some.inj b3, b6] at hd
        cases hd
      · rw [q, tp] at b3
        rw [← Option.some.inj b3] at b6
        cases b6
      · rw [z] at b6
        cases b6
      · rw [z] at b6
        cases b6
    · intro z
      obtain ⟨o, es, ep, e, hd, _⟩ := hns
      rw [z, tp] at e
      rw [← Option.some.inj e] at hd
      cases hd
  have e0 : Env0 P w K mg (hidT s1.heap H) callerA [] s1 H := ⟨rfl, modB, fun b o e => of_hidT e, Nat.le_of_eq (hidT_size _ _), trivial, fun b m => absurd (show b ∈ ([] : List Addr) from m) (by simp), S.ok, .of_eq hg⟩
  refine codeAny_mono ((F _ kinB (dictB hns) tabB).goes callerA [] s1 H ⟨[.ref a], []⟩ [.ref a] [.ref a] _ _ rfl hr e0 (bind1 s1 (.ref a)) (.cons rfl .nil) hsp) ?_
  intro r s' hq
  match r, hq with
  | .error e, hq => exact hq.elim
  | .ok .next, hq => exact hq.elim
  | .ok .brk, hq => exact hq.elim
  | .ok .cont, hq => exact hq.elim
  | .ok (.ret u), hq =>
    obtain ⟨v, H', os, bare, un, ok', rv, q⟩ := hq
    have q : v = .bl true := q
    subst q
    obtain rfl : u = Value.bool true := rv
    have nof : ∀ b : Addr, b ∉ frs [] := fun b m => absurd (show b ∈ ([] : List Addr) from m) (by simp)
    have stay : ∀ b o, b ∉ cs.map (·.2) → s1.heap.get? b = some o → s'.heap.get? b = some o := by
      intro b o nb e
      cases z : H b with
      | none => exact un.keep b o e z (nof b) (by simp)
      | some u =>
        rcases S.only b u z with ⟨m, _⟩ | ⟨_, _, ob, xs, rfl⟩
        · exact absurd m nb
        · have z2 := un.frzs b ob _ z
          have e1 := (S.ok b _ z).1
          have e2 := (ok' b _ z2).1
          rw [e1] at e
          exact Option.some.inj e ▸ e2
    have grow : ∀ p ∈ cs, ∃ more : Array Value, s'.heap.get? p.2 = some { cls := .none, data := .fields more } := by
      intro p hp
      obtain ⟨more, z⟩ := un.tbls p.2 #[] (S.tab p hp)
      exact ⟨_, ok' p.2 _ z⟩
    refine ⟨rfl, ⟨fun b o e => ?_, fun b o e => ?_⟩, os, bare⟩
    · by_cases hb : b ∈ cs.map (·.2)
      · obtain ⟨p, hp, ep⟩ := List.mem_map.mp hb
        obtain ⟨more, hm⟩ := grow p hp
        subst ep
        have eo : o = emptyTab := by
          rw [hT p hp] at e
          exact (Option.some.inj e).symm
        subst eo
        exact .inr (.inl ⟨((C p hp).tab (hT p hp)).isCodeTable, rfl, #[], more, rfl, by rw [Array.empty_append]; exact hm⟩)
      · exact .inl (stay b o hb e)
    · by_cases hb : b ∈ cs.map (·.2)
      · obtain ⟨p, hp, ep⟩ := List.mem_map.mp hb
        obtain ⟨more, hm⟩ := grow p hp
        exact ⟨_, ep ▸ hm⟩
      · exact ⟨o, stay b o hb e⟩
theorem law_callG (KX : K.In s1.heap) (hns : s1.heap.Ns mainGlobals mg) (hb : s1.heap.Ns builtinsNs mb) (hbb : ∀ x : Str, x ≠ "__name__" → mb x = bootBuiltins x) (hlim : s1.heap.NoLimit) (hg : s1.gens = #[])
    (hT : ∀ p ∈ cs, s1.heap.get? p.2 = some emptyTab) (nT : ∀ p ∈ cs, K.lookup p.2 = none) (C : ∀ p ∈ cs, PySem.W.CodeHd s1.heap p.1 p.2)
    (hbm : ∃ (bm : Addr) (ob : Obj), mg "__builtins__" = some (.ref bm) ∧ bm ≠ builtinsNs ∧ s1.heap.get? bm = some ob ∧ ob.cls = .type "module" ∧ ob.dict = some builtinsNs ∧ ob.data = .plain)
    (ha : s1.heap.get? a = some { cls := .type "list", data := .seq vs.toArray }) (hi : IntsAre vs ns) (hl : ns.length ≤ sizeLine) (hr : Room k callerA)
    (F : ∀ base : Heap, K.In base → base.Ns mainGlobals mg → (∀ p ∈ cs, TabB base mg p.1 p.2) → FnG P w K mg base k fa fd [x] sp) (bind1 : ∀ (s : Shared) (u : Value), BindsTo s fd ⟨[u], []⟩ [(x, u)])
    (hsp : ∀ H : Hp, (∀ p ∈ cs, H p.2 = some (.tbl #[])) → SqL K H a (ns.map V.int) → sp [.ref a] H (fun v _ => v = .bl true) fun _ _ _ => False) :
    codeAny (model P w) callerA (.call (.ref fa) ⟨[.ref a], []⟩) (fun r s' => r = .ok (.ret (.bool true)) ∧ OldK s1.heap s'.heap ∧ s'.os = s1.os ∧ AllBare s'.gens) s1 := by
  have rel := vals_ints hi
  have lenV := hi.length
  have aT : a ∉ cs.map (·.2) := by
    intro m
    have z := tab_at hT m
    rw [ha] at z
    cases z
  have mem : ∀ p ∈ cs, p.2 ∈ cs.map (·.2) := fun p hp => List.mem_map.mpr ⟨p, hp, rfl⟩
  by_cases hk : K.lookup a = none
  · let H0 : Hp := fun b => if b = a then some (.frz { cls := .type "list", data := .seq vs.toArray } (.lst (ns.map V.int))) else if b ∈ cs.map (·.2) then some (.tbl #[]) else none
    have atA : H0 a = some (.frz { cls := .type "list", data := .seq vs.toArray } (.lst (ns.map V.int))) := if_pos rfl
    have atT : ∀ p ∈ cs, H0 p.2 = some (.tbl #[]) := fun p hp => (if_neg (show ¬ p.2 = a from fun e => aT (e ▸ mem p hp))).trans (if_pos (mem p hp))
    have S : Still P w K cs a s1.heap H0 := by
      refine ⟨atT, fun b u e => ?_, fun b u e => ?_⟩
      · by_cases q : b = a
        · subst q
          rw [atA] at e
          exact .inr ⟨rfl, hk, _, _, (Option.some.inj e).symm⟩
        · have e2 : H0 b = if b ∈ cs.map (·.2) then some (.tbl #[]) else none := if_neg q
          rw [e2] at e
          by_cases m : b ∈ cs.map (·.2)
          · rw [if_pos m] at e
            exact .inl ⟨m, (Option.some.inj e).symm⟩
          · rw [if_neg m] at e
            cases e
      · by_cases q : b = a
        · subst q
          rw [atA] at e
          obtain rfl := Option.some.inj e
          exact ⟨ha, by rw [List.length_map]; exact hl, vs, _, rel, ha⟩
        · have e2 : H0 b = if b ∈ cs.map (·.2) then some (.tbl #[]) else none := if_neg q
          rw [e2] at e
          by_cases m : b ∈ cs.map (·.2)
          · rw [if_pos m] at e
            obtain rfl := Option.some.inj e
            exact tab_at hT m
          · rw [if_neg m] at e
            cases e
    have hS : SqL K H0 a (ns.map V.int) := .inl (.inr ⟨_, atA⟩)
    exact still_call S KX hns hb hbb hlim hg hT nT C hbm ha hr hS F bind1 (hsp H0 atT hS)
  · obtain ⟨o, ho⟩ := Option.ne_none_iff_exists'.mp hk
    have eo := KX a o ho
    rw [ha] at eo
    obtain rfl := Option.some.inj eo
    let H0 : Hp := fun b => if b ∈ cs.map (·.2) then some (.tbl #[]) else none
    have atT : ∀ p ∈ cs, H0 p.2 = some (.tbl #[]) := fun p hp => if_pos (mem p hp)
    have S : Still P w K cs a s1.heap H0 := by
      refine ⟨atT, fun b u e => ?_, fun b u e => ?_⟩
      · by_cases m : b ∈ cs.map (·.2)
        · rw [show H0 b = some (.tbl #[]) from if_pos m] at e
          exact .inl ⟨m, (Option.some.inj e).symm⟩
        · rw [show H0 b = none from if_neg m] at e
          cases e
      · by_cases m : b ∈ cs.map (·.2)
        · rw [show H0 b = some (.tbl #[]) from if_pos m] at e
          obtain rfl := Option.some.inj e
          exact tab_at hT m
        · rw [show H0 b = none from if_neg m] at e
          cases e
    have hS : SqL K H0 a (ns.map V.int) := .inr ⟨_, vs.toArray, _, ho, rfl, rfl, rfl, by rw [List.size_toArray, lenV]; exact hl, by simpa using rel⟩
    exact still_call S KX hns hb hbb hlim hg hT nT C hbm ha hr hS F bind1 (hsp H0 atT hS)
end
/-- what the head's heap tells of the law -/
def LawG (l : PySem.W.OpenLaw) (w : World) (K : PySem.W.Frag) (k n : Nat) (x : Str) (mg : Str → Option Value) (fa : Addr) (h : Heap) : Prop :=
  ∃ (fd : FuncData) (cs : List (Addr × Addr)) (sp : Sp), (∀ p ∈ cs, h.get? p.2 = some emptyTab) ∧ (∀ p ∈ cs, K.lookup p.2 = none) ∧ (∀ p ∈ cs, PySem.W.CodeHd h p.1 p.2) ∧ (∀ (s : Shared) (u : Value), BindsTo s fd ⟨[u], []⟩ [(x, u)]) ∧
    (∀ (H : Hp) (a : Addr) (ns : List Int), ns.length ≤ n → (∀ z ∈ ns, Builtin.Int.intBits z ≤ 1048576) → (∀ p ∈ cs, H p.2 = some (.tbl #[])) → SqL K H a (ns.map V.int) → sp [.ref a] H (fun v _ => v = .bl true) fun _ _ _ => False) ∧
    ∀ base : Heap, K.In base → base.Ns mainGlobals mg → (∀ p ∈ cs, TabB base mg p.1 p.2) → FnG l.prog w K mg base k fa fd [x] sp
theorem walkG {l : PySem.W.OpenLaw} {n k : Nat} {q : Program} {loose : List Str} {XP : (Str → Option Value) → Heap → Prop} {YP : World → Heap → Prop} {d : DefRec} {K : Params → PySem.W.Frag} {x : Str}
    (hn : l.most = some n) (hn2 : n ≤ sizeLine) (hdf : d.params.defaults = []) (hr : Room k callerA) (hY : ∀ (w : World) (h : Heap), YP w h → (K w.params).In h)
    (F : ∀ (w : World) (mg : Str → Option Value) (fa : Addr) (h : Heap), YP w h → (K w.params).In h → h.Ns mainGlobals mg → mg d.name = some (.ref fa) → LawG l w (K w.params) k n x mg fa h) :
    PySem.W.WalkO q loose XP YP l.row.toRowW d [] (fun f vs => PySem.call f vs) := by
  apply Att.attach_callB hn hdf
  intro w s0 s1 mg mb fa o pm cd doc a vs ns G Y ho hd hcd hmg hobj hints hlen hbits hg
  have KX := hY w _ Y
  obtain ⟨fd, cs, sp, hT, nT, C, hb, hsp, hF⟩ := F w mg fa _ Y KX G.T.g hmg
  exact law_callG KX G.T.g G.T.b G.T.builtins G.T.nolimit hg hT nT C G.T.bmain hobj hints (Nat.le_trans hlen hn2) hr hF hb fun H hH hS => hsp H a ns hlen hbits hH hS
end My
end
section
set_option Elab.async false
set_option linter.all false
set_option maxRecDepth 100000
set_option maxHeartbeats 4000000
/-! B12: pairs for dict(..); the law's own def. -/
namespace My
open PySem PySem.Spec PyProof.Rows L2
theorem pairs_refs {α : Type} {K : PySem.W.Frag} {H : Hp} {key : α → Key} {val : α → V} : ∀ {l : List α} {ys : List V}, Paired (fun a y => ∃ q, y = V.ref q ∧ H q = some (.tup [kV (key a), val a])) l ys →
    ∃ qs : List Addr, ys = qs.map V.ref ∧ Paired (fun p kv => SqT K H p [kV kv.1, kv.2]) qs (l.map fun a => (key a, val a))
  | _, _, .nil => ⟨[], rfl, .nil⟩
  | _, _, .cons ⟨q, e, h⟩ t => by
    obtain ⟨qs, e2, p⟩ := pairs_refs (K := K) t
    exact ⟨q :: qs, by rw [e, e2]; rfl, .cons (SqT.of h) p⟩
def forBody : Stmt → List Stmt
  | .For _ _ b _ _ => b
  | _ => []
def nth (l : List Stmt) (i : Nat) : Stmt := l.getD i (.Pass ⟨0, 0, 0, 0⟩)
section
variable {P : Program} {w : World} {K : PySem.W.Frag} {mg : Str → Option Value} {base : Heap}
/-- a def by its body and its code object, where no repr is under way -/
theorem okGc {x qual : Str} {st : Stmt} {f : Addr} {oc kV doc pm cdv ct : Value} {od an : Option Addr} {osl : Array (Option Value)} {N ps : List Str} {k : Nat} {sp : Sp} (lk : K.lookup f = some ⟨oc, od, .func (PySem.W.fnOf x qual (defArgs st) (defBody st) (defScope st) .none kV doc pm an cdv ct), osl⟩) (hcd : PySem.W.codeIn K cdv qual = true)
    (S : FnScope N ps (defScope st)) (size : ∀ vs H Q E, sp vs H Q E → vs.length = ps.length)
    (body : ∀ (A : Around) (o : List Env) (s : Shared) (H : Hp) (vs : List V) (Q : VK) (E : XK), (A.deeper (envOfC qual (defScope st) s.heap.objs.size f cdv)).guards = some [] → Room k (A.deeper (envOfC qual (defScope st) s.heap.objs.size f cdv)) → sp vs H Q E →
      ∃ t, PSs (cxOf CX0 P w K mg base N qual (defScope st) f cdv A o s H E).nox (defBody st) t ∧ t { nx := fun _ H' => Q .non H', rt := Q } (L2.start N vs) H) :
    FnG P w K mg base (k + 1) f (PySem.W.fnOf x qual (defArgs st) (defBody st) (defScope st) .none kV doc pm an cdv ct) ps sp := by
  constructor
  · exact size
  intro A o s H args us vs Q E g room e0 bd rel want
  have hlen := size _ _ _ _ want
  have kin := e0.mod.kin.keeps fun b ob z => (e0.bs b ob z).1
  have nolim := e0.mod.nolimit.keeps fun b ob z => (e0.bs b ob z).1
  have kinds : ∀ y ∈ ps.zip us, (defScope st).names.lookup y.1 = some .local ∨ ((defScope st).names.lookup y.1 = some .cell ∧ ((cellsFrom (s.heap.objs.size + 1) (defScope st).names []).lookup y.1).isSome = true) := by
    intro y hy
    obtain ⟨n, v⟩ := y
    cases S.par n (List.of_mem_zip hy).1 with
    | inl z => exact Or.inl z
    | inr z => exact Or.inr ⟨z, PySem.W.cellsFrom_some _ _ _ (Or.inl z)⟩
  apply codeAny_call_function room.depth (kin _ _ lk) rfl S.co S.gen rfl (PySem.W.codeRec_of kin hcd)
  apply bd
  apply wpAny_newFunctionEnv_cells S.kind kinds
  intro env henv s1 x
  subst henv
  constructor
  · exact nolim.keeps x.toInCall.keep
  apply codeAny_func
  obtain ⟨t, der, rd⟩ := body A o s H vs Q E (guards_deeper g) (room.deeper _) want
  have J : Inv (cxOf CX0 P w K mg base N qual (defScope st) f cdv A o s H E) [] (L2.start N vs) H s1 := inv_start S room.hd e0 hlen rel x
  apply wpAny_mono (der.nox.run [] s1 (L2.start N vs) H _ J rd)
  · intro fl s' hs
    cases fl with
    | ret u =>
      obtain ⟨v, σ', H', J', rv, q⟩ := hs
      exact ⟨v, H', J'.os, J'.bare, J'.base, J'.hok, rv, q⟩
    | next =>
      obtain ⟨σ', H', J', q⟩ := hs
      exact ⟨V.non, H', J'.os, J'.bare, J'.base, J'.hok, rfl, q⟩
    | brk => exact hs.choose_spec.choose_spec.2.elim
    | cont => exact hs.choose_spec.choose_spec.2.elim
  · intro e s' hs
    exact hs
end
end My
end
section
set_option Elab.async false
set_option linter.all false
set_option maxRecDepth 100000
set_option maxHeartbeats 2000000
/-! H0: a head by one kernel run, its facts told by names: K is what the heap holds at given addresses. -/
namespace My
open PySem PySem.Spec PyProof.Rows L2
def oOf (K : PySem.W.Frag) (a : Addr) : Obj := match K.lookup a with
  | some o => o
  | none => default
def fnD (K : PySem.W.Frag) (f : Addr) : FuncData := match (oOf K f).data with
  | .func fd => fd
  | _ => default
theorem oOf_eq {K : PySem.W.Frag} {a : Addr} {o : Obj} (h : K.lookup a = some o) : oOf K a = o := by
  unfold oOf
  rw [h]
theorem fnD_eq {K : PySem.W.Frag} {f : Addr} {oc : Value} {od : Option Addr} {fd : FuncData} {sl : Array (Option Value)} (h : K.lookup f = some ⟨oc, od, .func fd, sl⟩) : fnD K f = fd := by
  unfold fnD
  rw [oOf_eq h]
abbrev FnV : Type := Option (Str × Str × Arguments × FuncBody × Scope × Addr × List (Str × Addr) × Addr)
def fnV (K : PySem.W.Frag) (f : Addr) : FnV := match K.lookup f with
  | some ⟨_, _, .func fd, _⟩ => some (fd.name, fd.qualname, fd.params, fd.body, fd.scope, fd.globals, fd.closure, fd.builtins)
  | _ => none
abbrev fnW (nm q : Str) (ps : Arguments) (body : List Stmt) (sc : Scope) : FnV := some (nm, q, ps, .stmts body, sc, mainGlobals, [], builtinsNs)
theorem look_fn {K : PySem.W.Frag} {f : Addr} {nm q : Str} {ps : Arguments} {body : List Stmt} {sc : Scope} {dV kV cd : Value} (e : fnV K f = fnW nm q ps body sc) (hd : (fnD K f).defaults = dV) (hk : (fnD K f).kwdefaults = kV) (hc : (fnD K f).code = cd) :
    K.lookup f = some ⟨(oOf K f).cls, (oOf K f).dict, .func (PySem.W.fnOf nm q ps body sc dV kV (fnD K f).doc (fnD K f).pyModule (fnD K f).annotations cd (fnD K f).closureTuple), (oOf K f).slots⟩ := by
  unfold fnV at e
  cases h : K.lookup f with
  | none =>
    rw [h] at e
    cases e
  | some o =>
    obtain ⟨oc, od, dt, sl⟩ := o
    rw [h] at e
    cases dt with
    | func fd =>
      rw [fnD_eq h] at hd hk hc
      rw [oOf_eq h, fnD_eq h]
      obtain ⟨n1, n2, n3, n4, n5, n6, n7, n8, n9, n10, n11, n12, n13, n14, n15⟩ := fd
      have e2 : (some (n1, n2, n3, n4, n5, n6, n7, n15) : FnV) = some (nm, q, ps, .stmts body, sc, mainGlobals, [], builtinsNs) := e
      simp only [Option.some.injEq, Prod.mk.injEq] at e2
      obtain ⟨h1, h2, h3, h4, h5, h6, h7, h8⟩ := e2
      have hd : n8 = dV := hd
      have hk : n9 = kV := hk
      have hc : n13 = cd := hc
      subst h1 h2 h3 h4 h5 h6 h7 h8 hd hk hc
      rfl
    | _ => cases e
def refOf (v : Value) : Addr := match v with
  | .ref a => a
  | _ => 0
def seqV (K : PySem.W.Frag) (t : Addr) : Option (List Value) := match K.lookup t with
  | some ⟨_, _, .seq its _, _⟩ => some its.toList
  | _ => none
def seqN (K : PySem.W.Frag) (t : Addr) : Nat := match (oOf K t).data with
  | .seq _ n => n
  | _ => 0
/-- the i-th item of the tuple at t, if it is an object -/
def itA (K : PySem.W.Frag) (t : Addr) (i : Nat) : Addr := match seqV K t with
  | some l => refOf (l.getD i .none)
  | none => 0
theorem look_seq {K : PySem.W.Frag} {t : Addr} {vs : List Value} (e : seqV K t = some vs) : K.lookup t = some ⟨(oOf K t).cls, (oOf K t).dict, .seq vs.toArray (seqN K t), (oOf K t).slots⟩ := by
  unfold seqV at e
  cases h : K.lookup t with
  | none =>
    rw [h] at e
    cases e
  | some o =>
    obtain ⟨oc, od, dt, sl⟩ := o
    rw [h] at e
    cases dt with
    | seq its n =>
      have e2 : its.toList = vs := Option.some.inj e
      unfold seqN
      rw [oOf_eq h, ← e2]
    | _ => cases e
theorem look_seqT {K : PySem.W.Frag} {t : Addr} {vs : List Value} {c : Value} (e : seqV K t = some vs) (hc : (oOf K t).cls = c) : K.lookup t = some ⟨c, (oOf K t).dict, .seq vs.toArray (seqN K t), (oOf K t).slots⟩ := hc ▸ look_seq e
def excB (K : PySem.W.Frag) (c : Addr) (bm : List Value) (id : String) : Bool := match K.lookup c with
  | some ⟨.type t, _, .cls cd, sl⟩ => (match cd.mro, sl.toList with
    | .ref C :: b, [_, _, _, _, some (.builtin n), _] => decide (t = "type") && (decide (C = c) && (decide (b = bm) && (decide (n = id) && (cd.hasDict && !cd.hasDel))))
    | _, _ => false)
  | _ => false
theorem look_exc {K : PySem.W.Frag} {c : Addr} {bm : List Value} {id : String} (e : excB K c bm id = true) : ∃ nm q N bs sn sub ab col dd k0 k1 k2 k3 k5, K.lookup c = some (excClassObj nm q c N bs bm true sn sub ab col dd k0 k1 k2 k3 k5 id) := by
  unfold excB at e
  split at e
  · rename_i t dd cd sl ho
    split at e
    · rename_i C b k0 k1 k2 k3 n k5 hm hs
      obtain ⟨e1, e⟩ := Bool.and_eq_true_iff.mp e
      obtain ⟨e2, e⟩ := Bool.and_eq_true_iff.mp e
      obtain ⟨e3, e⟩ := Bool.and_eq_true_iff.mp e
      obtain ⟨e4, e⟩ := Bool.and_eq_true_iff.mp e
      obtain ⟨e5, e6⟩ := Bool.and_eq_true_iff.mp e
      have e1 := of_decide_eq_true e1
      have e2 := of_decide_eq_true e2
      have e3 := of_decide_eq_true e3
      have e4 := of_decide_eq_true e4
      obtain ⟨nm, bs, mro, ns, qn, hd, sn, sub, ab, col, del⟩ := cd
      dsimp only at hm e5 e6
      have e6 : del = false := by simpa using e6
      subst e1 e2 e3 e4 hm e5 e6
      have hsl : sl = #[k0, k1, k2, k3, some (.builtin n), k5] := by
        obtain ⟨l⟩ := sl
        simp only at hs
        rw [hs]
      subst hsl
      exact ⟨nm, qn, ns, bs, sn, sub, ab, col, dd, k0, k1, k2, k3, k5, ho⟩
    · cases e
  · cases e
def valB (K : PySem.W.Frag) (C : Addr) (n : Str) (i : Int) : Bool := match PySem.W.findCls K (.ref C) (.type "type") n with
  | some (.val (.int j _)) => decide (j = i)
  | _ => false
theorem look_val {K : PySem.W.Frag} {C : Addr} {n : Str} {i : Int} (e : valB K C n i = true) : ∃ t, PySem.W.findCls K (.ref C) (.type "type") n = some (.val (.int i t)) := by
  unfold valB at e
  split at e
  · rename_i j t h
    exact ⟨t, by rw [h, of_decide_eq_true e]⟩
  · cases e
def cmA (K : PySem.W.Frag) (C : Addr) (n : Str) : Addr := match PySem.W.findCls K (.ref C) (.type "type") n with
  | some (.get _ a _ _) => refOf a
  | _ => 0
def cmB (K : PySem.W.Frag) (C : Addr) (n : Str) : Bool := match PySem.W.findCls K (.ref C) (.type "type") n with
  | some (.get g (.ref _) o t) => decide (g = .builtin "classmethod.__get__") && (decide (o = .none) && decide (t = .ref C))
  | _ => false
theorem look_cm {K : PySem.W.Frag} {C : Addr} {n : Str} (e : cmB K C n = true) : PySem.W.findCls K (.ref C) (.type "type") n = some (.get (.builtin "classmethod.__get__") (.ref (cmA K C n)) .none (.ref C)) := by
  unfold cmB at e
  split at e
  · rename_i g p o t h
    obtain ⟨e1, e⟩ := Bool.and_eq_true_iff.mp e
    obtain ⟨e2, e3⟩ := Bool.and_eq_true_iff.mp e
    have e1 := of_decide_eq_true e1
    have e2 := of_decide_eq_true e2
    have e3 := of_decide_eq_true e3
    subst e1 e2 e3
    have : cmA K C n = p := by
      unfold cmA
      rw [h]
      rfl
    rw [this, h]
  · cases e
def recF (K : PySem.W.Frag) (p : Addr) (T : String) : Addr := match PySem.W.recIn K p T with
  | some (v :: _) => refOf v
  | _ => 0
def recR (K : PySem.W.Frag) (p : Addr) (T : String) : List Value := match PySem.W.recIn K p T with
  | some (_ :: r) => r
  | _ => []
def recB (K : PySem.W.Frag) (p : Addr) (T : String) : Bool := match PySem.W.recIn K p T with
  | some (.ref _ :: _) => true
  | _ => false
theorem look_rec {K : PySem.W.Frag} {p : Addr} {T : String} (e : recB K p T = true) : PySem.W.recIn K p T = some (.ref (recF K p T) :: recR K p T) := by
  unfold recB at e
  split at e
  · rename_i a r h
    have h1 : recF K p T = a := by
      unfold recF
      rw [h]
      rfl
    have h2 : recR K p T = r := by
      unfold recR
      rw [h]
    rw [h1, h2, h]
  · cases e
/-- the token of a module's number or text -/
def tokB (K : PySem.W.Frag) (x : Str) (v : V) : Bool := match v, PySem.W.nsIn K mainGlobals x with
  | .int i, some (some (.int j _)) => decide (i = j)
  | .str z, some (some (.str y _)) => decide (z = y)
  | _, _ => false
theorem look_int {K : PySem.W.Frag} {x : Str} {i : Int} (e : tokB K x (.int i) = true) : ∃ t, PySem.W.nsIn K mainGlobals x = some (some (.int i t)) := by
  unfold tokB at e
  split at e
  · rename_i z j t hz h
    cases hz
    exact ⟨t, by rw [h, of_decide_eq_true e]⟩
  · rename_i hz _
    cases hz
  · cases e
theorem look_str {K : PySem.W.Frag} {x : Str} {z : Str} (e : tokB K x (.str z) = true) : ∃ t, PySem.W.nsIn K mainGlobals x = some (some (.str z t)) := by
  unfold tokB at e
  split at e
  · rename_i hz _
    cases hz
  · rename_i z y t hz h
    cases hz
    exact ⟨t, by rw [h, of_decide_eq_true e]⟩
  · cases e
theorem look_some {α : Type} {o : Option α} (e : o.isSome = true) : ∃ x, o = some x := Option.isSome_iff_exists.mp e
/-- the table of a code object -/
def tabA (K : PySem.W.Frag) (c : Addr) : Addr := match (oOf K c).data with
  | .fields vs => refOf (vs.getD 11 .none)
  | _ => 0
def emptyB : Obj → Bool
  | ⟨.none, none, .fields vs, sl⟩ => vs.isEmpty && sl.isEmpty
  | _ => false
theorem emptyB_eq {o : Obj} (h : emptyB o = true) : o = emptyTab := by
  obtain ⟨oc, od, dt, sl⟩ := o
  cases oc with
  | none =>
    cases od with
    | none =>
      cases dt with
      | fields vs =>
        obtain ⟨h1, h2⟩ := Bool.and_eq_true_iff.mp (show (vs.isEmpty && sl.isEmpty) = true from h)
        rw [Array.isEmpty_iff.mp h1, Array.isEmpty_iff.mp h2]
      | _ => cases h
    | some d => cases dt <;> cases h
  | _ => cases od <;> cases dt <;> cases h
theorem frG_out {g : Addr → Option Obj} {a : Addr} : ∀ {as : List Addr}, a ∉ as → (He.frG g as).lookup a = none
  | [], _ => rfl
  | b :: r, h => by
    have hr : a ∉ r := fun z => h (List.mem_cons_of_mem _ z)
    have hb : a ≠ b := fun z => h (z ▸ List.mem_cons_self)
    have ih := frG_out (g := g) hr
    unfold He.frG at ih ⊢
    rw [List.filterMap_cons]
    cases q : g b with
    | none => exact ih
    | some o =>
      show (match a == b with | true => some o | false => _) = none
      rw [beq_eq_false_iff_ne.mpr hb]
      exact ih
/-- what is looked at: the facts, the defs, the tables -/
def obX (as : List Addr) (ts : PySem.W.Frag → List Addr) (chk : PySem.W.Frag → Bool) (fn : PySem.W.Frag → List FnV) (g : Addr → Option Obj) : Bool × List FnV :=
  (chk (He.frG g as) && (ts (He.frG g as)).all fun P => (match g P with
    | some o => emptyB o
    | none => false) && !as.contains P, fn (He.frG g as))
structure SaysH (ts : PySem.W.Frag → List Addr) (chk : PySem.W.Frag → Bool) (fn : PySem.W.Frag → List FnV) (fv : List FnV) (h : Heap) (K : PySem.W.Frag) : Prop where
  chk : chk K = true
  fn : fn K = fv
  tab : ∀ P ∈ ts K, h.get? P = some emptyTab
  out : ∀ P ∈ ts K, K.lookup P = none
def hkX (as : List Addr) (ts : PySem.W.Frag → List Addr) (chk : PySem.W.Frag → Bool) (fn : PySem.W.Frag → List FnV) (fv : List FnV) : PySem.W.Hook where
  α := Bool × List FnV
  obs := fun s => obX as ts chk fn s.heap.get?
  val := fun _ => (true, fv)
  says := fun _ h => ∃ K : PySem.W.Frag, K.In h ∧ SaysH ts chk fn fv h K
  of := fun _ s e => by
    obtain ⟨e1, e2⟩ := Prod.mk.inj e
    obtain ⟨h1, h2⟩ := Bool.and_eq_true_iff.mp e1
    have key : ∀ P ∈ ts (He.frG s.heap.get? as), (∃ o, s.heap.get? P = some o ∧ emptyB o = true) ∧ P ∉ as := fun P hP => by
      obtain ⟨a1, a2⟩ := Bool.and_eq_true_iff.mp (List.all_eq_true.mp h2 P hP)
      refine ⟨?_, ?_⟩
      · cases q : s.heap.get? P with
        | none =>
          rw [q] at a1
          cases a1
        | some o =>
          rw [q] at a1
          exact ⟨o, rfl, a1⟩
      · intro z
        rw [List.contains_iff_mem.mpr z] at a2
        cases a2
    exact ⟨_, He.frG_in, h1, e2, fun P hP => by
      obtain ⟨⟨o, q, z⟩, _⟩ := key P hP
      rw [q, emptyB_eq z], fun P hP => frG_out (key P hP).2⟩
  keeps := fun _ _ _ ⟨K, hK, c⟩ k => ⟨K, PySem.W.Frag.In.keeps hK k, c.chk, c.fn, fun P hP => k _ _ (c.tab P hP), c.out⟩
theorem obX_eq {as : List Addr} {ts : PySem.W.Frag → List Addr} {chk : PySem.W.Frag → Bool} {fn : PySem.W.Frag → List FnV} {fv : List FnV} (s : PySem.W.SharedT) : obX as ts chk fn (HandSHeadRun.getT s) = (hkX as ts chk fn fv).obs s.abs := by
  have e : HandSHeadRun.getT s = s.abs.heap.get? := funext (HandSHeadRun.getT_eq s)
  rw [e] <;> rfl
/-- as walkG, K told by the head's facts -/
theorem walkE {l : PySem.W.OpenLaw} {n k : Nat} {q : Program} {loose : List Str} {XP : (Str → Option Value) → Heap → Prop} {YP : World → Heap → Prop} {d : DefRec} {x : Str}
    (hn : l.most = some n) (hn2 : n ≤ sizeLine) (hdf : d.params.defaults = []) (hr : Room k callerA)
    (F : ∀ (w : World) (mg : Str → Option Value) (fa : Addr) (h : Heap), YP w h → h.Ns mainGlobals mg → mg d.name = some (.ref fa) → ∃ K : PySem.W.Frag, K.In h ∧ LawG l w K k n x mg fa h) :
    PySem.W.WalkO q loose XP YP l.row.toRowW d [] (fun f vs => PySem.call f vs) := by
  apply Att.attach_callB hn hdf
  intro w s0 s1 mg mb fa o pm cd doc a vs ns G Y ho hd hcd hmg hobj hints hlen hbits hg
  obtain ⟨K, KX, fd, cs, sp, hT, nT, C, hb, hsp, hF⟩ := F w mg fa _ Y G.T.g hmg
  exact law_callG KX G.T.g G.T.b G.T.builtins G.T.nolimit hg hT nT C G.T.bmain hobj hints (Nat.le_trans hlen hn2) hr hF hb fun H hH hS => hsp H a ns hlen hbits hH hS
end My
end
section
set_option Elab.async false
set_option linter.all false
set_option maxRecDepth 100000
set_option maxHeartbeats 0
namespace My
open PySem PySem.Spec PyProof.Rows L2
abbrev r_s_chk1 : Stmt := topS 26
abbrev r_s_cls : Stmt := topS 15
abbrev r_s_digs : Stmt := topS 27
abbrev r_s_draw : Stmt := topS 30
abbrev r_s_flen : Stmt := inCls r_s_cls 6
abbrev r_s_font2 : Stmt := topS 33
abbrev r_s_init : Stmt := inCls r_s_cls 1
abbrev r_s_isFont : Stmt := topS 16
abbrev r_s_isInt : Stmt := topS 3
abbrev r_s_isListed : Stmt := topS 5
abbrev r_s_isNum : Stmt := topS 4
abbrev r_s_isPair : Stmt := topS 22
abbrev r_s_isRow : Stmt := topS 19
abbrev r_s_isSet : Stmt := topS 18
abbrev r_s_isSign : Stmt := topS 17
abbrev r_s_kept : Stmt := topS 21
abbrev r_s_law : Stmt := topS 42
abbrev r_s_lisinK : Stmt := topS 39
abbrev r_s_lrow : Stmt := topS 37
abbrev r_s_lval : Stmt := topS 41
abbrev r_s_made2 : Stmt := topS 35
abbrev r_s_numof : Stmt := topS 25
abbrev r_s_oddT : Stmt := topS 36
abbrev r_s_pen : Stmt := topS 29
abbrev r_s_pick : Stmt := topS 31
abbrev r_s_refk : Stmt := topS 38
abbrev r_s_shuf : Stmt := topS 32
abbrev r_s_turns2 : Stmt := topS 34
abbrev r_s_unrk : Stmt := topS 40
abbrev r_s_writ : Stmt := topS 24
def fnRz0 : List FnV := [
  fnW "is_listed" "is_listed" (defArgs r_s_isListed) (defBody r_s_isListed) (defScope r_s_isListed),
  fnW "is_font_signs" "is_font_signs" (defArgs r_s_isFont) (defBody r_s_isFont) (defScope r_s_isFont),
  fnW "is_sign" "is_sign" (defArgs r_s_isSign) (defBody r_s_isSign) (defScope r_s_isSign),
  fnW "is_set" "is_set" (defArgs r_s_isSet) (defBody r_s_isSet) (defScope r_s_isSet),
  fnW "is_row" "is_row" (defArgs r_s_isRow) (defBody r_s_isRow) (defScope r_s_isRow),
  fnW "kept_turns" "kept_turns" (defArgs r_s_kept) (defBody r_s_kept) (defScope r_s_kept),
  fnW "_is_pair" "_is_pair" (defArgs r_s_isPair) (defBody r_s_isPair) (defScope r_s_isPair),
  fnW "is_integer" "is_integer" (defArgs r_s_isInt) (defBody r_s_isInt) (defScope r_s_isInt),
  fnW "is_number" "is_number" (defArgs r_s_isNum) (defBody r_s_isNum) (defScope r_s_isNum),
  fnW "written" "written" (defArgs r_s_writ) (defBody r_s_writ) (defScope r_s_writ),
  fnW "number_of" "number_of" (defArgs r_s_numof) (defBody r_s_numof) (defScope r_s_numof),
  fnW "_check_first" "_check_first" (defArgs r_s_chk1) (defBody r_s_chk1) (defScope r_s_chk1),
  fnW "_digits" "_digits" (defArgs r_s_digs) (defBody r_s_digs) (defScope r_s_digs),
  fnW "_law_pen" "_law_pen" (defArgs r_s_pen) (defBody r_s_pen) (defScope r_s_pen),
  fnW "_law_draw" "_law_draw" (defArgs r_s_draw) (defBody r_s_draw) (defScope r_s_draw),
  fnW "_law_pick" "_law_pick" (defArgs r_s_pick) (defBody r_s_pick) (defScope r_s_pick),
  fnW "_law_shuffled" "_law_shuffled" (defArgs r_s_shuf) (defBody r_s_shuf) (defScope r_s_shuf),
  fnW "_law_font" "_law_font" (defArgs r_s_font2) (defBody r_s_font2) (defScope r_s_font2),
  fnW "_law_turns" "_law_turns" (defArgs r_s_turns2) (defBody r_s_turns2) (defScope r_s_turns2),
  fnW "_law_made_font" "_law_made_font" (defArgs r_s_made2) (defBody r_s_made2) (defScope r_s_made2)]
def fnRz1 : List FnV := [
  fnW "_law_odd" "_law_odd" (defArgs r_s_oddT) (defBody r_s_oddT) (defScope r_s_oddT),
  fnW "_law_row" "_law_row" (defArgs r_s_lrow) (defBody r_s_lrow) (defScope r_s_lrow),
  fnW "_law_refused" "_law_refused" (defArgs r_s_refk) (defBody r_s_refk) (defScope r_s_refk),
  fnW "_law_is_in" "_law_is_in" (defArgs r_s_lisinK) (defBody r_s_lisinK) (defScope r_s_lisinK),
  fnW "_law_unread" "_law_unread" (defArgs r_s_unrk) (defBody r_s_unrk) (defScope r_s_unrk),
  fnW "_law_value" "_law_value" (defArgs r_s_lval) (defBody r_s_lval) (defScope r_s_lval),
  fnW "__init__" "Font.__init__" (defArgs r_s_init) (defBody r_s_init) (defScope r_s_init),
  fnW "__len__" "Font.__len__" (defArgs r_s_flen) (defBody r_s_flen) (defScope r_s_flen),
  fnW "signs" "Font.signs" (defArgs (inCls r_s_cls 4)) (defBody (inCls r_s_cls 4)) (defScope (inCls r_s_cls 4)),
  fnW "__init__" "InvalidNumber.__init__" (eArgs "value" ⟨33, 17, 33, 21⟩ ⟨33, 23, 33, 28⟩) (eBody "value" ⟨34, 8, 34, 12⟩ ⟨34, 8, 34, 18⟩ ⟨34, 21, 34, 26⟩ ⟨34, 8, 34, 26⟩) (eScope "value"),
  fnW "__init__" "InvalidRow.__init__" (eArgs "value" ⟨29, 17, 29, 21⟩ ⟨29, 23, 29, 28⟩) (eBody "value" ⟨30, 8, 30, 12⟩ ⟨30, 8, 30, 18⟩ ⟨30, 21, 30, 26⟩ ⟨30, 8, 30, 26⟩) (eScope "value"),
  fnW "law" "law" (defArgs r_s_law) (defBody r_s_law) (defScope r_s_law)]
def fnRA0 : List FnV := fnRz0 ++ fnRz1
def v_C (K : PySem.W.Frag) : Addr := He.ga K "Font"
def v_fLi (K : PySem.W.Frag) : Addr := He.ga K "is_listed"
def v_fFs (K : PySem.W.Frag) : Addr := He.ga K "is_font_signs"
def v_fSi (K : PySem.W.Frag) : Addr := He.ga K "is_sign"
def v_fSe (K : PySem.W.Frag) : Addr := He.ga K "is_set"
def v_fRo (K : PySem.W.Frag) : Addr := He.ga K "is_row"
def v_fKt (K : PySem.W.Frag) : Addr := He.ga K "kept_turns"
def v_fPa (K : PySem.W.Frag) : Addr := He.ga K "_is_pair"
def v_fIt (K : PySem.W.Frag) : Addr := He.ga K "is_integer"
def v_fNu (K : PySem.W.Frag) : Addr := He.ga K "is_number"
def v_tDNu (K : PySem.W.Frag) : Addr := refOf (fnD K (v_fNu K)).defaults
def v_fWr (K : PySem.W.Frag) : Addr := He.ga K "written"
def v_fNo (K : PySem.W.Frag) : Addr := He.ga K "number_of"
def v_fCk (K : PySem.W.Frag) : Addr := He.ga K "_check_first"
def v_fDg (K : PySem.W.Frag) : Addr := He.ga K "_digits"
def v_fPe (K : PySem.W.Frag) : Addr := He.ga K "_law_pen"
def v_fDr (K : PySem.W.Frag) : Addr := He.ga K "_law_draw"
def v_fPi (K : PySem.W.Frag) : Addr := He.ga K "_law_pick"
def v_fSh (K : PySem.W.Frag) : Addr := He.ga K "_law_shuffled"
def v_fFo (K : PySem.W.Frag) : Addr := He.ga K "_law_font"
def v_fTu (K : PySem.W.Frag) : Addr := He.ga K "_law_turns"
def v_fMa (K : PySem.W.Frag) : Addr := He.ga K "_law_made_font"
def v_fOd (K : PySem.W.Frag) : Addr := He.ga K "_law_odd"
def v_fLr (K : PySem.W.Frag) : Addr := He.ga K "_law_row"
def v_fRf (K : PySem.W.Frag) : Addr := He.ga K "_law_refused"
def v_fIi (K : PySem.W.Frag) : Addr := He.ga K "_law_is_in"
def v_fUr (K : PySem.W.Frag) : Addr := He.ga K "_law_unread"
def v_fLv (K : PySem.W.Frag) : Addr := He.ga K "_law_value"
def v_fInC (K : PySem.W.Frag) : Addr := He.ma K (v_C K) "__init__"
def v_tDInC (K : PySem.W.Frag) : Addr := refOf (fnD K (v_fInC K)).defaults
def v_tEInC0 (K : PySem.W.Frag) : Addr := itA K (v_tDInC K) 0
def v_fFl (K : PySem.W.Frag) : Addr := He.ma K (v_C K) "__len__"
def v_pPs (K : PySem.W.Frag) : Addr := He.ma K (v_C K) "signs"
def v_fPs (K : PySem.W.Frag) : Addr := recF K (v_pPs K) "property"
def v_IN (K : PySem.W.Frag) : Addr := He.ga K "InvalidNumber"
def v_fIN (K : PySem.W.Frag) : Addr := He.ma K (v_IN K) "__init__"
def v_IR (K : PySem.W.Frag) : Addr := He.ga K "InvalidRow"
def v_fIR (K : PySem.W.Frag) : Addr := He.ma K (v_IR K) "__init__"
def v_fLa (K : PySem.W.Frag) : Addr := He.ga K "law"
def v_cL (K : PySem.W.Frag) : Addr := refOf (fnD K (v_fLa K)).code
def v_PL (K : PySem.W.Frag) : Addr := tabA K (v_cL K)
def chk0 (K : PySem.W.Frag) : Bool :=
  decide (PySem.W.nsIn K mainGlobals "int" = some none) &&
  (decide (PySem.W.nsIn K mainGlobals "len" = some none) &&
  (decide (PySem.W.nsIn K mainGlobals "abs" = some none) &&
  (decide (PySem.W.nsIn K mainGlobals "list" = some none) &&
  (decide (PySem.W.nsIn K mainGlobals "tuple" = some none) &&
  (decide (PySem.W.nsIn K mainGlobals "str" = some none) &&
  (decide (PySem.W.nsIn K mainGlobals "set" = some none) &&
  (decide (PySem.W.nsIn K mainGlobals "all" = some none) &&
  (decide (PySem.W.nsIn K mainGlobals "isinstance" = some none) &&
  (decide (PySem.W.nsIn K mainGlobals "repr" = some none) &&
  (decide (PySem.W.nsIn K mainGlobals "range" = some none) &&
  (decide (PySem.W.nsIn K mainGlobals "bool" = some none) &&
  (decide (PySem.W.nsIn K mainGlobals "max" = some none) &&
  (decide (PySem.W.nsIn K mainGlobals "ValueError" = some none) &&
  (tokB K "ALPHABET" (.str alphabet) &&
  (tokB K "GREATEST" (.int 1000000000000000000000000000000) &&
  (decide (PySem.W.nsIn K mainGlobals "Font" = some (some (.ref (v_C K)))) &&
  ((PySem.W.plainGet K (v_C K) Str.empty) &&
  ((PySem.W.hasDictIn K (v_C K)) &&
  ((PySem.W.plainOver K (v_C K)))))))))))))))))))))
def chk1 (K : PySem.W.Frag) : Bool :=
  decide (PySem.W.findIn K (.ref (v_C K)) "__setattr__" = some (some (.builtin "object.__setattr__"))) &&
  (decide (PySem.W.findIn K (.ref (v_C K)) "_signs" = some none) &&
  (decide (PySem.W.findIn K (.ref (v_C K)) "_turns" = some none) &&
  ((PySem.W.readsIn K (v_C K) (.type "type")) &&
  (decide (PySem.W.specialIn K (.ref (v_C K)) "__getattribute__" = some (some (.builtin "type.__getattribute__"))) &&
  (decide (PySem.W.findIn K (.ref (v_C K)) "__class__" = some (some (.builtin "object.__class__"))) &&
  (decide (PySem.W.specialIn K (.builtin "object.__class__") "__get__" = some (some (.builtin "getset_descriptor.__get__"))) &&
  (decide (PySem.W.takesIn K (.builtin "object.__class__") = some true) &&
  (decide (PySem.W.mroIn K (v_C K) (.type "object") = some true) &&
  (valB K (v_C K) "MAX_SIGNS" 10 &&
  (decide (PySem.W.nsIn K mainGlobals "is_listed" = some (some (.ref (v_fLi K)))) &&
  (decide ((fnD K (v_fLi K)).defaults = .none) &&
  ((PySem.W.codeIn K ((fnD K (v_fLi K)).code) "is_listed") &&
  ((PySem.W.keepIn K (.ref (v_fLi K))) &&
  (decide (PySem.W.nsIn K mainGlobals "is_font_signs" = some (some (.ref (v_fFs K)))) &&
  (decide ((fnD K (v_fFs K)).defaults = .none) &&
  ((PySem.W.codeIn K ((fnD K (v_fFs K)).code) "is_font_signs") &&
  ((PySem.W.keepIn K (.ref (v_fFs K))) &&
  (decide (PySem.W.nsIn K mainGlobals "is_sign" = some (some (.ref (v_fSi K)))) &&
  (decide ((fnD K (v_fSi K)).defaults = .none))))))))))))))))))))
def chk2 (K : PySem.W.Frag) : Bool :=
  (PySem.W.codeIn K ((fnD K (v_fSi K)).code) "is_sign") &&
  ((PySem.W.keepIn K (.ref (v_fSi K))) &&
  (decide (PySem.W.nsIn K mainGlobals "is_set" = some (some (.ref (v_fSe K)))) &&
  (decide ((fnD K (v_fSe K)).defaults = .none) &&
  ((PySem.W.codeIn K ((fnD K (v_fSe K)).code) "is_set") &&
  ((PySem.W.keepIn K (.ref (v_fSe K))) &&
  (decide (PySem.W.nsIn K mainGlobals "is_row" = some (some (.ref (v_fRo K)))) &&
  (decide ((fnD K (v_fRo K)).defaults = .none) &&
  ((PySem.W.codeIn K ((fnD K (v_fRo K)).code) "is_row") &&
  ((PySem.W.keepIn K (.ref (v_fRo K))) &&
  (decide (PySem.W.nsIn K mainGlobals "kept_turns" = some (some (.ref (v_fKt K)))) &&
  (decide ((fnD K (v_fKt K)).defaults = .none) &&
  ((PySem.W.codeIn K ((fnD K (v_fKt K)).code) "kept_turns") &&
  ((PySem.W.keepIn K (.ref (v_fKt K))) &&
  (decide (PySem.W.nsIn K mainGlobals "_is_pair" = some (some (.ref (v_fPa K)))) &&
  (decide ((fnD K (v_fPa K)).defaults = .none) &&
  ((PySem.W.codeIn K ((fnD K (v_fPa K)).code) "_is_pair") &&
  ((PySem.W.keepIn K (.ref (v_fPa K))) &&
  (decide (PySem.W.nsIn K mainGlobals "is_integer" = some (some (.ref (v_fIt K)))) &&
  (decide ((fnD K (v_fIt K)).defaults = .none))))))))))))))))))))
def chk3 (K : PySem.W.Frag) : Bool :=
  (PySem.W.codeIn K ((fnD K (v_fIt K)).code) "is_integer") &&
  ((PySem.W.keepIn K (.ref (v_fIt K))) &&
  (decide (PySem.W.nsIn K mainGlobals "is_number" = some (some (.ref (v_fNu K)))) &&
  (decide ((fnD K (v_fNu K)).defaults = (.ref (v_tDNu K))) &&
  (decide (seqV K (v_tDNu K) = some [Value.none]) &&
  ((PySem.W.codeIn K ((fnD K (v_fNu K)).code) "is_number") &&
  ((PySem.W.keepIn K (.ref (v_fNu K))) &&
  (decide (PySem.W.nsIn K mainGlobals "written" = some (some (.ref (v_fWr K)))) &&
  (decide ((fnD K (v_fWr K)).defaults = .none) &&
  ((PySem.W.codeIn K ((fnD K (v_fWr K)).code) "written") &&
  ((PySem.W.keepIn K (.ref (v_fWr K))) &&
  (decide (PySem.W.nsIn K mainGlobals "number_of" = some (some (.ref (v_fNo K)))) &&
  (decide ((fnD K (v_fNo K)).defaults = .none) &&
  ((PySem.W.codeIn K ((fnD K (v_fNo K)).code) "number_of") &&
  ((PySem.W.keepIn K (.ref (v_fNo K))) &&
  (decide (PySem.W.nsIn K mainGlobals "_check_first" = some (some (.ref (v_fCk K)))) &&
  (decide ((fnD K (v_fCk K)).defaults = .none) &&
  ((PySem.W.codeIn K ((fnD K (v_fCk K)).code) "_check_first") &&
  ((PySem.W.keepIn K (.ref (v_fCk K))) &&
  (decide (PySem.W.nsIn K mainGlobals "_digits" = some (some (.ref (v_fDg K)))))))))))))))))))))))
def chk4 (K : PySem.W.Frag) : Bool :=
  decide ((fnD K (v_fDg K)).defaults = .none) &&
  ((PySem.W.codeIn K ((fnD K (v_fDg K)).code) "_digits") &&
  ((PySem.W.keepIn K (.ref (v_fDg K))) &&
  (decide (PySem.W.nsIn K mainGlobals "_law_pen" = some (some (.ref (v_fPe K)))) &&
  (decide ((fnD K (v_fPe K)).defaults = .none) &&
  ((PySem.W.codeIn K ((fnD K (v_fPe K)).code) "_law_pen") &&
  ((PySem.W.keepIn K (.ref (v_fPe K))) &&
  (decide (PySem.W.nsIn K mainGlobals "_law_draw" = some (some (.ref (v_fDr K)))) &&
  (decide ((fnD K (v_fDr K)).defaults = .none) &&
  ((PySem.W.codeIn K ((fnD K (v_fDr K)).code) "_law_draw") &&
  ((PySem.W.keepIn K (.ref (v_fDr K))) &&
  (decide (PySem.W.nsIn K mainGlobals "_law_pick" = some (some (.ref (v_fPi K)))) &&
  (decide ((fnD K (v_fPi K)).defaults = .none) &&
  ((PySem.W.codeIn K ((fnD K (v_fPi K)).code) "_law_pick") &&
  ((PySem.W.keepIn K (.ref (v_fPi K))) &&
  (decide (PySem.W.nsIn K mainGlobals "_law_shuffled" = some (some (.ref (v_fSh K)))) &&
  (decide ((fnD K (v_fSh K)).defaults = .none) &&
  ((PySem.W.codeIn K ((fnD K (v_fSh K)).code) "_law_shuffled") &&
  ((PySem.W.keepIn K (.ref (v_fSh K))) &&
  (decide (PySem.W.nsIn K mainGlobals "_law_font" = some (some (.ref (v_fFo K)))))))))))))))))))))))
def chk5 (K : PySem.W.Frag) : Bool :=
  decide ((fnD K (v_fFo K)).defaults = .none) &&
  ((PySem.W.codeIn K ((fnD K (v_fFo K)).code) "_law_font") &&
  ((PySem.W.keepIn K (.ref (v_fFo K))) &&
  (decide (PySem.W.nsIn K mainGlobals "_law_turns" = some (some (.ref (v_fTu K)))) &&
  (decide ((fnD K (v_fTu K)).defaults = .none) &&
  ((PySem.W.codeIn K ((fnD K (v_fTu K)).code) "_law_turns") &&
  ((PySem.W.keepIn K (.ref (v_fTu K))) &&
  (decide (PySem.W.nsIn K mainGlobals "_law_made_font" = some (some (.ref (v_fMa K)))) &&
  (decide ((fnD K (v_fMa K)).defaults = .none) &&
  ((PySem.W.codeIn K ((fnD K (v_fMa K)).code) "_law_made_font") &&
  ((PySem.W.keepIn K (.ref (v_fMa K))) &&
  (decide (PySem.W.nsIn K mainGlobals "_law_odd" = some (some (.ref (v_fOd K)))) &&
  (decide ((fnD K (v_fOd K)).defaults = .none) &&
  ((PySem.W.codeIn K ((fnD K (v_fOd K)).code) "_law_odd") &&
  ((PySem.W.keepIn K (.ref (v_fOd K))) &&
  (decide (PySem.W.nsIn K mainGlobals "_law_row" = some (some (.ref (v_fLr K)))) &&
  (decide ((fnD K (v_fLr K)).defaults = .none) &&
  ((PySem.W.codeIn K ((fnD K (v_fLr K)).code) "_law_row") &&
  ((PySem.W.keepIn K (.ref (v_fLr K))) &&
  (decide (PySem.W.nsIn K mainGlobals "_law_refused" = some (some (.ref (v_fRf K)))))))))))))))))))))))
def chk6 (K : PySem.W.Frag) : Bool :=
  decide ((fnD K (v_fRf K)).defaults = .none) &&
  ((PySem.W.codeIn K ((fnD K (v_fRf K)).code) "_law_refused") &&
  ((PySem.W.keepIn K (.ref (v_fRf K))) &&
  (decide (PySem.W.nsIn K mainGlobals "_law_is_in" = some (some (.ref (v_fIi K)))) &&
  (decide ((fnD K (v_fIi K)).defaults = .none) &&
  ((PySem.W.codeIn K ((fnD K (v_fIi K)).code) "_law_is_in") &&
  ((PySem.W.keepIn K (.ref (v_fIi K))) &&
  (decide (PySem.W.nsIn K mainGlobals "_law_unread" = some (some (.ref (v_fUr K)))) &&
  (decide ((fnD K (v_fUr K)).defaults = .none) &&
  ((PySem.W.codeIn K ((fnD K (v_fUr K)).code) "_law_unread") &&
  ((PySem.W.keepIn K (.ref (v_fUr K))) &&
  (decide (PySem.W.nsIn K mainGlobals "_law_value" = some (some (.ref (v_fLv K)))) &&
  (decide ((fnD K (v_fLv K)).defaults = .none) &&
  ((PySem.W.codeIn K ((fnD K (v_fLv K)).code) "_law_value") &&
  ((PySem.W.keepIn K (.ref (v_fLv K))) &&
  (decide (PySem.W.findIn K (.ref (v_C K)) "__init__" = some (some (.ref (v_fInC K)))) &&
  ((PySem.W.isFn K (.ref (v_fInC K))) &&
  (decide ((fnD K (v_fInC K)).defaults = (.ref (v_tDInC K))) &&
  (decide (seqV K (v_tDInC K) = some [Value.ref (v_tEInC0 K)]) &&
  (decide (seqV K (v_tEInC0 K) = some []))))))))))))))))))))
def chk7 (K : PySem.W.Frag) : Bool :=
  decide ((oOf K (v_tEInC0 K)).cls = .type "tuple") &&
  ((PySem.W.codeIn K ((fnD K (v_fInC K)).code) "Font.__init__") &&
  ((PySem.W.keepIn K (.ref (v_fInC K))) &&
  ((PySem.W.makesIn K (v_C K)) &&
  ((PySem.W.keepIn K (.ref (v_C K))) &&
  (decide (PySem.W.findIn K (.ref (v_C K)) "__len__" = some (some (.ref (v_fFl K)))) &&
  ((PySem.W.isFn K (.ref (v_fFl K))) &&
  (decide ((fnD K (v_fFl K)).defaults = .none) &&
  ((PySem.W.codeIn K ((fnD K (v_fFl K)).code) "Font.__len__") &&
  ((PySem.W.keepIn K (.ref (v_fFl K))) &&
  (decide (PySem.W.findIn K (.ref (v_C K)) "signs" = some (some (.ref (v_pPs K)))) &&
  (decide (PySem.W.specialIn K (.ref (v_pPs K)) "__get__" = some (some (.builtin "property.__get__"))) &&
  (decide (PySem.W.takesIn K (.ref (v_pPs K)) = some true) &&
  (recB K (v_pPs K) "property" &&
  (decide ((fnD K (v_fPs K)).defaults = .none) &&
  ((PySem.W.codeIn K ((fnD K (v_fPs K)).code) "Font.signs") &&
  (decide (PySem.W.nsIn K mainGlobals "InvalidNumber" = some (some (.ref (v_IN K)))) &&
  (excB K (v_IN K) bmValue "ValueError.__new__" &&
  (decide (PySem.W.findIn K (.ref (v_IN K)) "__setattr__" = some (some (.builtin "object.__setattr__"))) &&
  (decide (PySem.W.findIn K (.ref (v_IN K)) "__getattribute__" = some (some (.builtin "BaseException.__getattribute__"))))))))))))))))))))))
def chk8 (K : PySem.W.Frag) : Bool :=
  decide (PySem.W.findIn K (.ref (v_IN K)) "__getattr__" = some none) &&
  (decide (PySem.W.findIn K (.ref (v_IN K)) "value" = some none) &&
  (decide (PySem.W.findIn K (.ref (v_IN K)) "__init__" = some (some (.ref (v_fIN K)))) &&
  (decide (PySem.W.typeIn K (.ref (v_fIN K)) = some (.type "function")) &&
  (decide ((fnD K (v_fIN K)).defaults = .none) &&
  (decide ((fnD K (v_fIN K)).kwdefaults = .none) &&
  ((PySem.W.codeIn K ((fnD K (v_fIN K)).code) "InvalidNumber.__init__") &&
  ((PySem.W.keepIn K (.ref (v_IN K))) &&
  (decide (PySem.W.subIn K (.ref (v_IN K)) (.type "BaseException") = some true) &&
  (decide (PySem.W.typeIn K (.ref (v_IN K)) = some (.type "type")) &&
  ((PySem.W.hasDictIn K (v_IN K)) &&
  ((PySem.W.isClsIn K (v_IN K)) &&
  (decide (PySem.W.subIn K (.ref (v_IN K)) (.ref (v_IN K)) = some true) &&
  (decide (PySem.W.subIn K (.ref (v_IN K)) (.type "ValueError") = some true) &&
  (decide (PySem.W.nsIn K mainGlobals "InvalidRow" = some (some (.ref (v_IR K)))) &&
  (excB K (v_IR K) bmValue "ValueError.__new__" &&
  (decide (PySem.W.findIn K (.ref (v_IR K)) "__setattr__" = some (some (.builtin "object.__setattr__"))) &&
  (decide (PySem.W.findIn K (.ref (v_IR K)) "__getattribute__" = some (some (.builtin "BaseException.__getattribute__"))) &&
  (decide (PySem.W.findIn K (.ref (v_IR K)) "__getattr__" = some none) &&
  (decide (PySem.W.findIn K (.ref (v_IR K)) "value" = some none))))))))))))))))))))
def chk9 (K : PySem.W.Frag) : Bool :=
  decide (PySem.W.findIn K (.ref (v_IR K)) "__init__" = some (some (.ref (v_fIR K)))) &&
  (decide (PySem.W.typeIn K (.ref (v_fIR K)) = some (.type "function")) &&
  (decide ((fnD K (v_fIR K)).defaults = .none) &&
  (decide ((fnD K (v_fIR K)).kwdefaults = .none) &&
  ((PySem.W.codeIn K ((fnD K (v_fIR K)).code) "InvalidRow.__init__") &&
  ((PySem.W.keepIn K (.ref (v_IR K))) &&
  (decide (PySem.W.subIn K (.ref (v_IR K)) (.type "BaseException") = some true) &&
  (decide (PySem.W.typeIn K (.ref (v_IR K)) = some (.type "type")) &&
  ((PySem.W.hasDictIn K (v_IR K)) &&
  ((PySem.W.isClsIn K (v_IR K)) &&
  (decide (PySem.W.subIn K (.ref (v_IR K)) (.ref (v_IR K)) = some true) &&
  (decide (PySem.W.subIn K (.ref (v_IR K)) (.type "ValueError") = some true) &&
  (decide (PySem.W.nsIn K mainGlobals "law" = some (some (.ref (v_fLa K)))) &&
  (decide ((fnD K (v_fLa K)).defaults = .none) &&
  (decide ((fnD K (v_fLa K)).code = (.ref (v_cL K))) &&
  ((PySem.W.codeIn K (.ref (v_cL K)) "law") &&
  ((PySem.W.codeHdIn K (v_cL K) (v_PL K))))))))))))))))))
def chkA (K : PySem.W.Frag) : Bool := chk0 K && (chk1 K && (chk2 K && (chk3 K && (chk4 K && (chk5 K && (chk6 K && (chk7 K && (chk8 K && (chk9 K)))))))))
def fnL0 (K : PySem.W.Frag) : List FnV := [
  fnV K (v_fLi K),
  fnV K (v_fFs K),
  fnV K (v_fSi K),
  fnV K (v_fSe K),
  fnV K (v_fRo K),
  fnV K (v_fKt K),
  fnV K (v_fPa K),
  fnV K (v_fIt K),
  fnV K (v_fNu K),
  fnV K (v_fWr K),
  fnV K (v_fNo K),
  fnV K (v_fCk K),
  fnV K (v_fDg K),
  fnV K (v_fPe K),
  fnV K (v_fDr K),
  fnV K (v_fPi K),
  fnV K (v_fSh K),
  fnV K (v_fFo K),
  fnV K (v_fTu K),
  fnV K (v_fMa K)]
def fnL1 (K : PySem.W.Frag) : List FnV := [
  fnV K (v_fOd K),
  fnV K (v_fLr K),
  fnV K (v_fRf K),
  fnV K (v_fIi K),
  fnV K (v_fUr K),
  fnV K (v_fLv K),
  fnV K (v_fInC K),
  fnV K (v_fFl K),
  fnV K (v_fPs K),
  fnV K (v_fIN K),
  fnV K (v_fIR K),
  fnV K (v_fLa K)]
def fnLA (K : PySem.W.Frag) : List FnV := fnL0 K ++ fnL1 K
def tabsA (K : PySem.W.Frag) : List Addr := [(v_PL K)]
def as0 : List Addr := [2, 3, 15, 17, 18, 20, 21, 22, 24, 25, 27, 28, 29, 30, 32, 33, 35, 36, 37, 39, 40, 42, 43, 44, 51]
def as1 : List Addr := [53, 54, 56, 57, 58, 59, 60, 61, 64, 71, 73, 74, 76, 77, 78, 79, 80, 81, 84, 91, 93, 94, 96, 97, 98]
def as2 : List Addr := [99, 100, 101, 104, 111, 113, 114, 116, 117, 118, 119, 120, 121, 124, 131, 133, 134, 136, 137, 138, 139, 140, 141, 151, 152]
def as3 : List Addr := [153, 155, 156, 158, 159, 160, 162, 163, 165, 166, 167, 168, 169, 170, 173, 174, 175, 176, 177, 178, 180, 181, 183, 184, 185]
def as4 : List Addr := [186, 188, 189, 191, 192, 193, 194, 196, 197, 199, 200, 201, 203, 204, 206, 207, 208, 210, 211, 213, 214, 215, 217, 218, 220]
def as5 : List Addr := [221, 222, 224, 225, 227, 228, 229, 231, 232, 234, 235, 236, 237, 238, 239, 240, 243, 245, 246, 248, 249, 250, 252, 253, 255]
def as6 : List Addr := [256, 257, 260, 261, 262, 265, 266, 267, 270, 271, 272, 275, 276, 277, 280, 281, 282, 285, 286, 287, 289, 290, 292, 293, 294]
def as7 : List Addr := [296, 297, 299, 300, 301, 303, 304, 306, 307, 308, 310, 311, 313, 314, 315, 317, 318, 320, 321, 322, 324, 325, 327, 328, 329]
def as8 : List Addr := [331, 332, 334, 335, 336, 338, 339, 341, 342, 343, 345, 346, 348, 349, 350, 352, 353, 355, 356, 357, 359, 360, 362, 363, 364]
def as9 : List Addr := [366, 367, 369, 370, 371, 373, 374, 376, 377, 378, 380, 381, 383, 384, 385, 387, 388, 390, 391, 392, 394, 395, 397, 398, 399]
def as10 : List Addr := [402, 403]
def asA : List Addr := as0 ++ (as1 ++ (as2 ++ (as3 ++ (as4 ++ (as5 ++ (as6 ++ (as7 ++ (as8 ++ (as9 ++ (as10))))))))))
def nam0 : List Str := ["_wall", "GREATEST", "is_integer", "is_number", "is_listed", "InvalidFont", "InvalidTurns", "InvalidKind", "InvalidRow", "InvalidNumber", "ALPHABET", "BLANK", "Font", "is_font_signs", "is_sign", "is_set", "is_row", "is_kind", "kept_turns", "_is_pair"]
def nam1 : List Str := ["written", "number_of", "_check_first", "_digits", "_law_pen", "_law_draw", "_law_pick", "_law_shuffled", "_law_font", "_law_turns", "_law_made_font", "_law_odd", "_law_row", "_law_refused", "_law_is_in", "_law_unread", "_law_value"]
def namA : List Str := nam0 ++ (nam1)
abbrev hR : PySem.W.OpenRow := PySem.W.OpenLaw.row PySem.Challenge.rw_hymnplates_k73_numbers_written_and_read
abbrev hV : Program := PySem.W.view hR.prog [42]
def hO (s : PySem.W.SharedT) : Bool × List FnV := obX asA tabsA chkA fnLA (HandSHeadRun.getT s)
theorem hrun0 (w : World) : HandSHeadRun.RunEq hR hV (hkX asA tabsA chkA fnLA fnRA0) hO 20000 namA w := by
  intro os
  kernel_rfl
end My
end
section
set_option Elab.async false
set_option linter.all false
set_option maxRecDepth 100000
set_option maxHeartbeats 4000000
namespace My
open PySem PySem.Spec PyProof.Rows L2
/-! ### len(x), v in x, v not in x, x of an own class -/
/-- the class has the name as a def at f -/
structure Own (K : PySem.W.Frag) (C : Addr) (m : Str) (f : Addr) : Prop where
  at_ : PySem.W.findIn K (.ref C) m = some (some (.ref f))
  fn : PySem.W.isFn K (.ref f) = true
section
variable {X : Cx} {k : Nat} {C f : Addr} {fd : FuncData} {sp : Sp}
/-- len(x) -/
def qLenO (C : Addr) (sp : Sp) : List V → Hp → VK → Prop := fun xs H Q => ∃ a dx fs, xs = [.ref a] ∧ H a = some (.ins C dx fs) ∧ sp [.ref a] H (fun v H' => ∃ n : Nat, v = .int n ∧ n < 2 ^ 60 ∧ Q (.int n) H') E0
theorem call_lenO (O : Own X.K C "__len__" f) (F : FnOk X.prog X.w X.K X.mg X.base CX0 k f fd ["self"] sp) (hr : Room (k + 1) X.A) (hb : Binds X.K fd ["self"] []) : CallR X (.builtin "len") (qLenO C sp) := by
  intro pins s σ H xs us Q I r h
  obtain ⟨a, dx, fs, rfl, ea, q⟩ := h
  obtain ⟨u, rfl, rx⟩ := vals1 r
  obtain rfl : u = Value.ref a := rx
  obtain ⟨mA, od0, _, _, _, _⟩ := ins_get I.hok ea
  obtain ⟨od, J, _⟩ := od0.look
  obtain ⟨m, fr⟩ := I.fr
  refine PySem.W.len_K fr I.ok.mod.kin J O.at_ O.fn (wpAny_call ?_)
  refine codeAny_mono (F.run X.A.in1 X.stack s H ⟨[.ref a], []⟩ [.ref a] [.ref a] _ _ hr.in1 I.env0.in1 (hb _ [.ref a] I.kIn rfl) (.cons rfl .nil) q) fun r s' hq => ?_
  cases r with
  | error er => exact False.elim hq
  | ok fl =>
    cases fl with
    | ret u =>
      obtain ⟨v, H', I3, rv, n, ev, hn, q3⟩ := I.after hq
      subst ev
      obtain ⟨t, rfl⟩ := rv
      exact ⟨⟨by omega, by omega⟩, .int n, H', I3.tok _, ⟨_, rfl⟩, q3⟩
    | next => exact False.elim hq
    | brk => exact False.elim hq
    | cont => exact False.elim hq
/-- v in x -/
def qInO (C : Addr) (sp : Sp) (neg : Bool) : R2 := fun y x H Q => ∃ a dx fs, x = .ref a ∧ H a = some (.ins C dx fs) ∧ sp [.ref a, y] H (fun v H' => ∃ b : Bool, v = .bl b ∧ Q (.bl (if neg then !b else b)) H') E0
variable {it : Str}
theorem op_inO (O : Own X.K C "__contains__" f) (F : FnOk X.prog X.w X.K X.mg X.base CX0 k f fd ["self", it] sp) (hr : Room k X.A) (hb : Binds X.K fd ["self", it] []) : OpR X (compareOp .In) (qInO C sp false) := by
  intro pins s σ H y x v u Q I ry rx h
  obtain ⟨a, dx, fs, rfl, ea, q⟩ := h
  obtain rfl : u = Value.ref a := rx
  obtain ⟨mA, od0, _, _, _, _⟩ := ins_get I.hok ea
  obtain ⟨od, J, _⟩ := od0.look
  obtain ⟨m, fr⟩ := I.fr
  refine PySem.W.in_K fr I.ok.mod.kin J O.at_ O.fn (wpAny_call ?_)
  refine codeAny_mono (F.run X.A X.stack s H ⟨[.ref a, v], []⟩ [.ref a, v] [.ref a, y] _ _ hr I.env0 (hb _ [.ref a, v] I.kIn rfl) (.cons rfl (.cons ry .nil)) q) fun r s' hq => ?_
  cases r with
  | error er => exact False.elim hq
  | ok fl =>
    cases fl with
    | ret u =>
      obtain ⟨z, H', I3, rv, b, ev, q3⟩ := I.after hq
      subst ev
      obtain rfl : u = Value.bool b := rv
      exact wpAny_truthy_bool ⟨.bl b, H', I3, rfl, q3⟩
    | next => exact False.elim hq
    | brk => exact False.elim hq
    | cont => exact False.elim hq
theorem op_notInO (O : Own X.K C "__contains__" f) (F : FnOk X.prog X.w X.K X.mg X.base CX0 k f fd ["self", it] sp) (hr : Room k X.A) (hb : Binds X.K fd ["self", it] []) : OpR X (compareOp .NotIn) (qInO C sp true) := by
  intro pins s σ H y x v u Q I ry rx h
  obtain ⟨a, dx, fs, rfl, ea, q⟩ := h
  obtain rfl : u = Value.ref a := rx
  obtain ⟨mA, od0, _, _, _, _⟩ := ins_get I.hok ea
  obtain ⟨od, J, _⟩ := od0.look
  obtain ⟨m, fr⟩ := I.fr
  refine PySem.W.notIn_K fr I.ok.mod.kin J O.at_ O.fn (wpAny_call ?_)
  refine codeAny_mono (F.run X.A X.stack s H ⟨[.ref a, v], []⟩ [.ref a, v] [.ref a, y] _ _ hr I.env0 (hb _ [.ref a, v] I.kIn rfl) (.cons rfl (.cons ry .nil)) q) fun r s' hq => ?_
  cases r with
  | error er => exact False.elim hq
  | ok fl =>
    cases fl with
    | ret u =>
      obtain ⟨z, H', I3, rv, b, ev, q3⟩ := I.after hq
      subst ev
      obtain rfl : u = Value.bool b := rv
      exact wpAny_truthy_bool ⟨.bl (!b), H', I3, rfl, q3⟩
    | next => exact False.elim hq
    | brk => exact False.elim hq
    | cont => exact False.elim hq
end
end My
end
section
set_option Elab.async false
set_option linter.all false
set_option maxRecDepth 100000
set_option maxHeartbeats 4000000
namespace My
open PySem PySem.Spec PyProof.Rows L2
abbrev s_flen : Stmt := inCls s_cls 6
abbrev s_fcont : Stmt := inCls s_cls 7
def sp_flen (C : Addr) : Sp := fun vs H Q _ => ∃ (a : Addr) (S : Str) (ps : List (Nat × Nat)), vs = [.ref a] ∧ FontAt H C a S ps ∧ S.length ≤ 4000 ∧ Q (.int S.length) H
def sp_fcont (K : PySem.W.Frag) (C : Addr) : Sp := fun vs H Q _ => ∃ (a p : Addr) (S : Str) (ps : List (Nat × Nat)) (v : V) (d : PyData), vs = [.ref a, v] ∧ FontAt H C a S ps ∧ Rp K p H false v d ∧ textFits sizeLine d ∧ Q (.bl (signD S d)) H
section
variable {P : Program} {w : World} {K : PySem.W.Frag} {mg : Str → Option Value} {base : Heap}
theorem sc_flen : FnScope ["self"] ["self"] (defScope s_flen) := ⟨rfl, rfl, rfl, by decide +kernel, rfl, by decide +kernel, by decide +kernel⟩
theorem ok_flen {f C : Addr} {fd : FuncData} (F : Fun K "__len__" "Font.__len__" s_flen f fd) (T : TB mg) (c : Cls K C) (n1 : NoAttr K C "_signs") : FnOk P w K mg base CX0 1 f fd ["self"] (sp_flen C) := by
  refine F.ok sc_flen (fun vs H Q E h => ?_) (fun cdv A outer s H vs Q E hr h => ?_)
  · obtain ⟨a, S, ps, rfl, _⟩ := h
    rfl
  · obtain ⟨a, S, ps, rfl, hF, hS, k⟩ := h
    obtain ⟨dx, r, ys, h1, h2, h3⟩ := hF.at_
    refine ⟨_, pss_one (ps_ret (pe_callB call_len_str (by rfl) T.len PySem.boot_len (pa_cons (pe_fld (pv 0) rfl) pa_nil))), ?_⟩
    exact ⟨_, rfl, a, C, dx, _, _, rfl, h1, c, n1, fs_signs S r, S, rfl, Nat.le_trans hS (by decide), k⟩
theorem sc_fcont : FnScope ["self", "x"] ["self", "x"] (defScope s_fcont) := ⟨rfl, rfl, rfl, by decide +kernel, rfl, by decide +kernel, by decide +kernel⟩
theorem ok_fcont {f C fI : Addr} {fd fdI : FuncData} (F : Fun K "__contains__" "Font.__contains__" s_fcont f fd) (c : Cls K C) (n1 : NoAttr K C "_signs") (D : Def K mg "is_sign" fI fdI ["signs", "value"]) (G : FnOk P w K mg base CX0 1 fI fdI ["signs", "value"] (sp_isSign K)) :
    FnOk P w K mg base CX0 2 f fd ["self", "x"] (sp_fcont K C) := by
  refine F.ok sc_fcont (fun vs H Q E h => ?_) (fun cdv A outer s H vs Q E hr h => ?_)
  · obtain ⟨a, p, S, ps, v, d, rfl, _⟩ := h
    rfl
  · obtain ⟨a, p, S, ps, v, d, rfl, hF, hd, hz, k⟩ := h
    obtain ⟨dx, r, ys, h1, h2, h3⟩ := hF.at_
    refine ⟨_, pss_one (ps_ret (pe_call G hr rfl D.mgf D.kp D.bd .nil pass0 (pa_cons (pe_fld (pv 0) rfl) (pa_cons (pv 1) pa_nil)))), ?_⟩
    exact ⟨_, rfl, a, C, dx, _, _, rfl, h1, c, n1, fs_signs S r, _, rfl, S, v, d, p, rfl, hd, hz, k⟩
end
end My
end
section
set_option Elab.async false
set_option linter.all false
set_option maxRecDepth 100000
set_option maxHeartbeats 4000000
namespace My
open PySem PySem.Spec PyProof.Rows L2
section
variable {X : Cx} {CX : CXT} {k i : Nat} {C f p g : Addr} {mc : Value} {fd : FuncData} {ps : List Str} {sp : Sp} {dvs : List V} {ds : List Value} {E : XK} {x m : Str} {np pos apos : Pos} {o e : Expr} {es : List Expr} {ta : TE} {t : TA}
/-- c(a, ..), the name c a local that holds the class at C -/
def tMakeL (i : Nat) (C : Addr) (sp : Sp) (dvs : List V) (E : XK) (t : TA) : TE := fun σ H Q => σ[i]? = some (some (.ref C)) ∧ tMake C sp dvs E t σ H Q
theorem pe_makeL (M : Mk X.K C f) (F : FnOk X.prog X.w X.K X.mg X.base CX k f fd ps sp) (hr : Room (k + 1) X.A) (hN : X.N[i]? = some x) (hv : Vis X.env.scope x) (hb : Binds X.K fd ps ds) (hd : Vals dvs ds) (hx : Passes CX X E) (ha : PA X (e :: es) t)
    (hdb : (x == ("__debug__" : Str)) = false := by decide) (hcd : (x == ("__classdict__" : Str)) = false := by decide)
    (he : starEach (e :: es) X.env = (false, eval e X.env) :: starEach es X.env := by rfl) (hpl : (backTo pos (starEach es X.env)).any (·.1) = false := by rfl) :
    PE X (.Call (.Name x np) (e :: es) [] pos) (tMakeL i C sp dvs E t) := by
  refine ⟨fun pins s σ H Q I h => ?_⟩
  obtain ⟨hs, ht⟩ := h
  refine wpAny_Call_Name_kw (thn ((pe_var (pos := np) hN hv hdb hcd).run pins s σ H (fun v H1 => v = .ref C ∧ H1 = H) I ⟨.ref C, hs, rfl, rfl⟩) fun u s1 ⟨v, H1, I1, r1, q1⟩ => ?_)
  obtain ⟨rfl, rfl⟩ := q1
  cases r1
  refine PySem.W.callWith_K (h₀ := X.base) I.ok.mod.kin M.kp (thn (ha.run pos pins s1 σ _ _ I1 ht) fun us s2 ⟨vs, H2, I2, r, q⟩ => ⟨I2.kIn, ?_⟩) he hpl
  exact run_make M F hr hb hd hx I2 r q
/-- C.m(), m a classmethod -/
theorem pe_cmeth0 {pl : Sem Bool} (he : PE X o ta) (r : ClX.CRead X.K C mc) (c : ClX.CMet X.K C mc m p g) (F : FnR X.prog X.w X.K X.mg X.base CX k g sp) (hr : Room k X.A) (hx : Passes CX X E)
    (ht : eval (.Call (.Attribute o m apos) [] [] pos) X.env = (do
      let ov ← eval o X.env
      standAt apos.atName
      let (f, first) ← holding [ov] (getMethod ov m pl)
      callWith pos f first (backTo pos (starEach [] X.env)) (backToKw pos (keywordEach [] X.env))) := by rfl) :
    PE X (.Call (.Attribute o m apos) [] [] pos) (ClX.tCMeth C sp E ta tNil) := by
  refine ⟨fun pins s σ H Q I h => ?_⟩
  refine PySem.W.methodCall_KW (pl := pl) (thn (he.run pins s σ H _ I h) fun u s1 ⟨x, H1, I1, rx, ex, q⟩ => ?_) ht
  subst ex
  obtain rfl : u = Value.ref C := rx
  refine ClX.getmethcm_ok I1 r c fun s2 I2 => ?_
  have at_ : PySem.W.MethP X.K s1.heap.objs.size g (.ref C) s2.heap := ⟨ClX.pin_at I2, I2.kIn⟩
  exact PySem.W.callWith_M0 (first := []) at_ c.fi (ClX.run_cm (us := []) (vs := []) F hr hx I2 .nil q)
end
end My
end
section
set_option Elab.async false
set_option linter.all false
set_option maxRecDepth 100000
set_option maxHeartbeats 4000000
namespace My
open PySem PySem.Spec PyProof.Rows L2
theorem made_same {H H' : Hp} {C x dx : Addr} (hx : H x = none) (hdx : H dx = none) (b : But x (upd (upd H dx (.own x)) x (.ins C dx [])) H') : Same H H' := fun q o e =>
  b q o (ne_of_none e hx) (by rw [upd_ne (ne_of_none e hx), upd_ne (ne_of_none e hdx)]; exact e)
theorem made_up {H : Hp} {C x dx : Addr} (hx : H x = none) (hdx : H dx = none) : Same H (upd (upd H dx (.own x)) x (.ins C dx [])) := fun q o e => by
  rw [upd_ne (ne_of_none e hx), upd_ne (ne_of_none e hdx)]
  exact e
abbrev digitsS : Str := "0123456789"
def digitsPs : List (Nat × Nat) := [(48, 48), (49, 49), (54, 57), (56, 56)]
def pairD (e : Nat × Nat) : PyData := .tuple [.str ⟨#[e.1]⟩, .str ⟨#[e.2]⟩]
theorem digits_kept : keptD digitsS (.tuple (digitsPs.map pairD)) = some (dueOf digitsS (headsAll digitsPs)) := by decide +kernel
section
variable {P : Program} {w : World} {K : PySem.W.Frag} {mg : Str → Option Value} {base : Heap}
end
end My
end
section
set_option Elab.async false
set_option linter.all false
set_option maxRecDepth 100000
set_option maxHeartbeats 4000000
/-! B8: == and != by an own ==; bool of an own class. -/
namespace My
open PySem PySem.Spec PyProof.Rows L2
open PySem.W (Frag findIn isFn notFirst mroIn Looks InstAt)
/-- the class's own == at f; its != is object's -/
structure EqC (K : Frag) (C f : Addr) : Prop where
  eq : findIn K (.ref C) "__eq__" = some (some (.ref f))
  fn : isFn K (.ref f) = true
  ne : findIn K (.ref C) "__ne__" = some (some (.builtin "object.__ne__"))
  ob : mroIn K C (.type "object") = some true
section
variable {prog : Program} {w : World} {A : Around} {E : Value → Shared → Prop} {s : Shared} {K : Frag} {x C L f : Addr} {h₀ : Heap} {ox : Obj} {od : Option Obj} {b tb : Value}
theorem objNe_K {Q : Fin → Shared → Prop} (hu : A.units < cLine) (X : K.In s.heap) (I : InstAt s.heap x ox C od) (O : EqC K C f)
    (h : wpAny (model prog w) A (call (.ref f) [.ref x, b]) (fun v s' => ∃ c, v = .bool c ∧ Q (.done (.ret (.bool (!c)))) s') E s) :
    wpAny (model prog w) A (Builtin.«object.__ne__» ⟨[.ref x, b], []⟩) Q E s := by
  unfold Builtin.«object.__ne__»
  refine wpAny_bind (wpAny_of_eq (a := ((Value.ref x : Value), [b])) (by first | rfl | (simp only [slotArgs]; rfl)) ?_)
  refine wpAny_bind (wpAny_cRoomFor hu ?_)
  refine wpAny_bind (m := callSpecialIfBound? (.ref x) (Str.ofString "__eq__") [b]) (PySem.W.ifBound_K X I O.eq O.fn (wpAny_mono h (fun r s' hr => ?_) fun _ _ e => e))
  obtain ⟨c, rfl, hq⟩ := hr
  refine wpAny_bind (m := truthy (.bool _)) (wpAny_truthy_bool ?_)
  first | exact wpAny_pure hq | exact hq
theorem tryNe_K {Q : Option Value → Shared → Prop} (hu : A.units + 1 < cLine) (X : K.In s.heap) (I : InstAt s.heap x ox C od) (O : EqC K C f)
    (h : wpAny (model prog w) A.in1 (call (.ref f) [.ref x, b]) (fun v s' => ∃ c, v = .bool c ∧ Q (some (.bool (!c))) s') E s) :
    wpAny (model prog w) A (tryCompare (.ref x) "__ne__" b) Q E s := by
  have S := F.cmp_object.ne
  have isO : Looks (model prog w) s.heap (isInstance (.ref x) (.type "object")) true := I.type.andThen (PySem.W.looks_mroIn X O.ob)
  have big : wpAny (model prog w) A (call (.builtin "object.__ne__") [.ref x, b]) (fun v s' => ∃ c, v = .bool (!c) ∧ Q (some (.bool (!c))) s') E s := by
    refine wpAny_call (codeAny_call_builtin S.plain F.cmpEntry_ne (PySem.W.check_slot (M := model prog w) (s := s) F.cmpKind_ne F.cmpSplit_ne isO (F.cmpArgs_ne (.ref x) b) ?_))
    refine objNe_K (A := A.in1) (show A.units + 1 < cLine from hu) X I O (wpAny_mono h (fun v s' hv => ?_) fun _ _ e => e)
    obtain ⟨c, rfl, hq⟩ := hv
    exact ⟨c, rfl, c, rfl, hq⟩
  simp only [tryCompare]
  refine wpAny_bind ?_
  simp only [callSpecialIfBound?, bindSpecialIfBound?]
  refine wpAny_holding (wpAny_bind (wpAny_bind (wpAny_bind (I.type.here ((PySem.W.looks_findIn X O.ne).here ?_)))))
  simp only [S.bind]
  refine wpAny_bind (wpAny_askSetting (wpAny_ite ?_))
  have fin : wpAny (model prog w) A (call (.builtin "object.__ne__") ([.ref x] ++ [b]) >>= fun v => pure (some v)) (fun r s' => ∃ c, r = some (.bool (!c)) ∧ Q (some (.bool (!c))) s') E s :=
    wpAny_bind (wpAny_mono big (fun v s' h' => by
      obtain ⟨c, rfl, hq⟩ := h'
      exact wpAny_pure ⟨c, rfl, hq⟩) fun _ _ h' => h')
  have fin2 := wpAny_mono fin (Q' := fun r s' => wpAny (model prog w) A (match r with | some .notImplemented | none => pure none | some v => pure (some v)) Q E s') (fun r s' h' => by
      obtain ⟨c, rfl, hq⟩ := h'
      exact wpAny_pure hq) fun _ _ h' => h'
  split
  · exact wpAny_bind (wpAny_pure (wpAny_pure fin2))
  · exact wpAny_tryCatch (wpAny_bind (wpAny_pure (wpAny_pure fin2)))
theorem richNe_K {Q : Value → Shared → Prop} (hu : A.units + 1 < cLine) (X : K.In s.heap) (I : InstAt s.heap x ox C od) (O : EqC K C f) (hb : Looks (model prog w) s.heap (typeOf b) tb) (hn : notFirst K C tb = true)
    (h : wpAny (model prog w) A.in1 (call (.ref f) [.ref x, b]) (fun v s' => ∃ c, v = .bool c ∧ Q (.bool (!c)) s') E s) : wpAny (model prog w) A (richCompare .NotEq (.ref x) b) Q E s := by
  have one : wpAny (model prog w) A (tryCompare (.ref x) "__ne__" b) (fun r s' => ∃ v, r = some v ∧ Q v s') E s := tryNe_K hu X I O (wpAny_mono h (fun v s' hv => by
    obtain ⟨c, rfl, hq⟩ := hv
    exact ⟨c, rfl, _, rfl, hq⟩) fun _ _ e => e)
  unfold richCompare
  simp only [oneThing_ref]
  refine wpAny_holding (wpAny_bind (wpAny_cRoomFor (Nat.lt_of_succ_lt hu) ?_))
  refine wpAny_bind (I.type.here (wpAny_bind (hb.here ?_)))
  rw [cmpInfo_NotEq]
  dsimp only
  split
  · rename_i q
    have e : PySem.W.subIn K tb (.ref C) = some false := by
      rcases Bool.or_eq_true_iff.mp hn with e | e
      · rw [beq_iff_eq.mp e] at q; simp at q
      · exact beq_iff_eq.mp e
    refine wpAny_bind ((PySem.W.looks_subIn X e).here ?_)
    simp only [Bool.false_eq_true, if_false]
    refine wpAny_bind (wpAny_mono one (fun r s' z => ?_) fun _ _ e => e)
    obtain ⟨v, rfl, hq⟩ := z
    exact wpAny_pure hq
  · refine wpAny_bind (wpAny_pure ?_)
    simp only [Bool.false_eq_true, if_false]
    refine wpAny_bind (wpAny_mono one (fun r s' z => ?_) fun _ _ e => e)
    obtain ⟨v, rfl, hq⟩ := z
    exact wpAny_pure hq
end
/-- a value's type, an instance's class too -/
def TyI (K : Frag) (H : Hp) (y : V) (t : Value) : Prop := TyX K H y t ∨ ∃ b C' dx fs, y = .ref b ∧ H b = some (.ins C' dx fs) ∧ t = .ref C'
theorem TyI.look {X : Cx} {pins : List (Addr × Obj)} {σ : L2.St} {H : Hp} {s : Shared} {y : V} {t u : Value} (I : Inv X pins σ H s) (r : RelV y u) (h : TyI X.K H y t) : Looks (model X.prog X.w) s.heap (typeOf u) t := by
  rcases h with h | ⟨b, C', dx, fs, rfl, hb, rfl⟩
  · obtain ⟨P, Z, p, _⟩ := kit_of I r h
    exact Z.ty _ _ I.kIn p
  · cases (show u = Value.ref b from r)
    obtain ⟨mA, J, _⟩ := ins_get I.hok hb
    obtain ⟨od, J, _⟩ := J.look
    exact J.type
theorem notFirst_self (K : Frag) (C : Addr) : notFirst K C (.ref C) = true := by simp [notFirst]
section
variable {X : Cx} {k : Nat} {C f : Addr} {fd : FuncData} {sp : Sp} {ot : Str}
/-- x == y, x != y, x an instance of the class at C with an own == -/
def rEqO (K : Frag) (C : Addr) (sp : Sp) (neg : Bool) : R2 := fun x y H Q => ∃ a dx fs t, x = .ref a ∧ H a = some (.ins C dx fs) ∧ TyI K H y t ∧ notFirst K C t = true ∧ sp [.ref a, y] H (fun v H' => ∃ b : Bool, v = .bl b ∧ Q (.bl (if neg then !b else b)) H') E0
theorem run_eq {A : Around} {pins : List (Addr × Obj)} {σ : L2.St} {H : Hp} {s : Shared} {a : Addr} {y : V} {u : Value} {Q : VK} {R : Value → Shared → Prop} {neg : Bool} (F : FnOk X.prog X.w X.K X.mg X.base CX0 k f fd ["self", ot] sp) (hr : Room k A) (hb : Binds X.K fd ["self", ot] []) (I : Inv X pins σ H s) (hA : Env0 X.prog X.w X.K X.mg X.base A X.stack s H)
    (ry : RelV y u) (q : sp [.ref a, y] H (fun v H' => ∃ b : Bool, v = .bl b ∧ Q (.bl (if neg then !b else b)) H') E0) (hR : ∀ b s', EP X pins σ Q (.bool (if neg then !b else b)) s' → R (.bool b) s') : wpAny (model X.prog X.w) A (call (.ref f) [.ref a, u]) R X.xe s := by
  refine wpAny_call ?_
  refine codeAny_mono (F.run A X.stack s H ⟨[.ref a, u], []⟩ [.ref a, u] [.ref a, y] _ _ hr hA (hb _ [.ref a, u] I.kIn rfl) (.cons rfl (.cons ry .nil)) q) fun r s' hq => ?_
  cases r with
  | error er => exact False.elim hq
  | ok fl =>
    cases fl with
    | ret w =>
      obtain ⟨z, H', I3, rv, b, ev, q3⟩ := I.after hq
      subst ev
      obtain rfl : w = Value.bool b := rv
      exact hR b s' ⟨.bl _, H', I3, rfl, q3⟩
    | next => exact False.elim hq
    | brk => exact False.elim hq
    | cont => exact False.elim hq
theorem op_eqO (O : EqC X.K C f) (F : FnOk X.prog X.w X.K X.mg X.base CX0 k f fd ["self", ot] sp) (hr : Room k X.A) (hb : Binds X.K fd ["self", ot] []) : OpR X (compareOp .Eq) (rEqO X.K C sp false) := by
  intro pins s σ H x y v u Q I rx ry h
  obtain ⟨a, dx, fs, t, rfl, ea, ty, hn, q⟩ := h
  obtain rfl : v = Value.ref a := rx
  obtain ⟨mA, J, _⟩ := ins_get I.hok ea
  obtain ⟨od, J, _⟩ := J.look
  obtain ⟨m, hF⟩ := I.fr
  show wpAny (model X.prog X.w) X.A (richCompare .Eq (.ref a) u) (EP X pins σ Q) X.xe s
  refine PySem.W.cmp_K (op := .Eq) (tb := t) hr.units0 hF I.ok.mod.kin J (ty.look I ry) hn O.eq O.fn ?_
  exact run_eq (neg := false) F hr hb I I.env0 ry q fun b s' hq => hq
theorem op_neO (O : EqC X.K C f) (F : FnOk X.prog X.w X.K X.mg X.base CX0 k f fd ["self", ot] sp) (hr : Room (k + 1) X.A) (hb : Binds X.K fd ["self", ot] []) : OpR X (compareOp .NotEq) (rEqO X.K C sp true) := by
  intro pins s σ H x y v u Q I rx ry h
  obtain ⟨a, dx, fs, t, rfl, ea, ty, hn, q⟩ := h
  obtain rfl : v = Value.ref a := rx
  obtain ⟨mA, J, _⟩ := ins_get I.hok ea
  obtain ⟨od, J, _⟩ := J.look
  show wpAny (model X.prog X.w) X.A (richCompare .NotEq (.ref a) u) (EP X pins σ Q) X.xe s
  have hu : X.A.units + 1 < cLine := hu_of (hr.mono (Nat.succ_le_succ (Nat.zero_le k)))
  refine richNe_K hu I.kIn J O (ty.look I ry) hn ?_
  exact run_eq (neg := true) F hr.in1 hb I I.env0.in1 ry q fun b s' hq => ⟨b, rfl, hq⟩
end
/-- bool(x), x an instance of a class with an own __bool__ -/
theorem meets_bool_own {prog : Program} {w : World} {K : Frag} {h₀ : Heap} {L x C f : Addr} {ox : Obj} {od : Option Obj} {m : Str → Option Value} (hs : findIn K (.ref C) "__bool__" = some (some (.ref f))) (hf : isFn K (.ref f) = true) :
    MeetsIn prog w (Builtin.«bool.__new__» ⟨[.type "bool", .ref x], []⟩) (fun A R s => Fr h₀ L s.heap m ∧ K.In h₀ ∧ InstAt s.heap x ox C od ∧ wpAny (model prog w) A.in1 (call (.ref f) [.ref x]) (fun v s' => ∃ c, v = .bool c ∧ R (.ok (.ret (.bool c))) s') (fun e s' => R (.error e) s') s) :=
  .of_wp fun A R s hs' => by
    obtain ⟨hF, hK, hI, hc⟩ := hs'
    obtain ⟨hp, g, d, tk, os⟩ := s
    have f1 := F.conv_sub_bool
    have tr : ∀ (Q : Bool → Shared → Prop), (∀ c s', R (.ok (.ret (.bool c))) s' → Q c s') → wpAny (model prog w) A.in1 (truthy (.ref x)) Q (fun e s' => R (.error e) s') ⟨hp, g, d, tk, os⟩ := fun Q hQ =>
      PySem.W.truthy_K hF hK hI hs hf (wpAny_mono hc (fun v s' hv => by
        obtain ⟨c, rfl, hq⟩ := hv
        exact hQ _ _ hq) fun _ _ e => e)
    repeat (any_goals (first | assumption | (with_reducible refine tr _ (fun c s' hq => ?_)) | wp_step))
    all_goals first | exact ⟨_, rfl, hq⟩ | skip
section
variable {X : Cx} {k : Nat} {C f : Addr} {fd : FuncData} {sp : Sp}
def qBoolO (C : Addr) (sp : Sp) : List V → Hp → VK → Prop := fun xs H Q => ∃ a dx fs, xs = [.ref a] ∧ H a = some (.ins C dx fs) ∧ sp [.ref a] H (fun v H' => ∃ b : Bool, v = .bl b ∧ Q (.bl b) H') E0
theorem call_boolO (hs : findIn X.K (.ref C) "__bool__" = some (some (.ref f))) (hf : isFn X.K (.ref f) = true) (F : FnOk X.prog X.w X.K X.mg X.base CX0 k f fd ["self"] sp) (hr : Room (k + 2) X.A) (hb : Binds X.K fd ["self"] []) : CallR X (.type "bool") (qBoolO C sp) := by
  intro pins s σ H xs us Q I r h
  obtain ⟨a, dx, fs, rfl, ea, q⟩ := h
  obtain ⟨u, rfl, rx⟩ := vals1 r
  obtain rfl : u = Value.ref a := rx
  obtain ⟨mA, od0, _, _, _, _⟩ := ins_get I.hok ea
  obtain ⟨od, J, _⟩ := od0.look
  obtain ⟨m, fr⟩ := I.fr
  refine callType_newIn PySem.F.called_bool PySem.F.newNe_bool (PySem.F.typeCall_bool_1 _) (PySem.F.newCall_bool_1 _) (fun obj => PySem.F.args_object_init_2 obj _) PySem.F.entry_bool_new (meets_bool_own hs hf) ⟨fr, I.ok.mod.kin, J, ?_⟩
  refine wpAny_call ?_
  refine codeAny_mono (F.run X.A.in1.in1 X.stack s H ⟨[.ref a], []⟩ [.ref a] [.ref a] _ _ (show Room (k + 1) X.A.in1 from Room.in1 hr).in1 I.env0.in1.in1 (hb _ [.ref a] I.kIn rfl) (.cons rfl .nil) q) fun r s' hq => ?_
  cases r with
  | error er => exact False.elim hq
  | ok fl =>
    cases fl with
    | ret u =>
      obtain ⟨v, H', I3, rv, b, ev, q3⟩ := I.after hq
      subst ev
      obtain rfl : u = Value.bool b := rv
      exact ⟨b, rfl, rfl, .bl b, H', I3, rfl, q3⟩
    | next => exact False.elim hq
    | brk => exact False.elim hq
    | cont => exact False.elim hq
end
end My
end
section
set_option Elab.async false
set_option linter.all false
set_option maxRecDepth 100000
set_option maxHeartbeats 4000000
namespace My
open PySem PySem.Spec PyProof.Rows L2
abbrev s_feq : Stmt := inCls s_cls 8
abbrev s_isRow : Stmt := topS 19
abbrev s_chk : Stmt := topS 9999
/-- an instance's class can be asked for -/
structure InsT (K : PySem.W.Frag) (C : Addr) : Prop where
  cl : Cls K C
  ca : PySem.W.findIn K (.ref C) "__class__" = some (some (.builtin "object.__class__"))
  cn : PySem.W.specialIn K (.builtin "object.__class__") "__get__" = some (some (.builtin "getset_descriptor.__get__"))
  ct : PySem.W.takesIn K (.builtin "object.__class__") = some true
  cm : PySem.W.mroIn K C (.type "object") = some true
theorem InsT.ty {K : PySem.W.Frag} {C a dx : Addr} {H : Hp} {fs : List (Str × V)} (h : InsT K C) (e : H a = some (.ins C dx fs)) : TyX K H (.ref a) (.ref C) := .base (.ins e h.cl h.ca h.cn h.ct h.cm)
theorem kit_self {K : PySem.W.Frag} (C : Addr) : PySem.W.kitOne K (.ref C) (.ref C) = some true := by simp [PySem.W.kitOne]
theorem pairs_dp {K : PySem.W.Frag} {H : Hp} : ∀ {ps : List (Nat × Nat)} {ys : List V}, PairsAt H ps ys → DpAll K H ys (ps.map pairD)
  | _, _, .nil => .nil
  | _, _, .cons ⟨q, e, h⟩ t => e ▸ .cons (.tup (SqT.of h) (.cons (.str _) (.cons (.str _) .nil))) (pairs_dp t)
theorem pairs_eqv : ∀ ps qs : List (Nat × Nat), PyData.eqvAll (ps.map pairD) (qs.map pairD) = decide (ps = qs)
  | [], [] => rfl
  | [], _ :: _ => rfl
  | _ :: _, [] => rfl
  | (a, b) :: ps, (c, d) :: qs => by
    have one : ∀ x y : Nat, ((⟨#[x]⟩ : Str) == ⟨#[y]⟩) = decide (x = y) := fun x y => eqV_sg x y
    show ((((⟨#[a]⟩ : Str) == ⟨#[c]⟩) && (((⟨#[b]⟩ : Str) == ⟨#[d]⟩) && true)) && PyData.eqvAll (ps.map pairD) (qs.map pairD)) = _
    rw [pairs_eqv ps qs, one, one, Bool.and_true]
    by_cases h1 : a = c
    · by_cases h2 : b = d
      · by_cases h3 : ps = qs
        · simp [h1, h2, h3]
        · simp [h1, h2, h3]
      · simp [h1, h2]
    · simp [h1]
/-- signs that a text may have -/
def LowP (ps : List (Nat × Nat)) : Prop := ∀ e ∈ ps, e.1 < 128 ∧ e.2 < 128
theorem ok_one {c : Nat} (h : c < 128) : PyData.strOk ⟨#[c]⟩ = true := by
  have h2 : c < 1114112 := by omega
  simp [PyData.strOk, h2]
theorem pairs_lay : ∀ ps : List (Nat × Nat), LowP ps → (PyData.list (ps.map pairD)).canLay0 = true ∧ (PyData.list (ps.map pairD)).depth ≤ 3
  | [], _ => ⟨rfl, by decide⟩
  | e :: ps, h => by
    obtain ⟨h1, h2⟩ := pairs_lay ps fun x hx => h x (List.mem_cons_of_mem _ hx)
    obtain ⟨e1, e2⟩ := h e List.mem_cons_self
    refine ⟨?_, ?_⟩
    · show (_ && (PyData.list (ps.map pairD)).canLay0) = true
      rw [h1, Bool.and_true]
      show (PyData.strOk ⟨#[e.1]⟩ && (PyData.strOk ⟨#[e.2]⟩ && true)) = true
      rw [ok_one e1, ok_one e2]
      rfl
    · have q : (PyData.list ((e :: ps).map pairD)).depth = max 1 ((PyData.list (ps.map pairD)).depth - 1) + 1 := rfl
      rw [q]
      omega
theorem pairs_shape {ps : List (Nat × Nat)} (h : LowP ps) : SeqAt.shaped (.tuple (ps.map pairD)) = true := by
  obtain ⟨h1, h2⟩ := pairs_lay ps h
  have h1 : (PyData.tuple (ps.map pairD)).canLay0 = true := h1
  have h2 : (PyData.tuple (ps.map pairD)).depth ≤ 3 := h2
  unfold SeqAt.shaped
  rw [h1, Bool.true_and]
  exact decide_eq_true (by omega)
def sp_feq (C : Addr) : Sp := fun vs H Q _ => ∃ (a b : Addr) (S T : Str) (ps qs : List (Nat × Nat)), vs = [.ref a, .ref b] ∧ FontAt H C a S ps ∧ FontAt H C b T qs ∧ LowP ps ∧ LowP qs ∧ Q (.bl (decide (S = T ∧ ps = qs))) H
section
variable {P : Program} {w : World} {K : PySem.W.Frag} {mg : Str → Option Value} {base : Heap}
theorem sc_feq : FnScope ["self", "other"] ["self", "other"] (defScope s_feq) := ⟨rfl, rfl, rfl, by decide +kernel, rfl, by decide +kernel, by decide +kernel⟩
theorem ok_feq {f C : Addr} {fd : FuncData} (F : Fun K "__eq__" "Font.__eq__" s_feq f fd) (T : TB mg) (I : InsT K C) (gF : mg "Font" = some (.ref C)) (n1 : NoAttr K C "_signs") (n2 : NoAttr K C "_turns") : FnOk P w K mg base CX0 1 f fd ["self", "other"] (sp_feq C) := by
  refine F.ok sc_feq (fun vs H Q E h => ?_) (fun cdv A outer s H vs Q E hr h => ?_)
  · obtain ⟨a, b, S, T, ps, qs, rfl, _⟩ := h
    rfl
  · obtain ⟨a, b, S, T', ps, qs, rfl, ha, hb, l1, l2, k⟩ := h
    obtain ⟨dx, r, ys, h1, h2, h3⟩ := ha.at_
    obtain ⟨dy, q, zs, g1, g2, g3⟩ := hb.at_
    refine ⟨_, pss_one (ps_ret (pe_and (pe_callB call_isi (by rfl) T.isi (by decide +kernel) (pa_cons (pv 1) (pa_cons (pe_glob (v := .ref C) rfl gF rfl) pa_nil)))
      (pe_and (pe_cmpR op_eq (pe_fld (pv 0) rfl) (pe_fld (pv 1) rfl) (nomark _)) (pe_one (pe_cmpR (op_eqD hr.units) (pe_fld (pv 0) rfl) (pe_fld (pv 1) rfl) (nomark _)))))), ?_⟩
    refine ⟨_, rfl, _, _, _, _, _, rfl, .own C, I.ty g1, kit_self C, _, rfl, iteT ?_⟩
    refine ⟨_, rfl, a, C, dx, _, _, rfl, h1, I.cl, n1, fs_signs S r, _, rfl, b, C, dy, _, _, rfl, g1, I.cl, n1, fs_signs T' q, rfl, _, rfl, ?_⟩
    refine ite2 (fun t => ?_) (fun t => ?_)
    · have t : S = T' := by
        have := of_decide_eq_true t
        injection this
      subst t
      refine ⟨_, rfl, a, C, dx, _, _, rfl, h1, I.cl, n2, fs_turns S r, _, rfl, b, C, dy, _, _, rfl, g1, I.cl, n2, fs_turns S q, .tuple (ps.map pairD), .tuple (qs.map pairD), .tup (SqT.of h2) (pairs_dp h3), .tup (SqT.of g2) (pairs_dp g3), ?_, ?_, ?_⟩
      · exact pairs_shape l1
      · exact pairs_shape l2
      · have e : PyData.eqv (.tuple (ps.map pairD)) (.tuple (qs.map pairD)) = decide (S = S ∧ ps = qs) := by
          show PyData.eqvAll _ _ = _
          rw [pairs_eqv]
          simp
        rw [e]
        exact k
    · have t : S ≠ T' := fun z => t (decide_eq_true (by rw [z]))
      have e : decide (S = T' ∧ ps = qs) = false := decide_eq_false fun z => t z.1
      rw [e] at k
      exact k
end
end My
end
section
set_option Elab.async false
set_option linter.all false
set_option maxRecDepth 100000
set_option maxHeartbeats 2000000
namespace My
open PySem PySem.Spec PyProof.Rows L2
abbrev s_isSign : Stmt := topS 17
abbrev s_isSet : Stmt := topS 18
section
variable {P : Program} {w : World} {K : PySem.W.Frag} {mg : Str → Option Value} {base : Heap}
theorem sc_isSign : FnScope ["signs", "value"] ["signs", "value"] (defScope s_isSign) := ⟨rfl, rfl, rfl, by decide +kernel, rfl, by decide +kernel, by decide +kernel⟩
theorem ok_isSign {f : Addr} {fd : FuncData} (F : Fun K "is_sign" "is_sign" s_isSign f fd) (T : TB mg) : FnOk P w K mg base CX0 1 f fd ["signs", "value"] (sp_isSign K) := by
  refine F.ok sc_isSign (fun vs H Q E h => ?_) (fun cdv A outer s H vs Q E hr h => ?_)
  · obtain ⟨S, v, d, p, rfl, _⟩ := h
    rfl
  · obtain ⟨S, v, d, p, rfl, hd, hz, k⟩ := h
    refine ⟨_, pss_one (ps_ret (pe_and (pe_callB call_isi (by rfl) T.isi (by decide +kernel) (pa_cons (pv 1) (pa_cons (pe_bltn (v := .ty "str") (by rfl) T.str (by decide +kernel) rfl) pa_nil)))
      (pe_and (pe_cmpR op_eq (pe_callB call_len (by rfl) T.len PySem.boot_len (pa_cons (pv 1) pa_nil)) pe_int (nomark _)) (pe_one (pe_cmpR op_in_sign (pv 1) (pv 0) (by rfl)))))), ?_⟩
    refine ⟨_, rfl, _, _, _, _, _, rfl, .ty "str", hd.ty, kit_str d, _, rfl, ?_⟩
    cases d with
    | str z =>
      cases hd
      refine iteT ⟨_, rfl, _, z.length, rfl, ⟨hz, rfl⟩, rfl, _, rfl, ?_⟩
      refine ite2 (fun h1 => ?_) (fun h1 => ?_)
      · have h1 : z.length = 1 := by
          have := of_decide_eq_true h1
          injection this with e
          omega
        obtain ⟨c, rfl⟩ := one_sign h1
        refine ⟨_, rfl, _, rfl, c, S, rfl, rfl, ?_⟩
        have e : signD S (.str ⟨#[c]⟩) = decide (c ∈ S.cps.toList) := by
          rw [signD_str, h1]
          simp
        rw [e] at k
        exact k
      · have h2 : z.length ≠ 1 := fun e => h1 (by rw [e]; rfl)
        have e : signD S (.str z) = false := by
          rw [signD_str, decide_eq_false h2, Bool.false_and]
        rw [e] at k
        exact k
    | _ => exact iteF k
theorem sc_isSet : FnScope ["signs", "value", "sign"] ["signs", "value"] (defScope s_isSet) := ⟨rfl, rfl, rfl, by decide +kernel, rfl, by decide +kernel, by decide +kernel⟩
theorem ok_isSet {f : Addr} {fd : FuncData} (F : Fun K "is_set" "is_set" s_isSet f fd) (T : TB mg) : FnOk P w K mg base CX0 1 f fd ["signs", "value"] (sp_isSet K) := by
  refine F.ok sc_isSet (fun vs H Q E h => ?_) (fun cdv A outer s H vs Q E hr h => ?_)
  · obtain ⟨S, v, d, p, rfl, _⟩ := h
    rfl
  · obtain ⟨S, v, d, p, rfl, hd, hz, k⟩ := h
    refine ⟨_, pss_one (ps_ret (pe_and (pe_callB call_isi (by rfl) T.isi (by decide +kernel) (pa_cons (pv 1) (pa_cons (pe_bltn (v := .ty "str") (by rfl) T.str (by decide +kernel) rfl) pa_nil)))
      (pe_and (pe_cmpR op_eq (pe_lenSet (by rfl) T.len (by rfl) T.set (pv 1)) (pe_callB call_len (by rfl) T.len PySem.boot_len (pa_cons (pv 1) pa_nil)) (nomark _))
      (pe_one (pe_callB (cr_all rfl) (by rfl) T.all (by decide +kernel) (pa_cons (pe_lc (own := [("sign", 2)]) (g := gName 2) (tt := tYes) rfl sc_isSet.nd (pi_str (pv 1)) (blkOk_by (own := [("sign", 2)]) (N := ["signs", "value", "sign"]) (sc := defScope s_isSet) (by decide +kernel))
        (fun _ _ _ _ _ => pg_name (i := 2) sc_isSet.nd rfl (Or.inl rfl)) (fun _ _ _ _ _ => pts_nil) (fun _ _ _ _ _ => pe_cmpR op_in_sign (pv 2) (pv 0) (by rfl))) pa_nil)))))), ?_⟩
    refine ⟨_, rfl, _, _, _, _, _, rfl, .ty "str", hd.ty, kit_str d, _, rfl, ?_⟩
    cases d with
    | str z =>
      cases hd
      have hz : z.length ≤ 4000 := hz
      refine iteT ⟨_, rfl, z, rfl, hz, _, rfl, _, z.length, rfl, ⟨Nat.le_trans hz (by decide), rfl⟩, rfl, _, rfl, ?_⟩
      have ol := once_eq z.cps.toList
      have zl : z.cps.toList.length = z.length := Array.length_toList
      rw [zl] at ol
      refine ite2 (fun h1 => ?_) (fun h1 => ?_)
      · have h1 : z.cps.toList.Nodup := by
          have := of_decide_eq_true h1
          injection this with e
          exact ol.mp (by omega)
        refine ⟨_, rfl, z, rfl, fun D hD => lc_ff walk_signs (fun _ => true) (fun x => match x with | .str y => .bl (y.cps.toList.all fun c => decide (c ∈ S.cps.toList)) | _ => .non) hD (fun _ _ => trivial) (by rw [signs_len]; exact Nat.lt_of_le_of_lt hz (by decide)) (fun x => rfl) (fun x H' C _ _ h => h _ (Same.refl _)) ?_ ?_⟩
        · intro x H' C hx _ _ hC
          obtain ⟨c, _, rfl⟩ := mem_signs hx
          refine ⟨_, rfl, _, rfl, c, S, rfl, rfl, ?_⟩
          have := hC H' (Same.refl _)
          simpa using this
        · intro H' sm hl
          refine ⟨D, z.cps.toList.map fun c => decide (c ∈ S.cps.toList), rfl, SqL.of ?_, ?_⟩
          · rw [hl, pv_filter_true]
            simp [signs]
          · have e : setD S (.str z) = (z.cps.toList.map fun c => decide (c ∈ S.cps.toList)).all id := by
              rw [setD_str, decide_eq_true h1, Bool.true_and, List.all_map]
              rfl
            rw [← e]
            exact k H' sm
      · have h2 : ¬ z.cps.toList.Nodup := fun n => h1 (by rw [ol.mpr n]; simp)
        have e : setD S (.str z) = false := by
          rw [setD_str, decide_eq_false h2, Bool.false_and]
        rw [e] at k
        exact k H (Same.refl H)
    | _ => exact iteF (k H (Same.refl H))
abbrev s_isFont : Stmt := topS 16
theorem sc_isFont : FnScope ["value"] ["value"] (defScope s_isFont) := ⟨rfl, rfl, rfl, by decide +kernel, rfl, by decide +kernel, by decide +kernel⟩
theorem ok_isFont {f fS C : Addr} {fd fdS : FuncData} (F : Fun K "is_font_signs" "is_font_signs" s_isFont f fd) (T : TB mg) (D : Def K mg "is_set" fS fdS ["signs", "value"]) (G : FnOk P w K mg base CX0 1 fS fdS ["signs", "value"] (sp_isSet K))
    (gF : mg "Font" = some (.ref C)) (cM : ClassV K C "MAX_SIGNS" (.int 10)) {tA : Tok} (gA : mg "ALPHABET" = some (.str alphabet tA)) : FnOk P w K mg base CX0 2 f fd ["value"] (sp_isFont K) := by
  refine F.ok sc_isFont (fun vs H Q E h => ?_) (fun cdv A outer s H vs Q E hr h => ?_)
  · obtain ⟨v, d, p, rfl, _⟩ := h
    rfl
  · obtain ⟨v, d, p, rfl, hd, hz, k⟩ := h
    obtain ⟨mc, u, c1, c2⟩ := cM.ok
    refine ⟨_, pss_one (ps_ret (pe_and (pe_callB call_isi (by rfl) T.isi (by decide +kernel) (pa_cons (pv 0) (pa_cons (pe_bltn (v := .ty "str") (by rfl) T.str (by decide +kernel) rfl) pa_nil)))
      (pe_and (pe_chain op_le op_le pe_int (pe_callB call_len (by rfl) T.len PySem.boot_len (pa_cons (pv 0) pa_nil)) (ClX.pe_cval (pe_glob (v := .ref C) rfl gF rfl)))
      (pe_one (pe_call G hr rfl D.mgf D.kp D.bd .nil pass0 (pa_cons (pe_glob (v := .str alphabet) rfl gA ⟨_, rfl⟩) (pa_cons (pv 0) pa_nil))))))), ?_⟩
    refine ⟨_, rfl, _, _, _, _, _, rfl, .ty "str", hd.ty, kit_str d, _, rfl, ?_⟩
    cases d with
    | str z =>
      cases hd
      have hz : z.length ≤ 4000 := hz
      refine iteT ⟨_, rfl, _, z.length, rfl, ⟨Nat.le_trans hz (by decide), rfl⟩, _, _, rfl, rfl, _, rfl, ?_⟩
      refine ite2 (fun h1 => ?_) (fun h1 => ?_)
      · refine ⟨C, mc, _, u, rfl, c1, c2, _, _, rfl, rfl, _, rfl, ?_⟩
        refine ite2 (fun h2 => ?_) (fun h2 => ?_)
        · refine ⟨_, rfl, alphabet, _, _, p, rfl, Rp.str _ z, hz, fun H' sm => ?_⟩
          have e : fontD (.str z) = setD alphabet (.str z) := by
            rw [fontD_str, decide_eq_true (p := 2 ≤ z.length ∧ z.length ≤ 10) ⟨by have := of_decide_eq_true h1; omega, by have := of_decide_eq_true h2; omega⟩, Bool.true_and]
          rw [e] at k
          exact k H' sm
        · have e : fontD (.str z) = false := by
            rw [fontD_str, decide_eq_false (p := 2 ≤ z.length ∧ z.length ≤ 10) (fun q => h2 (decide_eq_true (by omega))), Bool.false_and]
          rw [e] at k
          exact k H (Same.refl H)
      · have e : fontD (.str z) = false := by
          rw [fontD_str, decide_eq_false (p := 2 ≤ z.length ∧ z.length ≤ 10) (fun q => h1 (decide_eq_true (by omega))), Bool.false_and]
        rw [e] at k
        exact ⟨_, rfl, iteF (k H (Same.refl H))⟩
    | _ => exact iteF (k H (Same.refl H))
abbrev s_isListed : Stmt := topS 5
theorem sc_isListed : FnScope ["value"] ["value"] (defScope s_isListed) := ⟨rfl, rfl, rfl, by decide +kernel, rfl, by decide +kernel, by decide +kernel⟩
theorem ok_isListed {f : Addr} {fd : FuncData} (F : Fun K "is_listed" "is_listed" s_isListed f fd) (T : TB mg) : FnOk P w K mg base CX0 1 f fd ["value"] (sp_isListed K) := by
  refine F.ok sc_isListed (fun vs H Q E h => ?_) (fun cdv A outer s H vs Q E hr h => ?_)
  · obtain ⟨v, d, p, rfl, _⟩ := h
    rfl
  · obtain ⟨v, d, p, rfl, hd, k⟩ := h
    refine ⟨_, pss_one (ps_ret (pe_callB call_isiT (by rfl) T.isi (by decide +kernel) (pa_cons (pv 0) (pa_cons (pe_tup' (pa_cons (pe_bltn (v := .ty "list") (by rfl) T.list (by decide +kernel) rfl) (pa_cons (pe_bltn (v := .ty "tuple") (by rfl) T.tuple (by decide +kernel) rfl) pa_nil))) pa_nil)))), ?_⟩
    refine ⟨_, rfl, by decide, fun q H1 n1 => ⟨_, q, _, _, _, _, rfl, n1.here, .cons (.ty "list") (.cons (.ty "tuple") .nil), (hd.but (.of n1.same) : Rp K p H1 false v d).ty, kit_seq d, k H1 n1.same⟩⟩
abbrev s_isPair : Stmt := topS 22
theorem sc_isPair : FnScope ["signs", "value", "sign"] ["signs", "value"] (defScope s_isPair) := ⟨rfl, rfl, rfl, by decide +kernel, rfl, by decide +kernel, by decide +kernel⟩
theorem ok_isPair {f fS : Addr} {fd fdS : FuncData} (F : Fun K "_is_pair" "_is_pair" s_isPair f fd) (T : TB mg) (D : Def K mg "is_sign" fS fdS ["signs", "value"]) (G : FnOk P w K mg base CX0 1 fS fdS ["signs", "value"] (sp_isSign K)) : FnOk P w K mg base CX0 2 f fd ["signs", "value"] (sp_isPair K) := by
  refine F.ok sc_isPair (fun vs H Q E h => ?_) (fun cdv A outer s H vs Q E hr h => ?_)
  · obtain ⟨S, v, d, p, rfl, _⟩ := h
    rfl
  · obtain ⟨S, v, d, p, rfl, hd, hf, k⟩ := h
    refine ⟨_, pss_one (ps_ret (pe_and (pe_callB call_isi (by rfl) T.isi (by decide +kernel) (pa_cons (pv 1) (pa_cons (pe_bltn (v := .ty "tuple") (by rfl) T.tuple (by decide +kernel) rfl) pa_nil)))
      (pe_and (pe_cmpR op_eq (pe_callB call_len_seq (by rfl) T.len PySem.boot_len (pa_cons (pv 1) pa_nil)) pe_int (nomark _))
      (pe_one (pe_callB (cr_all rfl) (by rfl) T.all (by decide +kernel) (pa_cons (pe_lc (own := [("sign", 2)]) (g := gName 2) (tt := tYes) rfl sc_isPair.nd (pi_tup (pv 1)) (blkOk_by (own := [("sign", 2)]) (N := ["signs", "value", "sign"]) (sc := defScope s_isPair) (by decide +kernel))
        (fun _ _ _ _ _ => pg_name (i := 2) sc_isPair.nd rfl (Or.inl rfl)) (fun _ _ _ _ _ => pts_nil) (fun _ _ _ _ _ => pe_call G hr rfl D.mgf D.kp D.bd .nil pass0 (pa_cons (pv 0) (pa_cons (pv 2) pa_nil)))) pa_nil)))))), ?_⟩
    refine ⟨_, rfl, _, _, _, _, _, rfl, .ty "tuple", hd.ty, kit_tup d, _, rfl, ?_⟩
    cases d with
    | tuple ds =>
      obtain ⟨a, xs, st2, rfl, ha, hr2⟩ := hd.tupS
      · simp only [fit, Bool.and_eq_true, decide_eq_true_eq] at hf
        have hlen := hr2.len
        refine iteT ⟨_, rfl, a, xs, rfl, .inr (ha), rfl, _, rfl, ?_⟩
        refine ite2 (fun h1 => ?_) (fun h1 => ?_)
        · have h2 : xs.length = 2 := by
            have := of_decide_eq_true h1
            injection this with e
            omega
          refine ⟨_, rfl, a, rfl, ⟨_, ha⟩, fun D hD => lc_pair walk_tup ds hlen.symm (fun _ => true) (fun d y _ => y = .bl (signD S d)) (fun _ _ _ _ _ _ h => h) hD (fun H' sm => sm.tupl (ha)) (by rw [h2]; decide) (fun x => rfl) (fun _ _ _ H' C _ _ _ h => h H' (Same.refl _)) ?_ ?_⟩
          · intro j x d' H' C hx hd' _ sm hC
            exact ⟨_, rfl, _, rfl, S, x, d', p, rfl, (hr2.at hx hd').loose2.but (.of sm), (fit.text (fitAll.at hf.2 hd')).more (by decide), hC H' _ (Same.refl _) rfl⟩
          · intro H' ys sm hD' hP
            refine ⟨D, ds.map (signD S), rfl, SqL.of ?_, ?_⟩
            · rw [pv_filter_true] at hP
              rw [hD', paired_eq hP, List.map_map]
              rfl
            · have e : (pairOf S (.tuple ds)).isSome = (ds.map (signD S)).all id := by
                match ds, (show ds.length = 2 by omega) with
                | [x, y], _ => rw [pairOf_two]; simp
              rw [← e]
              exact k H' sm
        · have h2 : ds.length ≠ 2 := fun e => h1 (by rw [hlen, e]; rfl)
          rw [pairOf_len S h2] at k
          exact k H (Same.refl H)
    | _ => exact iteF (k H (Same.refl H))
end
end My
end
section
set_option Elab.async false
set_option linter.all false
set_option maxRecDepth 100000
set_option maxHeartbeats 4000000
namespace My
open PySem PySem.Spec PyProof.Rows L2
/-! ### what turns tell of heads -/
theorem headsAll_at (ps : List (Nat × Nat)) (e : Nat × Nat) (c : Nat) : headOf (headsAll (ps ++ [e])) c = if c = e.2 then some e.1 else if c = e.1 then some e.2 else headOf (headsAll ps) c := by
  rw [headsAll_snoc, headOf_putN, headOf_putN]
theorem mem_spread {e : Nat × Nat} {c : Nat} : c ∈ spread e ↔ c = e.1 ∨ c = e.2 := by
  unfold spread
  split
  · rename_i h
    rw [List.mem_singleton]
    exact ⟨.inl, fun q => q.elim id fun q => q.trans h.symm⟩
  · simp
/-- by the last turn -/
theorem snoc_ind {P : List (Nat × Nat) → Prop} (h0 : P []) (h1 : ∀ l e, P l → P (l ++ [e])) (l : List (Nat × Nat)) : P l := by
  have : ∀ n (l : List (Nat × Nat)), l.length = n → P l := by
    intro n
    induction n with
    | zero =>
      intro l hl
      rw [List.length_eq_zero_iff.mp hl]
      exact h0
    | succ n ih =>
      intro l hl
      have ne : l ≠ [] := by
        intro e
        rw [e] at hl
        simp at hl
      rw [← List.dropLast_concat_getLast ne]
      exact h1 _ _ (ih _ (by rw [List.length_dropLast]; omega))
  exact this _ l rfl
theorem heads_dom : ∀ (ps : List (Nat × Nat)) (c b : Nat), headOf (headsAll ps) c = some b → c ∈ ps.flatMap spread ∧ b ∈ ps.flatMap spread := by
  intro ps
  induction ps using snoc_ind with
  | h0 => intro c b h; cases h
  | h1 l e ih =>
    intro c b h
    rw [headsAll_at] at h
    rw [List.flatMap_append, List.flatMap_singleton]
    have m : ∀ x, x = e.1 ∨ x = e.2 → x ∈ l.flatMap spread ++ spread e := fun x q => List.mem_append_right _ (mem_spread.mpr q)
    split at h
    · rename_i q
      exact ⟨m c (.inr q), m b (.inl (Option.some.inj h).symm)⟩
    · split at h
      · rename_i q
        exact ⟨m c (.inl q), m b (.inr (Option.some.inj h).symm)⟩
      · obtain ⟨h1, h2⟩ := ih c b h
        exact ⟨List.mem_append_left _ h1, List.mem_append_left _ h2⟩
theorem heads_sym : ∀ (ps : List (Nat × Nat)), (ps.flatMap spread).Nodup → ∀ c b, headOf (headsAll ps) c = some b → headOf (headsAll ps) b = some c := by
  intro ps
  induction ps using snoc_ind with
  | h0 => intro _ c b h; cases h
  | h1 l e ih =>
    intro nd c b h
    rw [List.flatMap_append, List.flatMap_singleton, List.nodup_append] at nd
    obtain ⟨n1, n2, n3⟩ := nd
    rw [headsAll_at] at h ⊢
    split at h
    · rename_i q
      obtain rfl := Option.some.inj h
      by_cases z : e.1 = e.2
      · rw [if_pos z, q, z]
      · rw [if_neg z, if_pos rfl, q]
    · rename_i q
      split at h
      · rename_i q1
        obtain rfl := Option.some.inj h
        rw [if_pos rfl, q1]
      · rename_i q1
        obtain ⟨d1, d2⟩ := heads_dom l c b h
        have b1 : b ≠ e.1 := fun z => n3 b d2 e.1 (mem_spread.mpr (.inl rfl)) z
        have b2 : b ≠ e.2 := fun z => n3 b d2 e.2 (mem_spread.mpr (.inr rfl)) z
        rw [if_neg b2, if_neg b1]
        exact ih n1 c b h
/-- turns found again by what a font keeps -/
theorem turn_due {S : Str} {h : List (Nat × Nat)} (sym : ∀ c b, headOf h c = some b → headOf h b = some c) (inS : ∀ c b, headOf h c = some b → b ∈ S.cps.toList) {c : Nat} (hc : c ∈ S.cps.toList) : turnOf (dueOf S h) c = headOf h c := by
  have mem : ∀ e ∈ dueOf S h, headOf h e.1 = some e.2 := by
    intro e he
    unfold dueOf at he
    obtain ⟨h1, _⟩ := List.mem_filter.mp he
    obtain ⟨x, hx, rfl⟩ := List.mem_map.mp h1
    obtain ⟨_, h3⟩ := List.mem_filter.mp hx
    obtain ⟨b, hb⟩ := Option.isSome_iff_exists.mp h3
    show headOf h x = some ((headOf h x).getD 0)
    rw [hb]
    rfl
  have find : ∀ l : List (Nat × Nat), (∀ e ∈ l, headOf h e.1 = some e.2) → (∃ e ∈ l, c = e.1 ∨ c = e.2) → turnOf l c = headOf h c := by
    intro l
    induction l with
    | nil => intro _ ⟨e, he, _⟩; cases he
    | cons e l ih =>
      intro m ⟨e', he', q⟩
      have me := m e List.mem_cons_self
      show (if c = e.1 then some e.2 else if c = e.2 then some e.1 else turnOf l c) = _
      split
      · rename_i z
        rw [z, me]
      · rename_i z
        split
        · rename_i z2
          rw [z2]
          exact (sym _ _ me).symm
        · rename_i z2
          refine ih (fun x hx => m x (List.mem_cons_of_mem _ hx)) ⟨e', ?_, q⟩
          rcases List.mem_cons.mp he' with rfl | he'
          · exact absurd q (fun q => q.elim z z2)
          · exact he'
  have none' : ∀ l : List (Nat × Nat), (∀ e ∈ l, c ≠ e.1 ∧ c ≠ e.2) → turnOf l c = none := by
    intro l
    induction l with
    | nil => intro _; rfl
    | cons e l ih =>
      intro m
      obtain ⟨m1, m2⟩ := m e List.mem_cons_self
      show (if c = e.1 then some e.2 else if c = e.2 then some e.1 else turnOf l c) = _
      rw [if_neg m1, if_neg m2]
      exact ih fun x hx => m x (List.mem_cons_of_mem _ hx)
  cases hh : headOf h c with
  | none =>
    refine none' _ fun e he => ⟨fun z => ?_, fun z => ?_⟩
    · have := mem e he
      rw [← z, hh] at this
      cases this
    · have := sym _ _ (mem e he)
      rw [← z, hh] at this
      cases this
  | some b =>
    rw [← hh]
    refine find _ mem ?_
    have hb := inS c b hh
    have put : ∀ x y, x ∈ S.cps.toList → headOf h x = some y → S.cps.toList.idxOf x ≤ S.cps.toList.idxOf y → (x, y) ∈ dueOf S h := by
      intro x y hx hxy le
      unfold dueOf
      refine List.mem_filter.mpr ⟨List.mem_map.mpr ⟨x, List.mem_filter.mpr ⟨hx, by rw [hxy]; rfl⟩, by rw [hxy]; rfl⟩, decide_eq_true le⟩
    by_cases le : S.cps.toList.idxOf c ≤ S.cps.toList.idxOf b
    · exact ⟨_, put c b hc hh le, .inl rfl⟩
    · exact ⟨_, put b c hb (sym _ _ hh) (by omega), .inr rfl⟩
end My
end
section
set_option Elab.async false
set_option linter.all false
set_option maxRecDepth 100000
set_option maxHeartbeats 4000000
namespace My
open PySem PySem.Spec PyProof.Rows L2
theorem heads_iff : ∀ (ps : List (Nat × Nat)), (ps.flatMap spread).Nodup → ∀ c b, headOf (headsAll ps) c = some b ↔ (c, b) ∈ ps ∨ (b, c) ∈ ps := by
  intro ps
  induction ps using snoc_ind with
  | h0 => intro _ c b; simp [headsAll, headOf]
  | h1 l e ih =>
    intro nd c b
    rw [List.flatMap_append, List.flatMap_singleton, List.nodup_append] at nd
    obtain ⟨n1, n2, n3⟩ := nd
    obtain ⟨e1, e2⟩ := e
    have off : ∀ x y, (x, y) ∈ l → x ≠ e1 ∧ x ≠ e2 ∧ y ≠ e1 ∧ y ≠ e2 := by
      intro x y h
      have hx : x ∈ l.flatMap spread := List.mem_flatMap.mpr ⟨_, h, mem_spread.mpr (.inl rfl)⟩
      have hy : y ∈ l.flatMap spread := List.mem_flatMap.mpr ⟨_, h, mem_spread.mpr (.inr rfl)⟩
      exact ⟨fun z => n3 x hx e1 (mem_spread.mpr (.inl rfl)) z, fun z => n3 x hx e2 (mem_spread.mpr (.inr rfl)) z, fun z => n3 y hy e1 (mem_spread.mpr (.inl rfl)) z, fun z => n3 y hy e2 (mem_spread.mpr (.inr rfl)) z⟩
    rw [headsAll_at]
    simp only [List.mem_append, List.mem_singleton, Prod.mk.injEq]
    constructor
    · intro h
      split at h
      · rename_i q
        exact .inr (.inr ⟨(Option.some.inj h).symm, q⟩)
      · split at h
        · rename_i q
          exact .inl (.inr ⟨q, (Option.some.inj h).symm⟩)
        · exact ((ih n1 c b).mp h).elim (fun z => .inl (.inl z)) fun z => .inr (.inl z)
    · rintro ((h | ⟨rfl, rfl⟩) | (h | ⟨rfl, rfl⟩))
      · obtain ⟨a1, a2, _, _⟩ := off _ _ h
        rw [if_neg a2, if_neg a1]
        exact (ih n1 c b).mpr (.inl h)
      · by_cases z : c = b
        · rw [if_pos z, z]
        · rw [if_neg z, if_pos rfl]
      · obtain ⟨_, _, a1, a2⟩ := off _ _ h
        rw [if_neg a2, if_neg a1]
        exact (ih n1 c b).mpr (.inr h)
      · rw [if_pos rfl]
/-- turns in another order, some of them the other way round -/
structure SameTurns (ps qs : List (Nat × Nat)) : Prop where
  mem : ∀ c b, (c, b) ∈ ps ∨ (b, c) ∈ ps ↔ (c, b) ∈ qs ∨ (b, c) ∈ qs
  perm : (qs.flatMap spread).Perm (ps.flatMap spread)
theorem same_heads {ps qs : List (Nat × Nat)} (s : SameTurns ps qs) (nd : (ps.flatMap spread).Nodup) (c : Nat) : headOf (headsAll qs) c = headOf (headsAll ps) c := by
  have nq := s.perm.nodup_iff.mpr nd
  have key : ∀ b, headOf (headsAll qs) c = some b ↔ headOf (headsAll ps) c = some b := fun b => (heads_iff qs nq c b).trans ((s.mem c b).symm.trans (heads_iff ps nd c b).symm)
  cases h : headOf (headsAll ps) c with
  | some b => exact (key b).mpr h
  | none =>
    cases h2 : headOf (headsAll qs) c with
    | none => rfl
    | some b =>
      have := (key b).mp h2
      rw [h] at this
      cases this
theorem due_congr {S : Str} {h k : List (Nat × Nat)} (e : ∀ c, headOf h c = headOf k c) : dueOf S h = dueOf S k := by
  unfold dueOf
  have e2 : (fun c => (headOf h c).isSome) = fun c => (headOf k c).isSome := funext fun c => by rw [e]
  have e3 : (fun c => (c, (headOf h c).getD 0)) = fun c => (c, (headOf k c).getD 0) := funext fun c => by rw [e]
  rw [e2, e3]
theorem spread_swap (a b : Nat) : (spread (b, a)).Perm (spread (a, b)) := by
  unfold spread
  by_cases h : a = b
  · subst h
    exact .refl _
  · rw [if_neg (fun z => h z.symm), if_neg h]
    exact List.Perm.swap _ _ _
theorem same_perm {ps qs : List (Nat × Nat)} (p : qs.Perm ps) : SameTurns ps qs := ⟨fun c b => by rw [p.mem_iff, p.mem_iff], p.flatMap_right _⟩
theorem same_trans {ps qs rs : List (Nat × Nat)} (a : SameTurns ps qs) (b : SameTurns qs rs) : SameTurns ps rs := ⟨fun x y => (a.mem x y).trans (b.mem x y), b.perm.trans a.perm⟩
theorem same_flip : ∀ {ps qs : List (Nat × Nat)}, Paired (fun e e' => e' = e ∨ e' = (e.2, e.1)) ps qs → SameTurns ps qs
  | _, _, .nil => ⟨fun _ _ => Iff.rfl, .refl _⟩
  | _, _, .cons (a := e) (b := e') h t => by
    have r := same_flip t
    obtain ⟨a, b⟩ := e
    refine ⟨fun c d => ?_, ?_⟩
    · have rm := r.mem c d
      simp only [List.mem_cons]
      rcases h with rfl | rfl
      · constructor
        · rintro ((z | z) | (z | z))
          · exact .inl (.inl z)
          · exact (rm.mp (.inl z)).elim (fun z => .inl (.inr z)) fun z => .inr (.inr z)
          · exact .inr (.inl z)
          · exact (rm.mp (.inr z)).elim (fun z => .inl (.inr z)) fun z => .inr (.inr z)
        · rintro ((z | z) | (z | z))
          · exact .inl (.inl z)
          · exact (rm.mpr (.inl z)).elim (fun z => .inl (.inr z)) fun z => .inr (.inr z)
          · exact .inr (.inl z)
          · exact (rm.mpr (.inr z)).elim (fun z => .inl (.inr z)) fun z => .inr (.inr z)
      · simp only [Prod.mk.injEq]
        constructor
        · rintro ((⟨rfl, rfl⟩ | z) | (⟨rfl, rfl⟩ | z))
          · exact .inr (.inl ⟨rfl, rfl⟩)
          · exact (rm.mp (.inl z)).elim (fun z => .inl (.inr z)) fun z => .inr (.inr z)
          · exact .inl (.inl ⟨rfl, rfl⟩)
          · exact (rm.mp (.inr z)).elim (fun z => .inl (.inr z)) fun z => .inr (.inr z)
        · rintro ((⟨rfl, rfl⟩ | z) | (⟨rfl, rfl⟩ | z))
          · exact .inr (.inl ⟨rfl, rfl⟩)
          · exact (rm.mpr (.inl z)).elim (fun z => .inl (.inr z)) fun z => .inr (.inr z)
          · exact .inl (.inl ⟨rfl, rfl⟩)
          · exact (rm.mpr (.inr z)).elim (fun z => .inl (.inr z)) fun z => .inr (.inr z)
    · rw [List.flatMap_cons, List.flatMap_cons]
      rcases h with rfl | rfl
      · exact List.Perm.append_left _ r.perm
      · exact (spread_swap a b).append r.perm
/-- what the program keeps of such turns -/
theorem heads_from {S : Str} : ∀ (l l0 : List (Nat × Nat)), ((l0 ++ l).flatMap spread).Nodup → (∀ c ∈ l.flatMap spread, c ∈ S.cps.toList) → headsFrom S (headsAll l0) (l.map fun e => .tuple [.str ⟨#[e.1]⟩, .str ⟨#[e.2]⟩]) = some (headsAll (l0 ++ l)) := by
  intro l
  induction l with
  | nil => intro l0 _ _; rw [List.append_nil]; rfl
  | cons e l ih =>
    intro l0 nd inS
    obtain ⟨a, b⟩ := e
    have ia : a ∈ S.cps.toList := inS a (List.mem_flatMap.mpr ⟨_, List.mem_cons_self, mem_spread.mpr (.inl rfl)⟩)
    have ib : b ∈ S.cps.toList := inS b (List.mem_flatMap.mpr ⟨_, List.mem_cons_self, mem_spread.mpr (.inr rfl)⟩)
    have sD : ∀ x, x ∈ S.cps.toList → signD S (.str ⟨#[x]⟩) = true := by
      intro x hx
      rw [signD_str]
      have e1 : (⟨#[x]⟩ : Str).length = 1 := rfl
      rw [e1]
      simp only [decide_true, Bool.true_and, List.all_cons, List.all_nil, Bool.and_true]
      exact decide_eq_true hx
    have pD : pairOf S (.tuple [.str ⟨#[a]⟩, .str ⟨#[b]⟩]) = some (a, b) := by
      show (if (signD S (.str ⟨#[a]⟩) && signD S (.str ⟨#[b]⟩)) = true then some _ else none) = _
      rw [sD a ia, sD b ib]
      rfl
    rw [List.flatMap_append, List.nodup_append] at nd
    obtain ⟨n1, n2, n3⟩ := nd
    have off : ∀ x, x = a ∨ x = b → headOf (headsAll l0) x = none := by
      intro x hx
      cases h : headOf (headsAll l0) x with
      | none => rfl
      | some y =>
        obtain ⟨d1, _⟩ := heads_dom l0 x y h
        exact absurd rfl (n3 x d1 x (List.mem_flatMap.mpr ⟨(a, b), List.mem_cons_self, mem_spread.mpr hx⟩))
    rw [List.map_cons, headsFrom_cons, pD]
    show (if ((headOf (headsAll l0) a).isSome || (headOf (headsAll l0) b).isSome) = true then none else headsFrom S (putN (putN (headsAll l0) a b) b a) _) = _
    rw [off a (.inl rfl), off b (.inr rfl), if_neg (by decide)]
    have e2 : putN (putN (headsAll l0) a b) b a = headsAll (l0 ++ [(a, b)]) := (headsAll_snoc l0 (a, b)).symm
    rw [e2, ih (l0 ++ [(a, b)]) ?_ ?_, List.append_assoc]
    · rfl
    · rw [List.append_assoc]
      show ((l0 ++ (a, b) :: l).flatMap spread).Nodup
      rw [List.flatMap_append, List.nodup_append]
      exact ⟨n1, n2, n3⟩
    · intro c hc
      refine inS c ?_
      rw [List.flatMap_cons]
      exact List.mem_append_right _ hc
theorem kept_same {S : Str} {ps qs : List (Nat × Nat)} (s : SameTurns ps qs) (nd : (ps.flatMap spread).Nodup) (inS : ∀ c ∈ ps.flatMap spread, c ∈ S.cps.toList) :
    (headsFrom S [] (qs.map fun e => .tuple [.str ⟨#[e.1]⟩, .str ⟨#[e.2]⟩])).map (dueOf S) = some (dueOf S (headsAll ps)) := by
  have := heads_from (S := S) qs [] (by simpa using s.perm.nodup_iff.mpr nd) (fun c hc => inS c (s.perm.mem_iff.mp hc))
  have e : headsFrom S [] (qs.map fun e => .tuple [.str ⟨#[e.1]⟩, .str ⟨#[e.2]⟩]) = some (headsAll qs) := by
    rw [List.nil_append] at this
    exact this
  rw [e, Option.map_some, due_congr (same_heads s nd)]
end My
end
section
set_option Elab.async false
set_option linter.all false
set_option maxRecDepth 100000
set_option maxHeartbeats 4000000
namespace My
open PySem PySem.Spec PyProof.Rows L2
theorem due_nil (S : Str) : dueOf S [] = [] := by
  unfold dueOf
  have : S.cps.toList.filter (fun c => (headOf [] c).isSome) = [] := by
    rw [List.filter_eq_nil_iff]
    intro c _
    simp [headOf]
  rw [this]
  rfl
theorem kept_nilT (S : Str) : keptD S (.tuple []) = some [] := by
  show some (dueOf S []) = _
  rw [due_nil]
theorem kept_nilL (S : Str) : keptD S (.list []) = some [] := by
  show some (dueOf S []) = _
  rw [due_nil]
end My
end
section
set_option Elab.async false
set_option linter.all false
set_option maxRecDepth 100000
set_option maxHeartbeats 4000000
namespace My
open PySem PySem.Spec PyProof.Rows L2
/-! ### how long a shown value can be -/
mutual
def wt : PyData → Nat
  | .str z => 10 * z.length + 2
  | .list ds => wtAll ds + 4
  | .tuple ds => wtAll ds + 4
  | d => d.shown.length
def wtAll : List PyData → Nat
  | [] => 0
  | d :: ds => wt d + 2 + wtAll ds
end
mutual
/-- every character of every text is a character -/
def chr : PyData → Bool
  | .str z => z.cps.toList.all fun c => decide (c < 16 ^ 8)
  | .list ds => chrAll ds
  | .tuple ds => chrAll ds
  | _ => true
def chrAll : List PyData → Bool
  | [] => true
  | d :: ds => chr d && chrAll ds
end
theorem sum_shown (ds : List PyData) (h : ∀ d ∈ ds, d.shown.length ≤ wt d) : ((PyData.shownAll ds).map (·.length)).sum + (PyData.shownAll ds).length * 2 ≤ wtAll ds := by
  induction ds with
  | nil => exact Nat.le_refl _
  | cons d ds ih =>
    have h1 := h d List.mem_cons_self
    have h2 := ih fun x hx => h x (List.mem_cons_of_mem _ hx)
    show ((d.shown :: PyData.shownAll ds).map (·.length)).sum + (d.shown :: PyData.shownAll ds).length * 2 ≤ wt d + 2 + wtAll ds
    rw [List.map_cons, List.sum_cons, List.length_cons]
    omega
theorem len_app (x y : Str) : (x ++ y).length = x.length + y.length := by
  show (x.cps ++ y.cps).size = _
  rw [Array.size_append]
  rfl
theorem from_le : ∀ (ts : List Str) (k : Nat) (acc : Str), (textFrom k acc ts).length ≤ acc.length + (ts.map (·.length)).sum + ts.length * 2
  | [], k, acc => Nat.le_refl _
  | t :: r, k, acc => by
    have ih := from_le r (k + 1) (acc ++ (if k > 0 then ", " else "" : String) ++ t)
    have hs : ((if k > 0 then ", " else "" : String) : Str).length ≤ 2 := by
      by_cases h : k > 0
      · rw [if_pos h]; decide
      · rw [if_neg h]; decide
    rw [len_app, len_app] at ih
    show (textFrom (k + 1) (acc ++ (if k > 0 then ", " else "" : String) ++ t) r).length ≤ _
    rw [List.map_cons, List.sum_cons, List.length_cons]
    omega
theorem list_le (ts : List Str) : (listText ts).length ≤ (ts.map (·.length)).sum + ts.length * 2 + 4 := by
  have := from_le ts 0 "["
  show (textFrom 0 "[" ts ++ "]").length ≤ _
  rw [len_app]
  have e1 : ("[" : Str).length = 1 := by decide
  have e2 : ("]" : Str).length = 1 := by decide
  omega
theorem tuple_le (ts : List Str) : (tupleText ts).length ≤ (ts.map (·.length)).sum + ts.length * 2 + 4 := by
  have := StrLaws.join_length_le ", " ts
  have e : (PySem.Str.ofString ", ").length = 2 := by decide
  rw [e] at this
  have hs : ((if ts.length == 1 then ",)" else ")" : String) : Str).length ≤ 2 := by
    by_cases h : (ts.length == 1) = true
    · rw [if_pos h]; decide
    · rw [if_neg h]; decide
  show (("(" : Str) ++ Str.join ", " ts ++ (if ts.length == 1 then ",)" else ")" : String)).length ≤ _
  rw [len_app, len_app]
  have e1 : ("(" : Str).length = 1 := by decide
  omega
mutual
theorem shown_wt : ∀ d : PyData, chr d = true → d.shown.length ≤ wt d
  | .none, _ => Nat.le_refl _
  | .bool _, _ => Nat.le_refl _
  | .int _, _ => Nat.le_refl _
  | .dict _, _ => Nat.le_refl _
  | .str z, h => by
    simp only [chr, List.all_eq_true, decide_eq_true_eq] at h
    exact StrLaws.reprText_len z h
  | .list ds, h => by
    have h1 := sum_shown ds (shown_wtA ds h)
    have h2 := list_le (PyData.shownAll ds)
    show (listText (PyData.shownAll ds)).length ≤ wtAll ds + 4
    omega
  | .tuple ds, h => by
    have h1 := sum_shown ds (shown_wtA ds h)
    have h2 := tuple_le (PyData.shownAll ds)
    show (tupleText (PyData.shownAll ds)).length ≤ wtAll ds + 4
    omega
theorem shown_wtA : ∀ ds : List PyData, chrAll ds = true → ∀ d ∈ ds, d.shown.length ≤ wt d
  | [], _, d, hd => by cases hd
  | e :: ds, h, d, hd => by
    simp only [chrAll, Bool.and_eq_true] at h
    rcases List.mem_cons.mp hd with he | hd
    · rw [he]
      exact shown_wt e h.1
    · exact shown_wtA ds h.2 d hd
end
end My
end
section
set_option Elab.async false
set_option linter.all false
set_option maxRecDepth 100000
set_option maxHeartbeats 4000000
namespace My
open PySem PySem.Spec PyProof.Rows L2
/-! ### data that a law shows -/
theorem alpha_small : ∀ c ∈ alphabet.cps.toList, c < 16 ^ 8 := by decide +kernel
theorem pairs_data : ∀ l : List (Nat × Nat), (∀ e ∈ l, e.1 ∈ alphabet.cps.toList ∧ e.2 ∈ alphabet.cps.toList) →
    chrAll (l.map pairD) = true ∧ PyData.showableAll (l.map pairD) = true ∧ PyData.depthAll (l.map pairD) ≤ 3 ∧ wtAll (l.map pairD) ≤ 40 * l.length ∧ PyData.hasDictAll (l.map pairD) = false := by
  intro l
  induction l with
  | nil => intro _; exact ⟨rfl, rfl, Nat.zero_le _, Nat.zero_le _, rfl⟩
  | cons e l ih =>
    intro h
    obtain ⟨a, b⟩ := e
    obtain ⟨h1, h2⟩ := h (a, b) List.mem_cons_self
    obtain ⟨i1, i2, i3, i4, i5⟩ := ih fun x hx => h x (List.mem_cons_of_mem _ hx)
    have ca : a < 16 ^ 8 := alpha_small a h1
    have cb : b < 16 ^ 8 := alpha_small b h2
    have c1 : chr (pairD (a, b)) = true := by
      simp only [pairD, chr, chrAll, Bool.and_eq_true, List.all_eq_true, decide_eq_true_eq]
      refine ⟨fun x hx => ?_, fun x hx => ?_, trivial⟩
      · have : x = a := by simpa using hx
        rw [this]; exact ca
      · have : x = b := by simpa using hx
        rw [this]; exact cb
    refine ⟨?_, ?_, ?_, ?_, ?_⟩
    · show (chr (pairD (a, b)) && chrAll (l.map pairD)) = true
      rw [c1, i1]
      rfl
    · show (PyData.showable (pairD (a, b)) && PyData.showableAll (l.map pairD)) = true
      rw [i2]
      rfl
    · show max (PyData.depth (pairD (a, b))) (PyData.depthAll (l.map pairD)) ≤ 3
      exact Nat.max_le.mpr ⟨by show 1 ≤ 3; decide, i3⟩
    · show wt (pairD (a, b)) + 2 + wtAll (l.map pairD) ≤ 40 * (l.length + 1)
      have : wt (pairD (a, b)) = 32 := rfl
      omega
    · show (PyData.hasDict (pairD (a, b)) || PyData.hasDictAll (l.map pairD)) = false
      rw [i5]
      rfl
/-- pairs as a font keeps them -/
theorem rp_pairs {K : PySem.W.Frag} {H : Hp} {p : Addr} {o : HO} (hp : H p = some o) (no : ∀ xs, o ≠ .tup xs) {st : Bool} : ∀ {ps : List (Nat × Nat)} {ys : List V}, PairsAt H ps ys → RpAll K p H st ys (ps.map pairD)
  | _, _, .nil => .nil _
  | _, _, .cons ⟨q, e, h⟩ t => by
    subst e
    exact .cons (.tup h (fun z => by rw [z, hp] at h; exact no _ (Option.some.inj h)) (.cons (.str _ _) (.cons (.str _ _) (.nil _)))) (rp_pairs hp no t)
theorem due_le (S : Str) (h : List (Nat × Nat)) : (dueOf S h).length ≤ S.length := by
  unfold dueOf
  refine Nat.le_trans (List.length_filter_le _ _) ?_
  rw [List.length_map]
  refine Nat.le_trans (List.length_filter_le _ _) ?_
  exact Nat.le_of_eq Array.length_toList
theorem due_in {S : Str} {h : List (Nat × Nat)} (inS : ∀ c b, headOf h c = some b → b ∈ S.cps.toList) : ∀ e ∈ dueOf S h, e.1 ∈ S.cps.toList ∧ e.2 ∈ S.cps.toList := by
  intro e he
  unfold dueOf at he
  obtain ⟨h1, _⟩ := List.mem_filter.mp he
  obtain ⟨x, hx, rfl⟩ := List.mem_map.mp h1
  obtain ⟨h2, h3⟩ := List.mem_filter.mp hx
  obtain ⟨b, hb⟩ := Option.isSome_iff_exists.mp h3
  refine ⟨h2, ?_⟩
  show (headOf h x).getD 0 ∈ _
  rw [hb]
  exact inS x b hb
/-- what is shown of a font: its signs, its turns, how many signs -/
def fontData (S : Str) (l : List (Nat × Nat)) : PyData := .tuple [.str S, .tuple (l.map pairD), .int S.length]
theorem small_int : ∀ n : Fin 11, (PyData.int ((n : Nat) : Int)).shown.length ≤ 10 ∧ (PyData.int ((n : Nat) : Int)).showable = true := by decide +kernel
theorem font_data {S : Str} {l : List (Nat × Nat)} (hS : S.length ≤ 10) (ab : ∀ c ∈ S.cps.toList, c ∈ alphabet.cps.toList) (hl : l.length ≤ 10) (inS : ∀ e ∈ l, e.1 ∈ S.cps.toList ∧ e.2 ∈ S.cps.toList) :
    (fontData S l).showable = true ∧ (fontData S l).shown.length ≤ sizeLine ∧ (fontData S l).depth ≤ 60 ∧ (fontData S l).hasDict = false := by
  obtain ⟨h1, h2, h3, h4, h5⟩ := pairs_data l fun e he => ⟨ab _ (inS e he).1, ab _ (inS e he).2⟩
  obtain ⟨n1, n2⟩ := small_int ⟨S.length, by omega⟩
  have cS : chr (.str S) = true := by
    simp only [chr, List.all_eq_true, decide_eq_true_eq]
    exact fun c hc => alpha_small c (ab c hc)
  refine ⟨?_, ?_, ?_, ?_⟩
  · show (true && (PyData.showableAll (l.map pairD) && (PyData.showable (.int S.length) && true))) = true
    rw [h2, n2]
    rfl
  · refine Nat.le_trans (shown_wt _ ?_) ?_
    · show (chr (.str S) && (chrAll (l.map pairD) && (true && true))) = true
      rw [cS, h1]
      rfl
    · show (10 * S.length + 2 + 2 + (wtAll (l.map pairD) + 4 + 2 + ((PyData.int S.length).shown.length + 2 + 0))) + 4 ≤ sizeLine
      have : (1000 : Nat) ≤ sizeLine := by decide
      have n3 : (PyData.int S.length).shown.length ≤ 10 := n1
      omega
  · show max 0 (max (PyData.depthAll (l.map pairD) + 1) (max 0 0)) + 1 ≤ 60
    omega
  · show (false || (PyData.hasDictAll (l.map pairD) || (false || false))) = false
    rw [h5]
    rfl
end My
end
section
set_option Elab.async false
set_option linter.all false
set_option maxRecDepth 100000
set_option maxHeartbeats 4000000
namespace My
open PySem PySem.Spec PyProof.Rows L2 LamX
/-! ### frames that let tables grow -/
section
variable {K : PySem.W.Frag} {p : Addr} {H H1 : Hp}
mutual
theorem Rp.ext (s : ExtN H H1) : ∀ {st : Bool} {d : PyData} {v : V}, Rp K p H st v d → Rp K p H1 st v d
  | _, _, _, .non _ => .non _
  | _, _, _, .bl _ b => .bl _ b
  | _, _, _, .int _ i => .int _ i
  | _, _, _, .str _ z => .str _ z
  | _, _, _, .lst h n m r => .lst (s _ _ h fun _ z => by cases z) n m (RpAll.ext s r)
  | _, _, _, .tup h n r => .tup (s _ _ h fun _ z => by cases z) n (RpAll.ext s r)
  | _, _, _, .dct h n r1 r2 e => .dct (s _ _ h fun _ z => by cases z) n (RpAll.ext s r1) (RpAll.ext s r2) e
  | _, _, _, .emp h => .emp h
theorem RpAll.ext (s : ExtN H H1) : ∀ {st : Bool} {ds : List PyData} {vs : List V}, RpAll K p H st vs ds → RpAll K p H1 st vs ds
  | _, _, _, .nil _ => .nil _
  | _, _, _, .cons a b => .cons (Rp.ext s a) (RpAll.ext s b)
end
theorem PairsAt.ext (s : ExtN H H1) : ∀ {ps : List (Nat × Nat)} {ys : List V}, PairsAt H ps ys → PairsAt H1 ps ys
  | _, _, .nil => .nil
  | _, _, .cons ⟨q, e, h⟩ t => .cons ⟨q, e, s _ _ h fun _ z => by cases z⟩ (PairsAt.ext s t)
theorem FontAt.ext {C a : Addr} {S : Str} {ps : List (Nat × Nat)} (s : ExtN H H1) (h : FontAt H C a S ps) : FontAt H1 C a S ps := by
  obtain ⟨dx, r, ys, h1, h2, h3⟩ := h.at_
  exact ⟨dx, r, ys, s _ _ h1 (fun _ z => by cases z), s _ _ h2 (fun _ z => by cases z), h3.ext s⟩
theorem PenAt.ext {c : Addr} {n : Nat} (s : ExtN H H1) (h : PenAt H p c n) : PenAt H1 p c n := by
  obtain ⟨cs, u, z, h1, h2, h3, h4, h5⟩ := h
  exact ⟨cs, u, z, s _ _ h1 (fun _ z => by cases z), s _ _ h2 (fun _ z => by cases z), h3, h4, h5⟩
/-- tables stay what they are where only the pen changes -/
theorem Tabs.but {c : Addr} {n : Nat} {T : List (Addr × Str)} (h : PenAt H p c n) (b : But p H H1) (t : Tabs T H) : Tabs T H1 := fun e he => by
  obtain ⟨ps, h1, h2, h3⟩ := t e he
  obtain ⟨cs, u, z, hp, _⟩ := h
  refine ⟨ps, b _ _ (ne_of h1 hp (by intro z; cases z)) h1, h2, fun pos cv hc => ?_⟩
  obtain ⟨c', e1, e2⟩ := h3 pos cv hc
  exact ⟨c', e1, b _ _ (fun z => by rw [z, hp] at e2; have := Option.some.inj e2; unfold CodeO at this; cases this) e2⟩
end
/-- data that a law may show: what it is about -/
structure Shown (K : PySem.W.Frag) (p : Addr) (H : Hp) (v : V) (d : PyData) : Prop where
  rp : Rp K p H d.hasDict v d
  fit : fit d = true
  dep : d.depth ≤ 4
  shw : d.showable = true
  len : d.shown.length ≤ 200
section
variable {K : PySem.W.Frag} {p : Addr} {H H1 : Hp} {v : V} {d : PyData}
theorem Shown.but (s : But p H H1) (h : Shown K p H v d) : Shown K p H1 v d := ⟨h.rp.but s, h.fit, h.dep, h.shw, h.len⟩
theorem Shown.same (s : Same H H1) (h : Shown K p H v d) : Shown K p H1 v d := h.but (.of s)
theorem Shown.ext (s : ExtN H H1) (h : Shown K p H v d) : Shown K p H1 v d := ⟨h.rp.ext s, h.fit, h.dep, h.shw, h.len⟩
theorem Shown.text (h : Shown K p H v d) : textFits sizeLine d := (fit.text h.fit).more (by decide)
/-- a list of one: it does not stand at sys.modules' place -/
theorem Shown.one {r : Addr} (h : Shown K p H v d) (hr : H r = some (.lst [v])) (n : r ≠ p) (n2 : r ≠ sysModules) : Rp K p H false (.ref r) (.list [d]) := by
  refine .lst hr n (fun _ => n2) (.cons ?_ (.nil _))
  show Rp K p H (d.hasDict || false) v d
  rw [Bool.or_false]
  exact h.rp
theorem one_data (h1 : d.showable = true) (h2 : d.shown.length ≤ 200) (h3 : d.depth ≤ 4) : (PyData.list [d]).showable = true ∧ (PyData.list [d]).shown.length ≤ sizeLine ∧ (PyData.list [d]).depth ≤ 60 := by
  refine ⟨?_, ?_, ?_⟩
  · show (d.showable && true) = true
    rw [h1]; rfl
  · have e : (PyData.list [d]).shown.length ≤ d.shown.length + 10 := by
      have := list_le [d.shown]
      have e2 : ([d.shown].map (·.length)).sum = d.shown.length := by simp
      rw [e2] at this
      show (listText [d.shown]).length ≤ _
      simp only [List.length_cons, List.length_nil] at this
      omega
    have : (1000 : Nat) ≤ sizeLine := by decide
    omega
  · show max d.depth 0 + 1 ≤ 60
    omega
theorem shown_str {z : Str} (h : z.length ≤ 10) (hc : ∀ c ∈ z.cps.toList, c < 16 ^ 8) : Shown K p H (.str z) (.str z) := by
  refine ⟨.str _ _, ?_, Nat.zero_le _, rfl, ?_⟩
  · show decide (z.length ≤ 4000) = true
    exact decide_eq_true (Nat.le_trans h (by decide))
  · refine Nat.le_trans (shown_wt _ ?_) ?_
    · simp only [chr, List.all_eq_true, decide_eq_true_eq]
      exact hc
    · show 10 * z.length + 2 ≤ 200
      omega
end
end My
end
section
set_option Elab.async false
set_option linter.all false
set_option maxRecDepth 100000
set_option maxHeartbeats 4000000
namespace My
open PySem PySem.Spec PyProof.Rows L2 LamX
/-! ### a statement's reading, weakened -/
theorem PS.weak {X : Cx} {st : Stmt} {t t' : TS} (h : PS X st t) (hw : ∀ D σ H, t' D σ H → t D σ H) : PS X st t' := ⟨fun pins s σ H D I q => h.run pins s σ H D I (hw D σ H q)⟩
/-! ### where no list is changed but one -/
def ExtL (H H' : Hp) : Prop := ∀ b o, H b = some o → (∀ xs, o ≠ .lst xs) → H' b = some o
section
variable {K : PySem.W.Frag} {H H1 : Hp}
theorem ExtL.wr {l : Addr} {xs : List V} {o : HO} (h : H l = some (.lst xs)) (w : Wr H l o H1) : ExtL H H1 := fun b u e n => by
  rw [w.els b (fun z => n xs (by rw [z, h] at e; exact (Option.some.inj e).symm))]
  exact e
theorem PairsAt.extL (s : ExtL H H1) : ∀ {ps : List (Nat × Nat)} {ys : List V}, PairsAt H ps ys → PairsAt H1 ps ys
  | _, _, .nil => .nil
  | _, _, .cons ⟨q, e, h⟩ t => .cons ⟨q, e, s _ _ h fun _ z => by cases z⟩ (PairsAt.extL s t)
theorem FontAt.extL {C a : Addr} {S : Str} {ps : List (Nat × Nat)} (s : ExtL H H1) (h : FontAt H C a S ps) : FontAt H1 C a S ps := by
  obtain ⟨dx, r, ys, h1, h2, h3⟩ := h.at_
  exact ⟨dx, r, ys, s _ _ h1 (fun _ z => by cases z), s _ _ h2 (fun _ z => by cases z), h3.extL s⟩
theorem Tabs.extL {T : List (Addr × Str)} (s : ExtL H H1) (t : Tabs T H) : Tabs T H1 := fun e he => by
  obtain ⟨ps, h1, h2, h3⟩ := t e he
  refine ⟨ps, s _ _ h1 (fun _ z => by cases z), h2, fun pos cv hc => ?_⟩
  obtain ⟨c', e1, e2⟩ := h3 pos cv hc
  exact ⟨c', e1, s _ _ e2 (fun _ z => by unfold CodeO at z; cases z)⟩
theorem PairsAt.but {p : Addr} {o : HO} (hp : H p = some o) (no : ∀ xs, o ≠ .tup xs) (s : But p H H1) : ∀ {ps : List (Nat × Nat)} {ys : List V}, PairsAt H ps ys → PairsAt H1 ps ys
  | _, _, .nil => .nil
  | _, _, .cons ⟨q, e, h⟩ t => .cons ⟨q, e, s _ _ (fun z => by rw [z, hp] at h; exact no _ (Option.some.inj h)) h⟩ (PairsAt.but hp no s t)
theorem PairsAt.pen {p c : Addr} {n : Nat} (hP : PenAt H p c n) (s : But p H H1) {ps : List (Nat × Nat)} {ys : List V} (h : PairsAt H ps ys) : PairsAt H1 ps ys := by
  obtain ⟨cs, u, z, hp, _⟩ := hP
  exact h.but hp (fun xs z => by cases z) s
theorem FontAt.pen {p c : Addr} {n : Nat} (hP : PenAt H p c n) (s : But p H H1) {C a : Addr} {S : Str} {ps : List (Nat × Nat)} (h : FontAt H C a S ps) : FontAt H1 C a S ps := by
  obtain ⟨dx, r, ys, h1, h2, h3⟩ := h.at_
  have h3' := h3.pen hP s
  obtain ⟨cs, u, z, hp, _⟩ := hP
  exact ⟨dx, r, ys, s _ _ (ne_of h1 hp (by intro z; cases z)) h1, s _ _ (ne_of h2 hp (by intro z; cases z)) h2, h3'⟩
/-- turns that are passed: what they are as data -/
theorem fit_pairs : ∀ qs : List (Nat × Nat), fitAll (qs.map pairD) = true
  | [] => rfl
  | e :: qs => by
    show (fit (pairD e) && fitAll (qs.map pairD)) = true
    rw [fit_pairs qs]
    rfl
theorem passed_data {qs : List (Nat × Nat)} (hl : qs.length ≤ 10) (ab : ∀ e ∈ qs, e.1 ∈ alphabet.cps.toList ∧ e.2 ∈ alphabet.cps.toList) {d : PyData} (hd : d = .list (qs.map pairD) ∨ d = .tuple (qs.map pairD)) :
    fit d = true ∧ d.showable = true ∧ d.shown.length ≤ sizeLine ∧ d.depth ≤ 60 := by
  obtain ⟨h1, h2, h3, h4, h5⟩ := pairs_data qs ab
  have f := fit_pairs qs
  have big : (1000 : Nat) ≤ sizeLine := by decide
  have hl2 : (qs.map pairD).length ≤ 4000 := by rw [List.length_map]; omega
  rcases hd with rfl | rfl
  · refine ⟨?_, h2, ?_, ?_⟩
    · show (decide ((qs.map pairD).length ≤ 4000) && fitAll (qs.map pairD)) = true
      rw [f, decide_eq_true hl2]; rfl
    · refine Nat.le_trans (shown_wt _ h1) ?_
      show wtAll (qs.map pairD) + 4 ≤ sizeLine
      omega
    · show PyData.depthAll (qs.map pairD) + 1 ≤ 60
      omega
  · refine ⟨?_, h2, ?_, ?_⟩
    · show (decide ((qs.map pairD).length ≤ 4000) && fitAll (qs.map pairD)) = true
      rw [f, decide_eq_true hl2]; rfl
    · refine Nat.le_trans (shown_wt _ h1) ?_
      show wtAll (qs.map pairD) + 4 ≤ sizeLine
      omega
    · show PyData.depthAll (qs.map pairD) + 1 ≤ 60
      omega
theorem good_fontD {m : Nat} {S : Str} {ps : List (Nat × Nat)} (hm : m ≤ 10) (g : Good m S ps) : fontD (.str S) = true := by
  rw [fontD_str, setD_str, decide_eq_true (p := 2 ≤ S.length ∧ S.length ≤ 10) ⟨g.lo, Nat.le_trans g.hi hm⟩, decide_eq_true g.nd, Bool.true_and, Bool.true_and, List.all_eq_true]
  exact fun c hc => decide_eq_true (g.ab c hc)
theorem good_nil {m : Nat} {S : Str} {ps : List (Nat × Nat)} (g : Good m S ps) : Good m S [] := ⟨g.lo, g.hi, g.nd, g.ab, List.nodup_nil, fun c hc => by cases hc⟩
end
/-! ### Font(..) -/
def qMk (K : PySem.W.Frag) (C : Addr) (dvs : List V) (t : TA) : TE := fun σ H Q => t σ H fun vs H1 => ∃ (S : Str) (v : V) (d : PyData) (ps : List (Nat × Nat)) (p : Addr), vs ++ dvs = [.str S, v] ∧ Rp K p H1 false v d ∧ fit d = true ∧ fontD (.str S) = true ∧ keptD S d = some ps ∧
  ∀ H' a, Same H1 H' → H1 a = none → FontAt H' C a S ps → Q (.ref a) H'
theorem pe_font {X : Cx} {C f : Addr} {fd : FuncData} {ds : List Value} {dvs : List V} {e : Expr} {es : List Expr} {p pos : Pos} {t : TA} (M : Mk X.K C f) (G : FnOk X.prog X.w X.K X.mg X.base CX0 4 f fd ["self", "signs", "turns"] (sp_init X.K C)) (hr : Room 5 X.A) (hg : Gl X "Font") (hm : X.mg "Font" = some (.ref C))
    (hb : Binds X.K fd ["self", "signs", "turns"] ds) (hd : Vals dvs ds) (ha : PA X (e :: es) t) (he : starEach (e :: es) X.env = (false, eval e X.env) :: starEach es X.env := by rfl) (hpl : (backTo pos (starEach es X.env)).any (·.1) = false := by rfl) :
    PE X (.Call (.Name "Font" p) (e :: es) [] pos) (qMk X.K C dvs t) :=
  PE.weak (pe_make M G hr hg hm hb hd pass0 (PA.mc ha) (by decide) he hpl) fun σ H Q q => ⟨_, q, fun vs H1 z => by
    obtain ⟨S, v, d, ps, p, e, hv, hf, hF, hK, k⟩ := z
    intro x dx hx hdx ne
    rw [e]
    exact ⟨x, dx, p, S, v, d, ps, rfl, upd_same, hv.but (.of (made_up hx hdx)), hf, hF, hK, fun H' bt ft => ⟨rfl, k H' x (made_same hx hdx bt) hx ft⟩⟩⟩
end My
end
section
set_option Elab.async false
set_option linter.all false
set_option maxRecDepth 100000
set_option maxHeartbeats 4000000
namespace My
open PySem PySem.Spec PyProof.Rows L2
/-! ### the turns, some of them the other way round -/
theorem lc_flip {K : PySem.W.Frag} {a D p c : Addr} {xs : List V} {ps : List (Nat × Nat)} {n i : Nat} {te : TE} {vs : List Nat} {σ : L2.St} {H1 : Hp} {Qd : Hp → Prop} (hP : PenAt H1 p c n) (hA : H1 a = some (.lst xs)) (hap : a ≠ p) (hps : PairsAt H1 ps xs) (small : xs.length ≤ 10) (free : H1 D = none)
    (hw : ∀ x, wipe ((wipe σ vs).set i (some x)) vs = wipe σ vs)
    (he : ∀ (j q : Nat) (e : Nat × Nat) (H' : Hp) (C : VK), j < xs.length → PenAt H' p c (n + j) → H' q = some (.tup [sg e.1, sg e.2]) → (∀ H2 r e', DrewP H' p c (n + j + 1) H2 → (e' = e ∨ e' = (e.2, e.1)) → H2 r = some (.tup [sg e'.1, sg e'.2]) → C (.ref r) H2) → te ((wipe σ vs).set i (some (.ref q))) H' C)
    (hd : ∀ H' zs qs, DrewP H1 p c (n + 10) H' → H' D = some (.lst zs) → PairsAt H' qs zs → SameTurns ps qs → qs.length ≤ 10 → Qd H') :
    ∃ W : Nat → Nat → Hp → Prop, (∃ m, W 0 m (upd H1 D (.lst []))) ∧ ∀ j m H, W j m H →
      ((Itl K a).stop j H ∧ Qd H) ∨ ((Itl K a).go j H ∧ ∃ Nx : Hp → Prop, (∀ H', Nx H' → ∃ m', m' < m ∧ W (j + 1) m' H') ∧ ∀ x H', (Itl K a).yld j H x H' → gName i x (wipe σ vs) H' fun σ2 H2 => wipe σ2 vs = wipe σ vs ∧ tYes σ2 H2 fun b H3 =>
        if b = true then te σ2 H3 fun y H4 => ∃ acc, H4 D = some (.lst acc) ∧ acc.length < sizeLine ∧ Nx (upd H4 D (.lst (acc ++ [y]))) else Nx H3) := by
  have pD : p ≠ D := hP.ne free
  have cD : c ≠ D := hP.neC free
  have hl := hps.length
  refine lc_it walk_list (fun j H' => But p H1 H' ∧ PenAt H' p c (n + j) ∧ ∃ zs qs, H' D = some (.lst zs) ∧ PairsAt H' qs zs ∧ Paired (fun e e' => e' = e ∨ e' = (e.2, e.1)) (ps.take j) qs ∧ zs.length = j)
    ⟨But.wr (But.refl H1) free .mk', (hP.mono (by omega)).els .mk' pD cD, [], [], upd_same, .nil, by simp; exact .nil, rfl⟩ (fun j H' _ q => SqL.of (q.1 _ _ hap hA)) ?_ ?_
  · rintro j x H2 H3 hj ⟨hB, hPj, zs, qs, hD, hqs, hpr, hzl⟩ ⟨rfl, hx⟩
    obtain ⟨e, he0, q, rfl, hq⟩ := Paired.at hps hx
    have qp : q ≠ p := hP.neT hq
    refine ⟨hw _, ?_⟩
    unfold tYes
    refine iteT (he j q e _ _ hj hPj (hB _ _ qp hq) fun H4 r e' d4 e'eq hr => ?_)
    have hD4 : H4 D = some (.lst zs) := d4.but _ _ pD.symm hD
    have hqs4 : PairsAt H4 qs zs := hqs.pen hPj d4.but
    have w5 : Wr H4 D (.lst (zs ++ [.ref r])) (upd H4 D (.lst (zs ++ [.ref r]))) := .mk'
    have rD : r ≠ D := ne_of hr hD4 (by intro z; cases z)
    refine ⟨zs, hD4, Nat.lt_of_le_of_lt (show zs.length ≤ 10 by omega) (by decide), But.wr (hB.trans d4.but) free w5, d4.pen.els w5 pD cD, _, qs ++ [e'], upd_same, Paired.snoc (hqs4.extL (ExtL.wr hD4 w5)) ⟨r, rfl, (w5.els r rD).trans hr⟩, ?_, by simp [hzl]⟩
    have nx : ps.take (j + 1) = ps.take j ++ [e] := by
      rw [List.take_add_one, he0]
      rfl
    rw [nx]
    exact Paired.snoc hpr e'eq
  · rintro H' ⟨hB, hPn, zs, qs, hD, hqs, hpr, hzl⟩
    rw [← hl, List.take_length] at hpr
    exact hd H' zs qs ⟨hB, hPn.mono (by omega)⟩ hD hqs (same_flip hpr) (by have := hpr.length; omega)
theorem paired_perm {α β : Type} {R : α → β → Prop} {r r' : List β} (p : r'.Perm r) : ∀ {l : List α}, Paired R l r → ∃ l', Paired R l' r' ∧ l'.Perm l := by
  induction p with
  | nil =>
    intro l h
    cases h
    exact ⟨[], .nil, .nil⟩
  | cons x _ ih =>
    intro l h
    cases h with
    | cons a t =>
      obtain ⟨l', h1, h2⟩ := ih t
      exact ⟨_ :: l', .cons a h1, h2.cons _⟩
  | swap x y l0 =>
    intro l h
    cases h with
    | cons a t =>
      cases t with
      | cons b t =>
        exact ⟨_, .cons b (.cons a t), .swap _ _ _⟩
  | trans _ _ ih1 ih2 =>
    intro l h
    obtain ⟨l1, h1, h2⟩ := ih2 h
    obtain ⟨l2, h3, h4⟩ := ih1 h1
    exact ⟨l2, h3, h4.trans h2⟩
end My
end
section
set_option Elab.async false
set_option linter.all false
set_option maxRecDepth 100000
set_option maxHeartbeats 4000000
/-! Qgood: drawn fonts. -/
namespace My
open PySem PySem.Spec PyProof.Rows L2
theorem good_mono {m n : Nat} {S : Str} {ps : List (Nat × Nat)} (h : m ≤ n) (g : Good m S ps) : Good n S ps := ⟨g.lo, Nat.le_trans g.hi h, g.nd, g.ab, g.tnd, g.tin⟩
theorem nodup_len {l m : List Nat} (nd : l.Nodup) (s : ∀ x ∈ l, x ∈ m) : l.length ≤ m.length := by
  induction l generalizing m with
  | nil => exact Nat.zero_le _
  | cons a l ih =>
    have ha := s a List.mem_cons_self
    obtain ⟨n1, n2⟩ := List.nodup_cons.mp nd
    have := ih (m := m.erase a) n2 fun x hx => (List.mem_erase_of_ne (fun z => n1 (by rw [← z]; exact hx))).mpr (s x (List.mem_cons_of_mem _ hx))
    rw [List.length_erase_of_mem ha] at this
    have pos : 0 < m.length := List.length_pos_of_mem ha
    rw [List.length_cons]
    omega
theorem pairs_len {S : Str} {ps : List (Nat × Nat)} (hG : Good 10 S ps) : ps.length ≤ 10 := by
  have h1 : ps.length ≤ (ps.flatMap spread).length := by
    clear hG
    induction ps with
    | nil => exact Nat.le_refl _
    | cons e l ih =>
      rw [List.flatMap_cons, List.length_append, List.length_cons]
      have : 1 ≤ (spread e).length := by unfold spread; split <;> simp
      omega
  have h2 : (ps.flatMap spread).length ≤ S.cps.toList.length := nodup_len hG.tnd fun c hc => hG.tin c hc
  have h3 : S.cps.toList.length = S.length := Array.length_toList
  have := hG.hi
  omega
theorem turns_ab {S : Str} {ps qs : List (Nat × Nat)} (hG : Good 10 S ps) (sm : SameTurns ps qs) : ∀ e ∈ qs, e.1 ∈ alphabet.cps.toList ∧ e.2 ∈ alphabet.cps.toList := fun e he =>
  ⟨hG.ab _ (hG.tin _ (sm.perm.mem_iff.mp (List.mem_flatMap.mpr ⟨e, he, mem_spread.mpr (.inl rfl)⟩))), hG.ab _ (hG.tin _ (sm.perm.mem_iff.mp (List.mem_flatMap.mpr ⟨e, he, mem_spread.mpr (.inr rfl)⟩)))⟩
end My
end
section
set_option Elab.async false
set_option linter.all false
set_option maxRecDepth 100000
set_option maxHeartbeats 4000000
namespace My
open PySem PySem.Spec PyProof.Rows L2
/-- the property signs of a font -/
structure SgnC (P : Program) (w : World) (K : PySem.W.Frag) (mg : Str → Option Value) (base : Heap) (C : Addr) : Prop where
  cls : Cls K C
  nS : NoAttr K C "_signs"
  ex : ∃ p g fd, PropOf K C "signs" p g ∧ FnOk P w K mg base CX0 2 g fd ["self"] (getSp C "_signs") ∧ Binds K fd ["self"] []
end My
end
section
set_option Elab.async false
set_option linter.all false
set_option maxRecDepth 100000
set_option maxHeartbeats 4000000
namespace My
open PySem PySem.Spec PyProof.Rows L2
/-- whether a value is a row of the signs -/
def rowD (S : Str) : PyData → Bool
  | .str z => z.cps.toList.all fun c => decide (c ∈ S.cps.toList)
  | _ => false
def sp_isRow (K : PySem.W.Frag) : Sp := fun vs H Q _ => ∃ (S : Str) (v : V) (d : PyData) (p : Addr), vs = [.str S, v] ∧ Rp K p H false v d ∧ textFits 4000 d ∧ ∀ H', Same H H' → Q (.bl (rowD S d)) H'
/-- a set as it is written -/
def setK (S z : Str) : List Nat := S.cps.toList.filter fun c => decide (c ∈ z.cps.toList)
def sp_written (K : PySem.W.Frag) (C IS : Addr) : Sp := fun vs H Q E => ∃ (a p : Addr) (S : Str) (ps : List (Nat × Nat)) (v : V) (d : PyData), vs = [.ref a, v] ∧ FontAt H C a S ps ∧ S.length ≤ 4000 ∧ Rp K p H false v d ∧ textFits 4000 d ∧
  (setD S d = false → Err E IS v H) ∧ (∀ z, d = .str z → setD S d = true → ∀ H', Same H H' → Q (.str (mkS (setK S z))) H')
end My
end
section
set_option Elab.async false
set_option linter.all false
set_option maxRecDepth 100000
set_option maxHeartbeats 4000000
namespace My
open PySem PySem.Spec PyProof.Rows L2
section
variable {P : Program} {w : World} {K : PySem.W.Frag} {mg : Str → Option Value} {base : Heap}
theorem sc_isRow : FnScope ["signs", "value", "sign"] ["signs", "value"] (defScope s_isRow) := ⟨rfl, rfl, rfl, by decide +kernel, rfl, by decide +kernel, by decide +kernel⟩
theorem ok_isRow {f : Addr} {fd : FuncData} (F : Fun K "is_row" "is_row" s_isRow f fd) (T : TB mg) : FnOk P w K mg base CX0 1 f fd ["signs", "value"] (sp_isRow K) := by
  refine F.ok sc_isRow (fun vs H Q E h => ?_) (fun cdv A outer s H vs Q E hr h => ?_)
  · obtain ⟨S, v, d, p, rfl, _⟩ := h
    rfl
  · obtain ⟨S, v, d, p, rfl, hd, hz, k⟩ := h
    refine ⟨_, pss_one (ps_ret (pe_and (pe_callB call_isi (by rfl) T.isi (by decide +kernel) (pa_cons (pv 1) (pa_cons (pe_bltn (v := .ty "str") (by rfl) T.str (by decide +kernel) rfl) pa_nil)))
      (pe_one (pe_callB (cr_all rfl) (by rfl) T.all (by decide +kernel) (pa_cons (pe_lc (own := [("sign", 2)]) (g := gName 2) (tt := tYes) rfl sc_isRow.nd (pi_str (pv 1)) (blkOk_by (own := [("sign", 2)]) (N := ["signs", "value", "sign"]) (sc := defScope s_isRow) (by decide +kernel))
        (fun _ _ _ _ _ => pg_name (i := 2) sc_isRow.nd rfl (Or.inl rfl)) (fun _ _ _ _ _ => pts_nil) (fun _ _ _ _ _ => pe_cmpR op_in_sign (pv 2) (pv 0) (by rfl))) pa_nil))))), ?_⟩
    refine ⟨_, rfl, _, _, _, _, _, rfl, .ty "str", hd.ty, kit_str d, _, rfl, ?_⟩
    cases d with
    | str z =>
      cases hd
      have hz : z.length ≤ 4000 := hz
      refine iteT ?_
      refine ⟨_, rfl, z, rfl, fun D hD => lc_ff walk_signs (fun _ => true) (fun x => match x with | .str y => .bl (y.cps.toList.all fun c => decide (c ∈ S.cps.toList)) | _ => .non) hD (fun _ _ => trivial) (by rw [signs_len]; exact Nat.lt_of_le_of_lt hz (by decide)) (fun x => rfl) (fun x H' C _ _ h => h _ (Same.refl _)) ?_ ?_⟩
      · intro x H' C hx _ _ hC
        obtain ⟨c, _, rfl⟩ := mem_signs hx
        refine ⟨_, rfl, _, rfl, c, S, rfl, rfl, ?_⟩
        have := hC H' (Same.refl _)
        simpa using this
      · intro H' sm hl
        refine ⟨D, z.cps.toList.map fun c => decide (c ∈ S.cps.toList), rfl, SqL.of ?_, ?_⟩
        · rw [hl, pv_filter_true]
          simp [signs]
        · have e : rowD S (.str z) = (z.cps.toList.map fun c => decide (c ∈ S.cps.toList)).all id := by
            rw [List.all_map]
            rfl
          rw [← e]
          exact k H' sm
    | _ => exact iteF (k H (Same.refl H))
end
end My
end
section
set_option Elab.async false
set_option linter.all false
set_option maxRecDepth 100000
set_option maxHeartbeats 4000000
/-! Ymath: how often a digit stands in the numbers from 1 on. -/
namespace My
/-- what the place p adds to the count of the digit d, up to m -/
def plc (p b m d : Nat) : Int := (p : Int) * ((m / (p * b) : Nat) : Int) + (if d < m / p % b then (p : Int) else 0) + (if d = m / p % b then ((m % p : Nat) : Int) + 1 else 0) - (if d = 0 then (p : Int) else 0)
/-- whether the digit at the place p of m is d -/
def digAt (p b m d : Nat) : Int := if p ≤ m ∧ m / p % b = d then 1 else 0
def plcT (p b m d : Nat) : Int := if p ≤ m then plc p b m d else 0
theorem div_step {p m : Nat} (hp : 0 < p) : (m % p + 1 < p ∧ (m + 1) / p = m / p ∧ (m + 1) % p = m % p + 1) ∨ (m % p + 1 = p ∧ (m + 1) / p = m / p + 1 ∧ (m + 1) % p = 0) := by
  have h := Nat.div_add_mod m p
  have hl := Nat.mod_lt m hp
  by_cases q : m % p + 1 < p
  · refine .inl ⟨q, ?_, ?_⟩
    · have e : m + 1 = (m % p + 1) + p * (m / p) := by omega
      rw [e, Nat.add_mul_div_left _ _ hp, Nat.div_eq_of_lt q, Nat.zero_add]
    · have e : m + 1 = (m % p + 1) + p * (m / p) := by omega
      conv => lhs; rw [e]
      rw [Nat.add_mul_mod_self_left, Nat.mod_eq_of_lt q]
  · refine .inr ⟨by omega, ?_, ?_⟩
    · have e : m + 1 = 0 + p * (m / p + 1) := by rw [Nat.mul_add]; omega
      rw [e, Nat.add_mul_div_left _ _ hp, Nat.zero_div, Nat.zero_add]
    · have e : m + 1 = 0 + p * (m / p + 1) := by rw [Nat.mul_add]; omega
      conv => lhs; rw [e]
      rw [Nat.add_mul_mod_self_left, Nat.zero_mod]
theorem plc_step {p b m d : Nat} (hp : 0 < p) (hb : 2 ≤ b) (hd : d < b) : plc p b (m + 1) d - plc p b m d = if (m + 1) / p % b = d then 1 else 0 := by
  unfold plc
  rw [← Nat.div_div_eq_div_mul, ← Nat.div_div_eq_div_mul]
  rcases div_step (p := p) (m := m) hp with ⟨h1, h2, h3⟩ | ⟨h1, h2, h3⟩
  · rw [h2, h3]
    generalize m / p / b = Q
    generalize m / p % b = D
    generalize m % p = r
    by_cases q : d = D
    · subst q
      simp
      omega
    · have q' : ¬ D = d := fun e => q e.symm
      simp [q, q']
  · rw [h2, h3]
    rcases div_step (p := b) (m := m / p) (by omega) with ⟨g1, g2, g3⟩ | ⟨g1, g2, g3⟩
    · rw [g2, g3]
      generalize m / p / b = Q at *
      generalize m / p % b = D at *
      generalize m % p = r at *
      generalize (p : Int) * (Q : Int) = PQ
      have e1 : ((r : Nat) : Int) + 1 = p := by omega
      rw [e1]
      by_cases c1 : d < D
      · rw [if_pos (show d < D + 1 by omega), if_neg (show ¬ d = D + 1 by omega), if_pos c1, if_neg (show ¬ d = D by omega), if_neg (show ¬ D + 1 = d by omega)]
        omega
      · by_cases c2 : d = D
        · rw [if_pos (show d < D + 1 by omega), if_neg (show ¬ d = D + 1 by omega), if_neg c1, if_pos c2, if_neg (show ¬ D + 1 = d by omega)]
          omega
        · by_cases c3 : d = D + 1
          · rw [if_neg (show ¬ d < D + 1 by omega), if_pos c3, if_neg c1, if_neg c2, if_pos c3.symm]
            omega
          · rw [if_neg (show ¬ d < D + 1 by omega), if_neg c3, if_neg c1, if_neg c2, if_neg (show ¬ D + 1 = d by omega)]
            omega
    · rw [g2, g3]
      have eQ : (p : Int) * ((m / p / b + 1 : Nat) : Int) = (p : Int) * ((m / p / b : Nat) : Int) + p := by
        rw [Int.natCast_add, Int.mul_add]
        simp
      rw [eQ]
      generalize (p : Int) * ((m / p / b : Nat) : Int) = PQ
      generalize m / p % b = D at *
      generalize m % p = r at *
      have e1 : ((r : Nat) : Int) + 1 = p := by omega
      rw [e1, if_neg (show ¬ d < 0 by omega)]
      by_cases c1 : d < D
      · by_cases c0 : d = 0
        · rw [if_pos c1, if_neg (show ¬ d = D by omega), if_pos c0, if_pos c0, if_pos c0.symm]
          omega
        · rw [if_pos c1, if_neg (show ¬ d = D by omega), if_neg c0, if_neg c0, if_neg (fun e => c0 e.symm)]
          omega
      · have c2 : d = D := by omega
        rw [if_neg c1, if_pos c2, if_neg (show ¬ d = 0 by omega), if_neg (show ¬ d = 0 by omega), if_neg (show ¬ 0 = d by omega)]
        omega
theorem plcT_step {p b m d : Nat} (hp : 0 < p) (hb : 2 ≤ b) (hd : d < b) : plcT p b (m + 1) d - plcT p b m d = digAt p b (m + 1) d := by
  unfold plcT digAt
  by_cases h : p ≤ m
  · rw [if_pos (show p ≤ m + 1 by omega), if_pos h, plc_step hp hb hd]
    by_cases q : (m + 1) / p % b = d
    · rw [if_pos q, if_pos ⟨by omega, q⟩]
    · rw [if_neg q, if_neg (fun z => q z.2)]
  · by_cases h2 : p = m + 1
    · subst h2
      rw [if_pos (Nat.le_refl _), if_neg h]
      have e1 : (m + 1) / (m + 1) = 1 := Nat.div_self hp
      have e2 : 1 % b = 1 := Nat.mod_eq_of_lt hb
      have e3 : (m + 1) / ((m + 1) * b) = 0 := by
        rw [← Nat.div_div_eq_div_mul, e1]
        exact Nat.div_eq_of_lt hb
      unfold plc
      rw [e3, e1, e2, Nat.mod_self]
      by_cases c0 : d = 0
      · subst c0
        simp
      · by_cases c1 : d = 1
        · subst c1
          simp
        · have c2 : ¬ 1 = d := fun e => c1 e.symm
          have c3 : ¬ d < 1 := by omega
          simp [c0, c1, c2]
    · rw [if_neg (show ¬ p ≤ m + 1 by omega), if_neg h, if_neg (fun z => absurd z.1 (by omega))]
      rfl
/-- sums over the first n places -/
def sumN (f : Nat → Int) : Nat → Int
  | 0 => 0
  | n + 1 => sumN f n + f n
theorem sumN_sub (f g : Nat → Int) : ∀ n, sumN f n - sumN g n = sumN (fun i => f i - g i) n
  | 0 => rfl
  | n + 1 => by
    have := sumN_sub f g n
    show (sumN f n + f n) - (sumN g n + g n) = sumN (fun i => f i - g i) n + (f n - g n)
    omega
theorem sumN_congr {f g : Nat → Int} : ∀ {n : Nat}, (∀ i < n, f i = g i) → sumN f n = sumN g n
  | 0, _ => rfl
  | n + 1, h => by
    show sumN f n + f n = sumN g n + g n
    rw [sumN_congr fun i hi => h i (by omega), h n (by omega)]
theorem sumN_add (f g : Nat → Int) : ∀ n, sumN (fun i => f i + g i) n = sumN f n + sumN g n
  | 0 => rfl
  | n + 1 => by
    have := sumN_add f g n
    show sumN (fun i => f i + g i) n + (f n + g n) = (sumN f n + f n) + (sumN g n + g n)
    omega
theorem sumN_zero {f : Nat → Int} {n k : Nat} (h : ∀ i, n ≤ i → f i = 0) : sumN f (n + k) = sumN f n := by
  induction k with
  | zero => rfl
  | succ k ih =>
    show sumN f (n + k) + f (n + k) = _
    rw [ih, h _ (by omega)]
    omega
/-- the count of the digit d in the numbers up to m -/
def cntTo (b m d : Nat) : Int := sumN (fun i => plcT (b ^ i) b m d) 128
/-- the count of the digit d in m -/
def cntIn (b m d : Nat) : Int := sumN (fun i => digAt (b ^ i) b m d) 128
theorem cntTo_step {b m d : Nat} (hb : 2 ≤ b) (hd : d < b) : cntTo b (m + 1) d - cntTo b m d = cntIn b (m + 1) d := by
  unfold cntTo cntIn
  rw [sumN_sub]
  exact sumN_congr fun i _ => plcT_step (Nat.pow_pos (by omega)) hb hd
/-- the count of the digit d in n numbers from m + 1 on -/
def cntSt (b m d : Nat) (n : Nat) : Int := sumN (fun j => cntIn b (m + 1 + j) d) n
theorem cntSt_eq {b m d : Nat} (hb : 2 ≤ b) (hd : d < b) : ∀ n, cntTo b (m + n) d - cntTo b m d = cntSt b m d n
  | 0 => by show cntTo b m d - cntTo b m d = 0; omega
  | n + 1 => by
    have h := cntSt_eq (m := m) hb hd n
    have s := cntTo_step (m := m + n) hb hd
    show cntTo b (m + n + 1) d - cntTo b m d = cntSt b m d n + cntIn b (m + 1 + n) d
    rw [show m + 1 + n = m + n + 1 by omega]
    omega
theorem pow_big {b i : Nat} (hb : 2 ≤ b) (hi : 128 ≤ i) : 10 ^ 38 ≤ b ^ i := by
  have h1 : 2 ^ 128 ≤ b ^ 128 := Nat.pow_le_pow_left hb 128
  have h2 : b ^ 128 ≤ b ^ i := Nat.pow_le_pow_right (by omega) hi
  exact Nat.le_trans (Nat.le_trans (by decide) h1) h2
end My
end
section
set_option Elab.async false
set_option linter.all false
set_option maxRecDepth 100000
set_option maxHeartbeats 4000000
/-! Ylow: the digits of a number. -/
namespace My
open PySem PySem.Spec PyProof.Rows L2
/-- the digits of the low i places, the highest first -/
def low (b m : Nat) : Nat → List Nat
  | 0 => []
  | i + 1 => (m / b ^ i % b) :: low b m i
theorem low_len (b m : Nat) : ∀ i, (low b m i).length = i
  | 0 => rfl
  | i + 1 => by
    show (low b m i).length + 1 = i + 1
    rw [low_len b m i]
theorem low_lt {b m : Nat} (hb : 0 < b) : ∀ i, ∀ d ∈ low b m i, d < b
  | 0, d, h => by cases h
  | i + 1, d, h => by
    rcases List.mem_cons.mp h with rfl | h
    · exact Nat.mod_lt _ hb
    · exact low_lt hb i d h
theorem low_count (b m d : Nat) : ∀ i, (∀ j < i, b ^ j ≤ m) → (((low b m i).count d : Nat) : Int) = sumN (fun j => digAt (b ^ j) b m d) i
  | 0, _ => rfl
  | i + 1, h => by
    have ih := low_count b m d i fun j hj => h j (by omega)
    show (((_ :: low b m i).count d : Nat) : Int) = sumN _ i + digAt (b ^ i) b m d
    have hp := h i (by omega)
    rw [List.count_cons, ← ih]
    by_cases q : m / b ^ i % b = d
    · have e : digAt (b ^ i) b m d = 1 := if_pos ⟨hp, q⟩
      rw [e]
      simp [q]
    · have e : digAt (b ^ i) b m d = 0 := if_neg fun z => q z.2
      rw [e]
      simp [q]
/-- the sign of a digit -/
def sgAt (S : Str) (d : Nat) : Nat := S.cps.toList.getD d 0
/-- the signs of the row of m -/
structure IsRow (S : Str) (m : Nat) (l : List Nat) : Prop where
  ex : ∃ i, i ≤ 128 ∧ (∀ j < i, S.length ^ j ≤ m) ∧ m < S.length ^ i ∧ l = (low S.length m i).map (sgAt S)
theorem sgAt_at {S : Str} {d : Nat} (h : d < S.length) : S.cps.toList[d]? = some (sgAt S d) := by
  have : S.cps.toList.length = S.length := Array.length_toList
  unfold sgAt
  rw [List.getD_eq_getElem?_getD, List.getElem?_eq_getElem (by omega)]
  rfl
theorem IsRow.len {S : Str} {m : Nat} {l : List Nat} (h : IsRow S m l) : l.length ≤ 128 := by
  obtain ⟨i, h1, _, _, rfl⟩ := h.ex
  rw [List.length_map, low_len]
  exact h1
theorem IsRow.mem {S : Str} {m : Nat} {l : List Nat} (h : IsRow S m l) (h0 : 0 < S.length) : ∀ c ∈ l, c ∈ S.cps.toList := by
  obtain ⟨i, h1, _, _, rfl⟩ := h.ex
  intro c hc
  obtain ⟨d, hd, rfl⟩ := List.mem_map.mp hc
  exact List.mem_of_getElem? (sgAt_at (low_lt h0 i d hd))
theorem IsRow.count {S : Str} {m : Nat} {l : List Nat} (h : IsRow S m l) (S2 : 2 ≤ S.length) (nd : S.cps.toList.Nodup) {d : Nat} (hd : d < S.length) : ((l.count (sgAt S d) : Nat) : Int) = cntIn S.length m d := by
  obtain ⟨i, h1, h2, h3, rfl⟩ := h.ex
  have e1 : ∀ l : List Nat, (∀ x ∈ l, x < S.length) → (l.map (sgAt S)).count (sgAt S d) = l.count d := by
    intro l
    induction l with
    | nil => intro _; rfl
    | cons x l ih =>
      intro hx
      rw [List.map_cons, List.count_cons, List.count_cons, ih fun y hy => hx y (List.mem_cons_of_mem _ hy)]
      have hxl := hx x List.mem_cons_self
      by_cases q : x = d
      · simp [q]
      · have : ¬ sgAt S x = sgAt S d := fun e => by
          have g1 := sgAt_at hxl
          have g2 := sgAt_at hd
          rw [← e] at g2
          have zl : S.cps.toList.length = S.length := Array.length_toList
          exact q ((List.getElem?_inj (by omega) nd).mp (g1.trans g2.symm))
        simp [q, this]
  rw [e1 _ (low_lt (by omega) i), low_count _ _ _ _ h2]
  unfold cntIn
  rw [show 128 = i + (128 - i) by omega]
  refine (sumN_zero fun j hj => ?_).symm
  unfold digAt
  refine if_neg fun h => ?_
  have := Nat.pow_le_pow_right (show 0 < S.length by omega) hj
  omega
end My
end
section
set_option Elab.async false
set_option linter.all false
set_option maxRecDepth 100000
set_option maxHeartbeats 4000000
/-! Ytot: the counts of digits by blocks of numbers; how many digits the numbers have. -/
namespace My
theorem sumN_succ (f : Nat → Int) : ∀ n, sumN f (n + 1) = f 0 + sumN (fun i => f (i + 1)) n
  | 0 => by show 0 + f 0 = f 0 + 0; omega
  | n + 1 => by
    have := sumN_succ f n
    show sumN f (n + 1) + f (n + 1) = f 0 + (sumN (fun i => f (i + 1)) n + f (n + 1))
    omega
/-- a digit put behind -/
theorem cntIn_app {b v x d : Nat} (hb : 2 ≤ b) (hx : x < b) (h1 : 1 ≤ v * b + x) (hv : v < 10 ^ 37) : cntIn b (v * b + x) d = cntIn b v d + (if x = d then 1 else 0) := by
  have e0 : digAt (b ^ 0) b (v * b + x) d = if x = d then 1 else 0 := by
    unfold digAt
    rw [Nat.pow_zero, Nat.div_one, Nat.add_comm, Nat.add_mul_mod_self_right, Nat.mod_eq_of_lt hx]
    by_cases q : x = d
    · rw [if_pos q, if_pos ⟨by omega, q⟩]
    · rw [if_neg q, if_neg fun z => q z.2]
  have ed : (v * b + x) / b = v := by
    rw [Nat.add_comm, Nat.add_mul_div_right _ _ (by omega), Nat.div_eq_of_lt hx, Nat.zero_add]
  have es : ∀ i, digAt (b ^ (i + 1)) b (v * b + x) d = digAt (b ^ i) b v d := by
    intro i
    unfold digAt
    have e1 : b ^ (i + 1) = b * b ^ i := by rw [Nat.pow_succ, Nat.mul_comm]
    have e2 : (v * b + x) / b ^ (i + 1) = v / b ^ i := by rw [e1, ← Nat.div_div_eq_div_mul, ed]
    have e3 : b ^ (i + 1) ≤ v * b + x ↔ b ^ i ≤ v := by
      rw [Nat.pow_succ]
      constructor
      · intro h
        have := Nat.div_le_div_right (c := b) h
        rwa [ed, Nat.mul_div_cancel _ (by omega)] at this
      · intro h
        exact Nat.le_trans (Nat.mul_le_mul_right b h) (Nat.le_add_right _ _)
    rw [e2]
    by_cases q : b ^ i ≤ v ∧ v / b ^ i % b = d
    · rw [if_pos q, if_pos ⟨e3.mpr q.1, q.2⟩]
    · rw [if_neg q, if_neg fun z => q ⟨e3.mp z.1, z.2⟩]
  unfold cntIn
  rw [sumN_succ _ 127, e0]
  have e4 : sumN (fun i => digAt (b ^ (i + 1)) b (v * b + x) d) 127 = sumN (fun i => digAt (b ^ i) b v d) 127 := sumN_congr fun i _ => es i
  have e5 : sumN (fun i => digAt (b ^ i) b v d) 128 = sumN (fun i => digAt (b ^ i) b v d) 127 := by
    show _ + digAt (b ^ 127) b v d = _
    have : digAt (b ^ 127) b v d = 0 := by
      unfold digAt
      refine if_neg fun z => ?_
      have h1 : 2 ^ 127 ≤ b ^ 127 := Nat.pow_le_pow_left hb 127
      have h2 : (10 : Nat) ^ 37 ≤ 2 ^ 127 := by decide
      exact Nat.not_le.mpr hv (Nat.le_trans h2 (Nat.le_trans h1 z.1))
    rw [this, Int.add_zero]
  rw [e4, e5]
  omega
theorem cntIn_zero (b d : Nat) (hb : 0 < b) : cntIn b 0 d = 0 := by
  unfold cntIn
  have : ∀ n, sumN (fun i => digAt (b ^ i) b 0 d) n = 0 := by
    intro n
    induction n with
    | zero => rfl
    | succ n ih =>
      show sumN _ n + digAt (b ^ n) b 0 d = 0
      rw [ih]
      unfold digAt
      rw [if_neg]
      · rfl
      · intro z
        have := Nat.pow_pos (n := n) hb
        omega
  exact this 128
theorem cntTo_zero (b d : Nat) (hb : 0 < b) : cntTo b 0 d = 0 := by
  unfold cntTo
  have : ∀ n, sumN (fun i => plcT (b ^ i) b 0 d) n = 0 := by
    intro n
    induction n with
    | zero => rfl
    | succ n ih =>
      show sumN _ n + plcT (b ^ n) b 0 d = 0
      rw [ih]
      unfold plcT
      rw [if_neg]
      · rfl
      · have := Nat.pow_pos (n := n) hb
        omega
  exact this 128
/-- the count of the digit d in the numbers below n -/
def cB (b n d : Nat) : Int := cntTo b (n - 1) d
theorem cB_one (b d : Nat) (hb : 0 < b) : cB b 1 d = 0 := cntTo_zero b d hb
theorem cB_step {b n d : Nat} (hb : 2 ≤ b) (hd : d < b) (hn : 1 ≤ n) : cB b (n + 1) d = cB b n d + cntIn b n d := by
  have h := cntTo_step (m := n - 1) hb hd
  rw [show n - 1 + 1 = n by omega] at h
  show cntTo b (n + 1 - 1) d = cntTo b (n - 1) d + _
  rw [show n + 1 - 1 = n by omega]
  omega
/-- what the free digits add -/
def fr (b f : Nat) : Nat := f * b ^ f / b
theorem fr_mul {b f : Nat} (hb : 0 < b) : b * fr b f = f * b ^ f := by
  unfold fr
  cases f with
  | zero => simp
  | succ f =>
    rw [Nat.pow_succ, ← Nat.mul_assoc, Nat.mul_div_cancel _ hb, Nat.mul_comm]
/-- a block of numbers: the digits of v, and f free ones behind -/
theorem cB_blk {b d : Nat} (hb : 2 ≤ b) (hd : d < b) : ∀ (f v : Nat), 1 ≤ v → (v + 1) * b ^ f ≤ 10 ^ 36 → cB b ((v + 1) * b ^ f) d = cB b (v * b ^ f) d + ((b ^ f : Nat) : Int) * cntIn b v d + (fr b f : Int)
  | 0, v, hv, hl => by
    have e : fr b 0 = 0 := by unfold fr; simp
    rw [e, Nat.pow_zero, Nat.mul_one, Nat.mul_one, cB_step hb hd hv]
    simp
  | f + 1, v, hv, hl => by
    have pf : 0 < b ^ f := Nat.pow_pos (by omega)
    have ef : b ^ (f + 1) = b * b ^ f := by rw [Nat.pow_succ, Nat.mul_comm]
    have vl : v < 10 ^ 37 := by
      have h1 : v + 1 ≤ (v + 1) * b ^ (f + 1) := Nat.le_mul_of_pos_right _ (Nat.pow_pos (by omega))
      have h2 : (10 : Nat) ^ 36 ≤ 10 ^ 37 := by decide
      omega
    have step : ∀ x, x ≤ b → cB b ((v * b + x) * b ^ f) d = cB b (v * b * b ^ f) d + (x : Int) * (((b ^ f : Nat) : Int) * cntIn b v d + (fr b f : Int)) + (if d < x then ((b ^ f : Nat) : Int) else 0) := by
      intro x
      induction x with
      | zero =>
        intro _
        rw [if_neg (by omega), Nat.add_zero]
        simp
      | succ x ih =>
        intro hx
        have v1 : 1 ≤ v * b + x := by
          have : 1 * 2 ≤ v * b := Nat.mul_le_mul hv hb
          omega
        have bound : (v * b + x + 1) * b ^ f ≤ 10 ^ 36 := by
          refine Nat.le_trans (Nat.mul_le_mul_right _ ?_) (by rw [ef, ← Nat.mul_assoc] at hl; exact hl)
          rw [Nat.add_mul]
          omega
        have h := cB_blk hb hd f (v * b + x) v1 bound
        have ih := ih (by omega)
        rw [show v * b + (x + 1) = v * b + x + 1 by omega, h, ih, cntIn_app hb (by omega) v1 vl]
        generalize ((b ^ f : Nat) : Int) = B
        generalize (fr b f : Int) = F
        generalize cntIn b v d = c
        generalize cB b (v * b * b ^ f) d = Z
        have e1 : ((x + 1 : Nat) : Int) * (B * c + F) = (x : Int) * (B * c + F) + (B * c + F) := by
          rw [Int.natCast_add, Int.add_mul]
          simp
        rw [e1]
        have e5 : B * (c + 1) = B * c + B := by rw [Int.mul_add, Int.mul_one]
        by_cases q : x = d
        · rw [if_pos q, if_neg (show ¬ d < x by omega), if_pos (show d < x + 1 by omega), e5]
          omega
        · rw [if_neg q, Int.add_zero]
          by_cases q2 : d < x
          · rw [if_pos q2, if_pos (show d < x + 1 by omega)]
            omega
          · rw [if_neg q2, if_neg (show ¬ d < x + 1 by omega)]
            omega
    have h := step b (Nat.le_refl _)
    have e1 : (v * b + b) * b ^ f = (v + 1) * b ^ (f + 1) := by rw [ef, ← Nat.mul_assoc, Nat.add_mul v 1 b, Nat.one_mul]
    have e2 : v * b * b ^ f = v * b ^ (f + 1) := by rw [ef, Nat.mul_assoc]
    rw [e1, e2, if_pos hd, Int.mul_add] at h
    rw [h]
    have e3 : (b : Int) * (((b ^ f : Nat) : Int) * cntIn b v d) = ((b ^ (f + 1) : Nat) : Int) * cntIn b v d := by
      rw [← Int.mul_assoc, ← Int.natCast_mul, ← ef]
    have e4 : (b : Int) * (fr b f : Int) + ((b ^ f : Nat) : Int) = (fr b (f + 1) : Int) := by
      rw [← Int.natCast_mul, fr_mul (by omega), ← Int.natCast_add]
      congr 1
      unfold fr
      rw [Nat.pow_succ, ← Nat.mul_assoc, Nat.mul_div_cancel _ (by omega), Nat.add_mul, Nat.one_mul]
    rw [e3]
    omega
/-- the first digits of a number -/
theorem low_take {b n d : Nat} (hb : 2 ≤ b) (hd : d < b) (hn : n < 10 ^ 36) : ∀ {L : Nat}, b ^ (L - 1) ≤ n → n < b ^ L → ∀ at', at' ≤ L → ((((low b n L).take at').count d : Nat) : Int) = cntIn b (n / b ^ (L - at')) d := by
  intro L hlo hhi at'
  have get : ∀ L j, j < L → (low b n L)[j]? = some (n / b ^ (L - 1 - j) % b) := by
    intro L
    induction L with
    | zero => intro j hj; omega
    | succ L ih =>
      intro j hj
      cases j with
      | zero => rfl
      | succ j =>
        show (low b n L)[j]? = _
        rw [ih j (by omega)]
        rw [show L - 1 - j = L + 1 - 1 - (j + 1) by omega]
  induction at' with
  | zero =>
    intro _
    rw [List.take_zero, Nat.sub_zero, Nat.div_eq_of_lt hhi, cntIn_zero b d (by omega)]
    rfl
  | succ k ih =>
    intro hk
    have hkL : k < L := by omega
    have e : (low b n L).take (k + 1) = (low b n L).take k ++ [n / b ^ (L - 1 - k) % b] := by
      rw [List.take_succ, get L k hkL]
      rfl
    rw [e, List.count_append]
    have ih := ih (by omega)
    have e2 : L - k = (L - (k + 1)) + 1 := by omega
    have e3 : L - 1 - k = L - (k + 1) := by omega
    have e4 : n / b ^ (L - k) = n / b ^ (L - (k + 1)) / b := by rw [e2, Nat.pow_succ, Nat.div_div_eq_div_mul]
    rw [e3]
    rw [e4] at ih
    generalize hq : n / b ^ (L - (k + 1)) = q at *
    have q1 : 1 ≤ q := by
      rw [← hq]
      refine Nat.div_pos (Nat.le_trans (Nat.pow_le_pow_right (by omega) (by omega)) hlo) (Nat.pow_pos (by omega))
    have qn : q ≤ n := by rw [← hq]; exact Nat.div_le_self _ _
    have eq : q / b * b + q % b = q := by rw [Nat.mul_comm]; exact Nat.div_add_mod q b
    have h := cntIn_app (b := b) (v := q / b) (x := q % b) (d := d) hb (Nat.mod_lt _ (by omega)) (by omega) (by
      have h1 := Nat.div_le_self q b
      have h2 : (10 : Nat) ^ 36 ≤ 10 ^ 37 := by decide
      omega)
    rw [eq] at h
    rw [h, ← ih]
    by_cases c : q % b = d
    · simp [c]
    · simp [c]
/-- how many digits the numbers up to n have -/
def lenTo (b n : Nat) : Int := sumN (fun d => cntTo b n d) b
theorem lenTo_zero {b : Nat} (hb : 0 < b) : lenTo b 0 = 0 := by
  unfold lenTo
  have : ∀ n, sumN (fun d => cntTo b 0 d) n = 0 := by
    intro n
    induction n with
    | zero => rfl
    | succ n ih =>
      show sumN _ n + cntTo b 0 n = 0
      rw [ih, cntTo_zero b n hb]
      rfl
  exact this b
theorem sumN_one {x : Nat} : ∀ {n : Nat}, sumN (fun d => if x = d then (1 : Int) else 0) n = if x < n then 1 else 0
  | 0 => rfl
  | n + 1 => by
    show sumN _ n + (if x = n then 1 else 0) = _
    rw [sumN_one (n := n)]
    by_cases h : x = n
    · rw [if_pos h, if_neg (by omega), if_pos (by omega)]; rfl
    · rw [if_neg h]
      by_cases h2 : x < n
      · rw [if_pos h2, if_pos (by omega)]; rfl
      · rw [if_neg h2, if_neg (by omega)]; rfl
theorem sumN_swap (f : Nat → Nat → Int) (n m : Nat) : sumN (fun d => sumN (fun i => f i d) m) n = sumN (fun i => sumN (fun d => f i d) n) m := by
  induction m with
  | zero =>
    induction n with
    | zero => rfl
    | succ n ih =>
      show sumN _ n + 0 = _
      rw [Int.add_zero]
      exact ih
  | succ m ih =>
    show sumN (fun d => sumN (fun i => f i d) m + f m d) n = sumN (fun i => sumN (fun d => f i d) n) m + sumN (fun d => f m d) n
    rw [sumN_add, ih]
theorem lenTo_step {b m : Nat} (hb : 2 ≤ b) : lenTo b (m + 1) = lenTo b m + sumN (fun i => if b ^ i ≤ m + 1 then 1 else 0) 128 := by
  have e : ∀ d < b, cntTo b (m + 1) d - cntTo b m d = cntIn b (m + 1) d := fun d hd => cntTo_step hb hd
  have h1 : lenTo b (m + 1) - lenTo b m = sumN (fun d => cntIn b (m + 1) d) b := by
    unfold lenTo
    rw [sumN_sub]
    exact sumN_congr e
  have h2 : sumN (fun d => cntIn b (m + 1) d) b = sumN (fun i => if b ^ i ≤ m + 1 then 1 else 0) 128 := by
    unfold cntIn
    rw [sumN_swap (fun i d => digAt (b ^ i) b (m + 1) d)]
    refine sumN_congr fun i _ => ?_
    by_cases q : b ^ i ≤ m + 1
    · rw [if_pos q]
      have : sumN (fun d => digAt (b ^ i) b (m + 1) d) b = sumN (fun d => if (m + 1) / b ^ i % b = d then (1 : Int) else 0) b := sumN_congr fun d _ => by
        unfold digAt
        by_cases c : (m + 1) / b ^ i % b = d
        · rw [if_pos c, if_pos ⟨q, c⟩]
        · rw [if_neg c, if_neg fun z => c z.2]
      rw [this, sumN_one, if_pos (Nat.mod_lt _ (by omega))]
    · rw [if_neg q]
      have : sumN (fun d => digAt (b ^ i) b (m + 1) d) b = sumN (fun _ => 0) b := sumN_congr fun d _ => by
        unfold digAt
        exact if_neg fun z => q z.1
      rw [this]
      have z : ∀ n, sumN (fun _ => (0 : Int)) n = 0 := by
        intro n
        induction n with
        | zero => rfl
        | succ n ih => show sumN _ n + 0 = 0; omega
      exact z b
  omega
/-- the numbers of one length -/
theorem digs {b k m : Nat} (hb : 2 ≤ b) (hk : k < 128) (h1 : b ^ k ≤ m) (h2 : m < b ^ (k + 1)) : sumN (fun i => if b ^ i ≤ m then (1 : Int) else 0) 128 = (k : Int) + 1 := by
  have e : ∀ i, (b ^ i ≤ m) ↔ i < k + 1 := fun i => by
    constructor
    · intro h
      rcases Nat.lt_or_ge i (k + 1) with c | c
      · exact c
      · have := Nat.pow_le_pow_right (show 0 < b by omega) c
        omega
    · intro h
      exact Nat.le_trans (Nat.pow_le_pow_right (by omega) (by omega)) h1
  have s : ∀ n, sumN (fun i => if b ^ i ≤ m then (1 : Int) else 0) n = ((min n (k + 1) : Nat) : Int) := by
    intro n
    induction n with
    | zero => simp [sumN]
    | succ n ih =>
      show sumN _ n + (if b ^ n ≤ m then 1 else 0) = _
      rw [ih]
      by_cases c : n < k + 1
      · rw [if_pos ((e n).mpr c)]
        omega
      · rw [if_neg fun z => c ((e n).mp z)]
        omega
  rw [s]
  omega
theorem lenTo_blk {b k : Nat} (hb : 2 ≤ b) (hk : k < 128) : ∀ (j : Nat), b ^ k + j ≤ b ^ (k + 1) → lenTo b (b ^ k - 1 + j) = lenTo b (b ^ k - 1) + ((k : Int) + 1) * (j : Int)
  | 0, _ => by simp
  | j + 1, h => by
    have pk : 0 < b ^ k := Nat.pow_pos (by omega)
    have ih := lenTo_blk hb hk j (by omega)
    have e := lenTo_step (b := b) (m := b ^ k - 1 + j) hb
    rw [show b ^ k - 1 + (j + 1) = b ^ k - 1 + j + 1 by omega, e, ih, digs hb hk (by omega) (by omega)]
    have : ((k : Int) + 1) * ((j + 1 : Nat) : Int) = ((k : Int) + 1) * (j : Int) + ((k : Int) + 1) := by
      rw [Int.natCast_add, Int.mul_add]
      simp
    omega
/-- the sum over the signs -/
theorem sum_signs {S : Nat → Int} (l : List Nat) (nd : l.Nodup) : (l.map fun c => S (l.idxOf c)).sum = sumN S l.length := by
  have e : l.map (fun c => S (l.idxOf c)) = (List.range l.length).map S := by
    apply List.ext_getElem?
    intro i
    rw [List.getElem?_map, List.getElem?_map]
    rcases Nat.lt_or_ge i l.length with h | h
    · rw [List.getElem?_range h, List.getElem?_eq_getElem h]
      show some (S (l.idxOf l[i])) = some (S i)
      rw [nd.idxOf_getElem i h]
    · rw [List.getElem?_eq_none h, List.getElem?_eq_none (by rw [List.length_range]; exact h)]
      rfl
  rw [e]
  generalize l.length = n
  induction n with
  | zero => rfl
  | succ n ih =>
    rw [List.range_succ, List.map_append, List.sum_append, ih]
    show _ + (S n + 0) = sumN S n + S n
    omega
end My
end
section
set_option Elab.async false
set_option linter.all false
set_option maxRecDepth 100000
set_option maxHeartbeats 4000000
/-! Ycl: len of a font; lists of counts. -/
namespace My
open PySem PySem.Spec PyProof.Rows L2
/-- len of a font -/
structure LenC (P : Program) (w : World) (K : PySem.W.Frag) (mg : Str → Option Value) (base : Heap) (C : Addr) : Prop where
  ex : ∃ f fd, Own K C "__len__" f ∧ FnOk P w K mg base CX0 1 f fd ["self"] (sp_flen C) ∧ Binds K fd ["self"] []
def qLenF (C : Addr) : List V → Hp → VK → Prop := fun xs H Q => ∃ (a : Addr) (S : Str) (ps : List (Nat × Nat)), xs = [.ref a] ∧ FontAt H C a S ps ∧ S.length ≤ 4000 ∧ Q (.int S.length) H
theorem call_lenF {X : Cx} {C : Addr} {f : Addr} {fd : FuncData} (O : Own X.K C "__len__" f) (F : FnOk X.prog X.w X.K X.mg X.base CX0 1 f fd ["self"] (sp_flen C)) (hb : Binds X.K fd ["self"] []) (hr : Room 2 X.A) : CallR X (.builtin "len") (qLenF C) :=
  CallR.weak (call_lenO O F hr hb) fun xs H Q q => by
    obtain ⟨a, S, ps, rfl, hF, hS, q⟩ := q
    obtain ⟨dx, r, ys, h1, h2, h3⟩ := hF.at_
    exact ⟨a, dx, _, rfl, h1, a, S, ps, rfl, hF, hS, S.length, rfl, by omega, q⟩
/-- [x] * n -/
def qRepY : R2 := fun x y H Q => ∃ l k xs, x = .ref l ∧ y = .int k ∧ H l = some (.lst xs) ∧ 0 ≤ k ∧ k < 2 ^ 60 ∧ xs.length * k.toNat ≤ sizeLine ∧ ∀ p H', New H p (.lst (List.replicate k.toNat xs).flatten) H' → Q (.ref p) H'
theorem op_repY {X : Cx} : OpR X (binaryOp .Mult) qRepY := OpR.weak op_rep fun x y H Q q => by
  obtain ⟨l, k, xs, e1, e2, h, k0, k1, hl, q⟩ := q
  exact ⟨l, k, xs, e1, e2, h, by omega, by omega, hl, fun p hp => q p _ (.mk' hp)⟩
/-- counts as a list has them -/
abbrev cntL (f : Nat → Int) (b : Nat) : List V := (List.range b).map fun d => V.int (f d)
theorem cntL_at {f : Nat → Int} {b d : Nat} (h : d < b) : (cntL f b)[d]? = some (.int (f d)) := by
  rw [List.getElem?_map, List.getElem?_range h]
  rfl
theorem cntL_len (f : Nat → Int) (b : Nat) : (cntL f b).length = b := by rw [List.length_map, List.length_range]
theorem cntL_set {f : Nat → Int} {b d : Nat} {v : Int} (h : d < b) : (cntL f b).set d (.int v) = cntL (fun c => if c = d then v else f c) b := by
  apply List.ext_getElem?
  intro i
  rw [List.getElem?_set]
  by_cases q : d = i
  · subst q
    rw [if_pos rfl, if_pos (by rw [cntL_len]; exact h), cntL_at h, if_pos rfl]
  · rw [if_neg q]
    by_cases hi : i < b
    · rw [cntL_at hi, cntL_at hi, if_neg (fun e => q e.symm)]
    · rw [List.getElem?_eq_none (by rw [cntL_len]; omega), List.getElem?_eq_none (by rw [cntL_len]; omega)]
theorem rep_cnt (n : Nat) : (List.replicate n [V.int 0]).flatten = cntL (fun _ => 0) n := by
  induction n with
  | zero => rfl
  | succ n ih =>
    have e : cntL (fun _ => 0) (n + 1) = V.int 0 :: cntL (fun _ => 0) n := by
      unfold cntL
      rw [List.range_succ_eq_map, List.map_cons, List.map_map]
      rfl
    rw [List.replicate_succ, List.flatten_cons, ih, e]
    rfl
theorem cntL_congr {f g : Nat → Int} {b : Nat} (h : ∀ d < b, f d = g d) : cntL f b = cntL g b := List.map_congr_left fun d hd => by rw [h d (List.mem_range.mp hd)]
theorem nat_div (m p : Nat) : (m : Int) / (p : Int) = ((m / p : Nat) : Int) := (Int.natCast_ediv m p).symm
theorem nat_fmod (m p : Nat) : (m : Int).fmod (p : Int) = ((m % p : Nat) : Int) := by
  rw [Int.fmod_eq_emod_of_nonneg _ (by omega)]
  exact (Int.natCast_emod m p).symm
/-- what the walk over the digits adds -/
def whl (hi D d : Nat) : Int := (if d < D then (hi : Int) + 1 else hi) - (if d = 0 then 1 else 0)
theorem plc_whl (p b m d : Nat) : plc p b m d = (p : Int) * whl (m / (p * b)) (m / p % b) d + (if d = m / p % b then ((m % p : Nat) : Int) + 1 else 0) := by
  unfold plc whl
  generalize m / (p * b) = hi
  generalize m / p % b = D
  have e1 : (p : Int) * ((hi : Int) + 1) = (p : Int) * hi + p := by rw [Int.mul_add, Int.mul_one]
  have e2 : (p : Int) * ((hi : Int) + 1 - 1) = (p : Int) * hi := by congr 1; omega
  have e3 : (p : Int) * ((hi : Int) - 1) = (p : Int) * hi - p := by rw [Int.mul_sub, Int.mul_one]
  by_cases c0 : d = 0
  · by_cases c1 : d < D
    · rw [if_pos c0, if_pos c0, if_pos c1, if_pos c1, e2]
      omega
    · rw [if_pos c0, if_pos c0, if_neg c1, if_neg c1, e3]
      omega
  · by_cases c1 : d < D
    · rw [if_neg c0, if_neg c0, if_pos c1, if_pos c1, Int.sub_zero, Int.sub_zero, e1]
    · rw [if_neg c0, if_neg c0, if_neg c1, if_neg c1, Int.sub_zero, Int.sub_zero]
      omega
theorem ixN_nat' {n j : Nat} (hj : j < n) : ixN n (j : Int) = some j := by
  unfold ixN
  rw [if_pos (by omega), if_pos (by omega)]
  simp
theorem step_set {a f : Nat → Int} {b t : Nat} {v : Int} (ht : t < b) (hv : v = a t) : (cntL (fun d => if d < t then a d else f d) b).set t (.int v) = cntL (fun d => if d < t + 1 then a d else f d) b := by
  rw [cntL_set ht]
  refine cntL_congr fun d _ => ?_
  by_cases q : d = t
  · subst q
    rw [if_pos rfl, if_pos (Nat.lt_succ_self _), hv]
  · rw [if_neg q]
    by_cases c : d < t
    · rw [if_pos c, if_pos (by omega)]
    · rw [if_neg c, if_neg (by omega)]
end My
end
section
set_option Elab.async false
set_option linter.all false
set_option maxRecDepth 100000
set_option maxHeartbeats 4000000
/-! Ydl: digits as a list has them. -/
namespace My
open PySem PySem.Spec PyProof.Rows L2
/-- digits as a list has them -/
abbrev digL (l : List Nat) : List V := l.map fun d => V.int (d : Nat)
theorem nat200 {z : Nat} (h : z ≤ 10 ^ 40) : ((z : Nat) : Int).natAbs < 2 ^ 200 := by
  rw [Int.natAbs_natCast]
  exact Nat.lt_of_le_of_lt h (by decide)
end My
end
section
set_option Elab.async false
set_option linter.all false
set_option maxRecDepth 100000
set_option maxHeartbeats 4000000
namespace My
open PySem PySem.Spec PyProof.Rows L2
abbrev s_isKind : Stmt := topS 20
/-- whether a side is a sign or blank -/
def sideB (S : Str) (c : Nat) : Bool := decide (c = 45) || decide (c ∈ S.cps.toList)
/-- whether data is a kind of plates -/
def kindD (S : Str) : PyData → Bool
  | .str z => decide (z.length = 2) && !decide (z = (⟨#[45, 45]⟩ : Str)) && z.cps.toList.all (sideB S)
  | _ => false
def sp_isKind (K : PySem.W.Frag) : Sp := fun vs H Q _ => ∃ (S : Str) (v : V) (d : PyData) (p : Addr), vs = [.str S, v] ∧ Rp K p H false v d ∧ textFits 4000 d ∧ ∀ H', Same H H' → Q (.bl (kindD S d)) H'
section
variable {P : Program} {w : World} {K : PySem.W.Frag} {mg : Str → Option Value} {base : Heap}
theorem sc_isKind : FnScope ["signs", "value", "side"] ["signs", "value"] (defScope s_isKind) := ⟨rfl, rfl, rfl, by decide +kernel, rfl, by decide +kernel, by decide +kernel⟩
theorem ok_isKind {f : Addr} {fd : FuncData} {tB : Tok} (F : Fun K "is_kind" "is_kind" s_isKind f fd) (T : TB mg) (gB : mg "BLANK" = some (.str "-" tB)) : FnOk P w K mg base CX0 1 f fd ["signs", "value"] (sp_isKind K) := by
  refine F.ok sc_isKind (fun vs H Q E h => ?_) (fun cdv A outer s H vs Q E hr h => ?_)
  · obtain ⟨S, v, d, p, rfl, _⟩ := h
    rfl
  · obtain ⟨S, v, d, p, rfl, hd, hz, k⟩ := h
    refine ⟨_, pss_cons (ps_if (PW.pt (pw_or (pt_not (pt_val (pe_callB (id := "isinstance") call_isi (by rfl) T.isi (by decide +kernel) (pa_cons (pv 1) (pa_cons (pe_bltn (v := .ty "str") (by rfl) T.str (by decide +kernel) rfl) pa_nil)))))
        (pw_or (pt_cmpR op_ne (pe_callB call_len_str (by rfl) T.len PySem.boot_len (pa_cons (pv 1) pa_nil)) pe_int (nomark _)) (pw_or1 (pt_cmpR op_eq (pv 1) (pe_op op_add_str (pe_glob (v := .str "-") rfl gB ⟨_, rfl⟩) (pe_glob (v := .str "-") rfl gB ⟨_, rfl⟩)) (nomark _))))))
      (pss_one (ps_ret pe_bl)) pss_nil)
      (pss_one (ps_ret (pe_callB (cr_all rfl) (by rfl) T.all (by decide +kernel) (pa_cons (by exact (pe_lc (own := [("side", 2)]) (g := gName 2) (tt := tYes) rfl sc_isKind.nd (pi_str (pv 1)) (blkOk_by (own := [("side", 2)]) (N := ["signs", "value", "side"]) (sc := defScope s_isKind) (by decide +kernel))
        (fun _ _ _ _ _ => pg_name (i := 2) sc_isKind.nd rfl (Or.inl rfl)) (fun _ _ _ _ _ => pts_nil) (fun _ _ _ _ _ => pe_or (pe_cmpR op_eq (pv 2) (pe_glob (v := .str "-") rfl gB ⟨_, rfl⟩) (nomark _)) (pe_one (pe_cmpR op_in_sign (pv 2) (pv 0) (by rfl)))))) pa_nil)))), ?_⟩
    refine ⟨_, rfl, _, _, _, _, _, rfl, .ty "str", hd.ty, kit_str d, _, rfl, ?_⟩
    cases d with
    | str z =>
      cases hd
      have hz : z.length ≤ 4000 := hz
      have zl : z.cps.toList.length = z.length := Array.length_toList
      refine iteF ⟨_, rfl, z, rfl, Nat.le_trans hz (by decide), rfl, _, rfl, ?_⟩
      refine ite2 (fun h1 => iteT ?_) (fun h1 => ?_)
      · have h2 : z.length ≠ 2 := fun e => by rw [e] at h1; simp at h1
        have e : kindD S (.str z) = false := by
          show (decide (z.length = 2) && !decide (z = (⟨#[45, 45]⟩ : Str)) && z.cps.toList.all (sideB S)) = false
          rw [decide_eq_false h2, Bool.false_and, Bool.false_and]
        rw [e] at k
        exact k H (Same.refl H)
      have h2 : z.length = 2 := by
        by_cases e : z.length = 2
        · exact e
        · refine absurd ?_ h1
          rw [decide_eq_false (fun q => e (by injection q with q; omega))]
          rfl
      refine ⟨_, rfl, _, _, rfl, rfl, by decide, rfl, _, rfl, ?_⟩
      have dash : (PySem.Str.ofString "-" ++ PySem.Str.ofString "-") = (⟨#[45, 45]⟩ : Str) := by decide
      rw [dash]
      refine ite2 (fun h3 => ?_) (fun h3 => ?_)
      · have h3 : z = (⟨#[45, 45]⟩ : Str) := by
          have := of_decide_eq_true h3
          injection this
        have e : kindD S (.str z) = false := by
          show (decide (z.length = 2) && !decide (z = (⟨#[45, 45]⟩ : Str)) && z.cps.toList.all (sideB S)) = false
          rw [decide_eq_true h3, Bool.not_true, Bool.and_false, Bool.false_and]
        rw [e] at k
        exact k H (Same.refl H)
      have h3 : z ≠ (⟨#[45, 45]⟩ : Str) := fun e => h3 (by rw [e]; exact decide_eq_true rfl)
      have eK : kindD S (.str z) = z.cps.toList.all (sideB S) := by
        show (decide (z.length = 2) && !decide (z = (⟨#[45, 45]⟩ : Str)) && z.cps.toList.all (sideB S)) = _
        rw [decide_eq_true h2, decide_eq_false h3]
        rfl
      refine ⟨_, rfl, z, rfl, fun D hD => lc_ff walk_signs (fun _ => true) (fun x => match x with | .str y => .bl (y.cps.toList.all (sideB S)) | _ => .non) hD (fun _ _ => trivial) (by rw [signs_len]; exact Nat.lt_of_le_of_lt hz (by decide)) (fun x => rfl) (fun x H' C _ _ h => h _ (Same.refl _)) ?_ ?_⟩
      · intro x H' C hx _ _ hC
        obtain ⟨c, _, rfl⟩ := mem_signs hx
        have hC := hC H' (Same.refl _)
        have eS : (match V.str ⟨#[c]⟩ with | .str y => V.bl (y.cps.toList.all (sideB S)) | _ => .non) = .bl (sideB S c) := by
          show V.bl ([c].all (sideB S)) = _
          simp
        rw [eS] at hC
        refine ⟨_, rfl, rfl, _, rfl, ?_⟩
        have d45 : (V.str ⟨#[c]⟩ = V.str (PySem.Str.ofString "-")) ↔ c = 45 := by
          have : PySem.Str.ofString "-" = (⟨#[45]⟩ : Str) := by decide
          rw [this]
          exact ⟨fun z => sign_inj.mp (by injection z), fun z => by rw [z]⟩
        refine ite2 (fun h4 => ?_) (fun h4 => ?_)
        · have h4 := d45.mp (of_decide_eq_true h4)
          have e : sideB S c = true := by
            unfold sideB
            rw [decide_eq_true h4]
            rfl
          rw [e] at hC
          exact hC
        · have h4 : c ≠ 45 := fun z => h4 (decide_eq_true (d45.mpr z))
          have e : sideB S c = decide (c ∈ S.cps.toList) := by
            unfold sideB
            rw [decide_eq_false h4]
            rfl
          rw [e] at hC
          exact ⟨_, rfl, _, rfl, c, S, rfl, rfl, hC⟩
      · intro H' sm hl
        refine ⟨D, z.cps.toList.map (sideB S), rfl, SqL.of ?_, ?_⟩
        · rw [hl, pv_filter_true]
          simp [signs]
        · have e : kindD S (.str z) = (z.cps.toList.map (sideB S)).all id := by
            rw [eK, List.all_map]
            rfl
          rw [← e]
          exact k H' sm
    | _ => exact iteT (iteT (k H (Same.refl H)))
end
end My
end
section
set_option Elab.async false
set_option linter.all false
set_option maxRecDepth 100000
set_option maxHeartbeats 4000000
namespace My
open PySem PySem.Spec PyProof.Rows L2
abbrev s_kept : Stmt := topS 21
theorem find_one (z : Str) (c : Nat) (h : c ∈ z.cps.toList) : Txt.find z ⟨#[c]⟩ = ((z.cps.toList.idxOf c : Nat) : Int) := by
  have e := index0_one z c h
  unfold Txt.index0 at e
  unfold Txt.find
  revert e
  generalize Builtin.Str.occurrences z ⟨#[c]⟩ 0 z.length 1 = o
  intro e
  cases o with
  | nil => cases e
  | cons a l => exact congrArg Int.ofNat (Option.some.inj e)
section
variable {P : Program} {w : World} {K : PySem.W.Frag} {mg : Str → Option Value} {base : Heap}
theorem sc_kept : FnScope ["signs", "turns", "heads", "pair", "both", "sign"] ["signs", "turns"] (defScope s_kept) := ⟨rfl, rfl, rfl, by decide +kernel, rfl, by decide +kernel, by decide +kernel⟩
theorem ok_kept {f fL fP : Addr} {fd fdL fdP : FuncData} (F : Fun K "kept_turns" "kept_turns" s_kept f fd) (T : TB mg) (DL : Def K mg "is_listed" fL fdL ["value"]) (GL : FnOk P w K mg base CX0 1 fL fdL ["value"] (sp_isListed K))
    (DP : Def K mg "_is_pair" fP fdP ["signs", "value"]) (GP : FnOk P w K mg base CX0 2 fP fdP ["signs", "value"] (sp_isPair K)) : FnOk P w K mg base CX0 3 f fd ["signs", "turns"] (sp_kept K) := by
  refine F.ok sc_kept (fun vs H Q E h => ?_) (fun cdv A outer s H vs Q E hr h => ?_)
  · obtain ⟨S, v, d, p, rfl, _⟩ := h
    rfl
  · obtain ⟨S, v, d, p, rfl, hd, hf, hS, kN, kS⟩ := h
    have hu := hu_of hr
    have hr1 : Room 1 _ := hr.mono (by decide)
    refine ⟨_, pss_cons (ps_if (pt_not (pt_val (pe_call GL hr1 rfl DL.mgf DL.kp DL.bd .nil pass0 (pa_cons (pv 1) pa_nil)))) (pss_one (ps_ret pe_non)) pss_nil)
      (pss_cons (ps_set (i := 2) sc_kept.nd rfl (Or.inr rfl) pe_dnew')
      (pss_cons (ps_for PassesOwn.never rfl (pi_seq (pv 1)) (pg_name (i := 3) sc_kept.nd rfl (Or.inl rfl))
        (pss_cons (ps_if (PW.pt (pw_or (pt_not (pt_val (pe_call GP hr rfl DP.mgf DP.kp DP.bd .nil pass0 (pa_cons (pv 0) (pa_cons (pv 3) pa_nil)))))
            (pw_or (pt_cmp (pc_din hu (pe_ix ix_tup (pv 3) pe_int (fun _ _ => rfl)) (pv 2))) (pw_or1 (pt_cmp (pc_din hu (pe_ix ix_tup (pv 3) pe_int (fun _ _ => rfl)) (pv 2)))))))
          (pss_one (ps_ret pe_non)) pss_nil)
        (pss_cons (ps_dput hu (pv 2) (pe_ix ix_tup (pv 3) pe_int (fun _ _ => rfl)) (pe_ix ix_tup (pv 3) pe_int (fun _ _ => rfl)) rfl)
        (pss_one (ps_dput hu (pv 2) (pe_ix ix_tup (pv 3) pe_int (fun _ _ => rfl)) (pe_ix ix_tup (pv 3) pe_int (fun _ _ => rfl)) rfl)))))
      (pss_cons (ps_setLc (i := 4) (own := [("sign", 5)]) (g := gName 5) rfl sc_kept.nd rfl rfl (sw_true rfl rfl rfl (by decide +kernel)) (pi_str (pv 0)) (blkOk_by (own := [("sign", 5)]) (N := ["signs", "turns", "heads", "pair", "both", "sign"]) (sc := defScope s_kept) (by decide +kernel))
        (fun _ _ _ _ _ => pg_name (i := 5) sc_kept.nd rfl (Or.inl rfl)) (fun _ _ _ _ _ => pts_one (pt_cmp (pc_din hu (pv 5) (pv 2)))) (fun _ _ _ _ _ => pe_tup' (pa_cons (pv 5) (pa_cons (pe_dget hu (pv 2) (pv 5) (fun _ _ => rfl)) pa_nil))))
      (pss_one (ps_ret (pe_callTy call_tupOfL (by rfl) T.tuple (by decide +kernel) (pa_cons (by exact (pe_lc (own := [("pair", 3)]) (g := gName 3) rfl sc_kept.nd (pi_list (pv 4)) (blkOk_by (own := [("pair", 3)]) (N := ["signs", "turns", "heads", "pair", "both", "sign"]) (sc := defScope s_kept) (by decide +kernel))
        (fun _ _ _ _ _ => pg_name (i := 3) sc_kept.nd rfl (Or.inl rfl))
        (fun _ _ _ _ _ => pts_one (pt_cmpR op_le (pe_m1 PySem.F.slot_str_find PySem.F.type_str_find mt_find (pv 0) (pe_ix (ix_tupK (K := K) (by rfl)) (pv 3) pe_int (fun _ _ => rfl)))
          (pe_m1 PySem.F.slot_str_find PySem.F.type_str_find mt_find (pv 0) (pe_ix (ix_tupK (K := K) (by rfl)) (pv 3) pe_int (fun _ _ => rfl))) (nomark _)))
        (fun _ _ _ _ _ => pv 3))) pa_nil))))))), ?_⟩
    refine ⟨_, rfl, v, d, p, rfl, hd, fun H1 s1 => ⟨_, rfl, ?_⟩⟩
    cases hq : isSeqD d with
    | false =>
      refine iteT (kN ?_ H1 s1)
      cases d <;> first | rfl | exact absurd (show true = false from hq) (by decide)
    | true =>
      obtain ⟨a, xs, ds, st2, rfl, hseq, hall, hds⟩ := rp_seq hd hq
      have hk : keptD S d = (headsFrom S [] ds).map (dueOf S) := by
        rcases hds with rfl | rfl <;> rfl
      have hfa : fitAll ds = true ∧ ds.length ≤ 4000 := by
        rcases hds with rfl | rfl <;> (simp only [fit, Bool.and_eq_true, decide_eq_true_eq] at hf; exact ⟨hf.2, hf.1⟩)
      have hlen := hall.len
      refine iteF (fun hD H2 n2 => ?_)
      have s2 : Same H H2 := s1.trans n2.same
      have fD : H hD = none := by
        cases e : H hD with
        | none => rfl
        | some o => have := s1 _ _ e; rw [n2.free] at this; cases this
      show tFor (iSeq K (tVar 1)) (gName 3) _ _ [some (.str S), some (.ref a), some (.ref hD), none, none, none] H2
      refine tFor_seq (H0 := H) (fun C h => ⟨_, rfl, h⟩) hseq (fun i σ H' => ∃ (h : List (Nat × Nat)) (pr : Option V), σ = [some (.str S), some (.ref a), some (.ref hD), pr, none, none] ∧ Same H H' ∧ H' hD = some (.dK (toK h)) ∧ headsFrom S [] ds = headsFrom S h (ds.drop i) ∧ h.length ≤ 2 * i ∧ ∀ c b, headOf h c = some b → b ∈ S.cps.toList)
        ⟨[], none, rfl, s2, n2.here, rfl, Nat.le_refl _, fun c b e => by cases e⟩ (fun i σ' H' q => by obtain ⟨_, _, _, q, _⟩ := q; exact q) ?_ ?_
      · rintro i x σ H3 hi hx ⟨h, pr, rfl, s3, hH, hfr, hl, hin⟩
        obtain ⟨d', hd'⟩ : ∃ d', ds[i]? = some d' := ⟨ds[i]'(by omega), by simp [show i < ds.length by omega]⟩
        have hdrop : ds.drop i = d' :: ds.drop (i + 1) := by
          have := List.getElem?_eq_some_iff.mp hd'
          obtain ⟨hil, e⟩ := this
          rw [← e, List.getElem_cons_drop]
        rw [hdrop, headsFrom_cons] at hfr
        have hrp := ((hall.but2 s3).at hx hd').loose2
        refine ⟨_, rfl, _, rfl, S, x, d', p, rfl, hrp, fitAll.at hfa.1 hd', fun H4 s4 => ⟨_, rfl, ?_⟩⟩
        cases hp : pairOf S d' with
        | none =>
          rw [hp] at hfr
          refine iteT (iteT (kN (by rw [hk, hfr]; rfl) H4 (s3.trans s4)))
        | some ab =>
          obtain ⟨x1, x2⟩ := ab
          rw [hp] at hfr
          have hfr : headsFrom S [] ds = if ((headOf h x1).isSome || (headOf h x2).isSome) = true then none else headsFrom S (putN (putN h x1 x2) x2 x1) (ds.drop (i + 1)) := hfr
          obtain ⟨rfl, m1, m2⟩ := pairOf_some hp
          obtain ⟨q, rfl, hq4, _⟩ := rp_pair (hrp.but (.of s4))
          have hH4 := s4 _ _ hH
          refine iteF ⟨_, rfl, q, _, _, _, rfl, rfl, SqT.of hq4, at0 _ _, _, rfl, hD, _, rfl, dget_toK x1 hH4, _, rfl, ?_⟩
          cases e1 : headOf h x1 with
          | some y =>
            rw [e1] at hfr
            exact iteT (iteT (kN (by rw [hk, hfr]; rfl) H4 (s3.trans s4)))
          | none =>
            refine iteF ⟨_, rfl, q, _, _, _, rfl, rfl, SqT.of hq4, at1 _ _, _, rfl, hD, _, rfl, dget_toK x2 hH4, _, rfl, ?_⟩
            cases e2 : headOf h x2 with
            | some y =>
              rw [e1, e2] at hfr
              exact iteT (kN (by rw [hk, hfr]; rfl) H4 (s3.trans s4))
            | none =>
              rw [e1, e2] at hfr
              have l1 := putN_length h x1 x2
              have l2 := putN_length (putN h x1 x2) x2 x1
              refine iteF ⟨_, rfl, q, _, _, _, rfl, rfl, SqT.of hq4, at1 _ _, _, rfl, _, rfl, q, _, _, _, rfl, rfl, SqT.of hq4, at0 _ _, hD, _, rfl, dput_toK x1 x2 hH4 (Nat.lt_of_le_of_lt (show h.length ≤ 8000 by omega) (by decide)), ?_⟩
              have w5 : Wr H4 hD (.dK (toK (putN h x1 x2))) (upd H4 hD (.dK (toK (putN h x1 x2)))) := .mk'
              generalize upd H4 hD (HO.dK (toK (putN h x1 x2))) = H5 at w5 ⊢
              have hq5 : H5 q = some (.tup [sg x1, sg x2]) := w5.but q _ (ne_of hq4 hH4 (by intro z; cases z)) hq4
              refine ⟨_, rfl, q, _, _, _, rfl, rfl, SqT.of hq5, at0 _ _, _, rfl, _, rfl, q, _, _, _, rfl, rfl, SqT.of hq5, at1 _ _, hD, _, rfl, dput_toK x2 x1 w5.here (Nat.lt_of_le_of_lt (show (putN h x1 x2).length ≤ 9000 by omega) (by decide)), ?_⟩
              refine ⟨_, _, rfl, Same.wr (Same.wr (s3.trans s4) fD w5) fD .mk', upd_same, hfr, by omega, ?_⟩
              intro c b hcb
              rw [headOf_putN, headOf_putN] at hcb
              split at hcb
              · exact Option.some.inj hcb ▸ m1
              · split at hcb
                · exact Option.some.inj hcb ▸ m2
                · exact hin c b hcb
      · rintro σ' H3 ⟨h, pr, rfl, s3, hH, hfr, hl, hin⟩
        have hkd : keptD S d = some (dueOf S h) := by
          rw [hk, hfr, hlen, List.drop_length]
          rfl
        have hz : S.cps.toList.length = (signs S).length := by rw [signs_len]; exact Array.length_toList
        have hsm : (signs S).length < sizeLine := by rw [signs_len]; exact Nat.lt_of_le_of_lt hS (by decide)
        have tupStay : ∀ (H H' : Hp) (D q : Addr) (e : Nat × Nat), (∃ zs, H D = some (.lst zs)) → But D H H' → H q = some (.tup [sg e.1, sg e.2]) → H' q = some (.tup [sg e.1, sg e.2]) := by
          rintro H H' D q e ⟨zs, hz⟩ b hq
          exact b q _ (ne_of hq hz (by intro z; cases z)) hq
        refine ⟨_, rfl, S, rfl, fun D1 hD1 => lc_pair walk_signs S.cps.toList hz (fun c => (headOf h c).isSome) (fun c y H' => ∃ q, y = V.ref q ∧ H' q = some (.tup [sg c, sg ((headOf h c).getD 0)])) ?_ hD1 (fun _ _ => trivial) hsm (fun x => rfl) ?_ ?_ ?_⟩
        · rintro c y H5 H6 hl5 hb ⟨q, e, hq⟩
          exact ⟨q, e, tupStay H5 H6 D1 q (c, (headOf h c).getD 0) hl5 hb hq⟩
        · intro j x c H5 C hx hc s5 hC
          obtain rfl : x = sg c := by
            unfold signs at hx
            rw [List.getElem?_map, hc] at hx
            exact (Option.some.inj hx).symm
          refine ⟨_, rfl, _, rfl, hD, _, rfl, dget_toK c (s5 _ _ hH), _, rfl, ?_⟩
          have e : ((headOf h c).map sg).isSome = (headOf h c).isSome := by cases headOf h c <;> rfl
          rw [e]
          exact hC H5 (Same.refl _)
        · intro j x c H5 C hx hc hp s5 hC
          obtain rfl : x = sg c := by
            unfold signs at hx
            rw [List.getElem?_map, hc] at hx
            exact (Option.some.inj hx).symm
          obtain ⟨b, hb⟩ := Option.isSome_iff_exists.mp hp
          refine ⟨_, rfl, _, rfl, _, rfl, hD, sg b, rfl, ?_, (by show 2 ≤ sizeLine; decide), fun q H6 n6 => hC H6 _ n6.same ⟨q, rfl, ?_⟩⟩
          · have := dget_toK c (s5 _ _ hH)
            rw [hb] at this
            exact this
          · rw [hb]
            exact n6.here
        · intro H4 ys s4 hD4 hP
          -- the pairs that the dict tells
          have hP2 : PairsAt H4 ((S.cps.toList.filter fun c => (headOf h c).isSome).map fun c => (c, (headOf h c).getD 0)) ys := by
            clear hD4
            generalize S.cps.toList.filter (fun c => (headOf h c).isSome) = l at hP
            induction hP with
            | nil => exact .nil
            | cons a b ih => exact .cons a ih
          have hL : ∀ e ∈ (S.cps.toList.filter fun c => (headOf h c).isSome).map fun c => (c, (headOf h c).getD 0), e.1 ∈ S.cps.toList ∧ e.2 ∈ S.cps.toList := by
            intro e he
            obtain ⟨c, hc, rfl⟩ := List.mem_map.mp he
            obtain ⟨h1, h2⟩ := List.mem_filter.mp hc
            obtain ⟨b, hb⟩ := Option.isSome_iff_exists.mp h2
            exact ⟨h1, by rw [hb]; exact hin c b hb⟩
          have hdue : dueOf S h = ((S.cps.toList.filter fun c => (headOf h c).isSome).map fun c => (c, (headOf h c).getD 0)).filter fun e => decide (S.cps.toList.idxOf e.1 ≤ S.cps.toList.idxOf e.2) := rfl
          have hLl : ((S.cps.toList.filter fun c => (headOf h c).isSome).map fun c => (c, (headOf h c).getD 0)).length ≤ 4000 := by
            rw [List.length_map]
            refine Nat.le_trans (List.length_filter_le _ _) ?_
            rw [Array.length_toList]
            exact hS
          generalize (S.cps.toList.filter fun c => (headOf h c).isSome).map (fun c => (c, (headOf h c).getD 0)) = L at hP2 hL hdue hLl
          have hpl := hP2.length
          refine ⟨_, rfl, D1, rfl, ⟨ys, SqL.of hD4⟩, fun D2 hD2 => lc_pair walk_list L hpl (fun e => decide (S.cps.toList.idxOf e.1 ≤ S.cps.toList.idxOf e.2)) (fun e y H' => ∃ q, y = V.ref q ∧ H' q = some (.tup [sg e.1, sg e.2])) ?_ hD2 (fun H' sm => sm.seq (SqL.of hD4)) (by rw [← hpl]; exact Nat.lt_of_le_of_lt hLl (by decide)) (fun x => rfl) ?_ ?_ ?_⟩
          · rintro e y H5 H6 hl5 hb ⟨q, e1, hq⟩
            exact ⟨q, e1, tupStay H5 H6 D2 q e hl5 hb hq⟩
          · intro j x e H5 C hx he s5 hC
            obtain ⟨e', he', q, rfl, hq⟩ := Paired.at hP2 hx
            rw [he] at he'
            obtain rfl : e = e' := Option.some.inj he'
            obtain ⟨i1, i2⟩ := hL e (List.mem_of_getElem? he)
            have hq5 := s5 _ _ hq
            refine ⟨_, rfl, ⟨_, rfl⟩, _, rfl, q, _, _, _, rfl, rfl, SqT.of hq5, at0 _ _, S, ⟨#[e.1]⟩, rfl, rfl, ?_⟩
            rw [find_one S e.1 i1]
            refine ⟨_, rfl, ⟨_, rfl⟩, _, rfl, q, _, _, _, rfl, rfl, SqT.of hq5, at1 _ _, S, ⟨#[e.2]⟩, rfl, rfl, ?_⟩
            rw [find_one S e.2 i2]
            refine ⟨_, _, rfl, rfl, _, rfl, ?_⟩
            have e3 : decide (((S.cps.toList.idxOf e.1 : Nat) : Int) ≤ ((S.cps.toList.idxOf e.2 : Nat) : Int)) = decide (S.cps.toList.idxOf e.1 ≤ S.cps.toList.idxOf e.2) := by
              rw [decide_eq_decide]
              omega
            rw [e3]
            exact hC H5 (Same.refl _)
          · intro j x e H5 C hx he _ s5 hC
            obtain ⟨e', he', q, rfl, hq⟩ := Paired.at hP2 hx
            rw [he] at he'
            obtain rfl : e = e' := Option.some.inj he'
            exact ⟨_, rfl, hC H5 _ (Same.refl _) ⟨q, rfl, s5 _ _ hq⟩⟩
          · intro H5 zs s5 hD5 hP5
            refine ⟨D2, zs, rfl, SqL.of hD5, fun r H6 n6 => ?_⟩
            have sA : Same H H5 := (s3.trans s4).trans s5
            have fr : H r = none := by
              cases e : H r with
              | none => rfl
              | some o => have := sA _ _ e; rw [n6.free] at this; cases this
            have hP6 : PairsAt H5 (dueOf S h) zs := by
              rw [hdue]
              exact hP5
            exact kS _ hkd H6 r zs (sA.trans n6.same) fr n6.here (hP6.same n6.same)
end
end My
end
section
set_option Elab.async false
set_option linter.all false
set_option maxRecDepth 100000
set_option maxHeartbeats 4000000
namespace My
open PySem PySem.Spec PyProof.Rows L2
abbrev s_keptM : Stmt := inCls s_cls 11
abbrev s_shownM : Stmt := inCls s_cls 10
/-- where a side stands in the order -/
def sideAt (S : Str) (c : Nat) : Nat := (S.cps.toList ++ [45]).idxOf c
/-- a kind as it is kept -/
def keptK (S : Str) (x y : Nat) : Str := if sideAt S y < sideAt S x then mkS [y, x] else mkS [x, y]
theorem kind_two {S z : Str} (h : kindD S (.str z) = true) : ∃ x y, z = mkS [x, y] ∧ sideB S x = true ∧ sideB S y = true ∧ ¬ (x = 45 ∧ y = 45) := by
  have h : (decide (z.length = 2) && !decide (z = (⟨#[45, 45]⟩ : Str)) && z.cps.toList.all (sideB S)) = true := h
  rw [Bool.and_eq_true, Bool.and_eq_true] at h
  obtain ⟨⟨h1, h2⟩, h3⟩ := h
  have h1 := of_decide_eq_true h1
  have zl : z.cps.toList.length = 2 := Array.length_toList.trans h1
  obtain ⟨x, y, e⟩ : ∃ x y, z.cps.toList = [x, y] := by
    match z.cps.toList, zl with
    | [x, y], _ => exact ⟨x, y, rfl⟩
  have ez : z = mkS [x, y] := by rw [← e, mkS_self]
  rw [e] at h3
  simp only [List.all_cons, List.all_nil, Bool.and_true, Bool.and_eq_true] at h3
  refine ⟨x, y, ez, h3.1, h3.2, fun q => ?_⟩
  rw [ez, q.1, q.2] at h2
  revert h2
  decide
theorem side_mem {S : Str} {c : Nat} (h : sideB S c = true) : c ∈ S.cps.toList ++ [45] := by
  unfold sideB at h
  rw [Bool.or_eq_true] at h
  rcases h with h | h
  · exact List.mem_append_right _ (by rw [of_decide_eq_true h]; exact List.mem_cons_self)
  · exact List.mem_append_left _ (of_decide_eq_true h)
theorem order_cps (S : Str) : (S ++ PySem.Str.ofString "-").cps.toList = S.cps.toList ++ [45] := by
  show (S.cps ++ (PySem.Str.ofString "-").cps).toList = _
  rw [Array.toList_append]
  have : (PySem.Str.ofString "-").cps.toList = [45] := by decide
  rw [this]
def sp_keptM (K : PySem.W.Frag) (C IK : Addr) : Sp := fun vs H Q E => ∃ (a p : Addr) (S : Str) (ps : List (Nat × Nat)) (v : V) (d : PyData), vs = [.ref a, v] ∧ FontAt H C a S ps ∧ S.length ≤ 4000 ∧ Rp K p H false v d ∧ textFits 4000 d ∧
  (kindD S d = false → ∀ H' dd, Same H H' → H' dd = none → E (.ref IK) (some dd) (upd H' dd (.xd [("value", v)]))) ∧ (∀ x y, d = .str (mkS [x, y]) → kindD S d = true → ∀ H', Same H H' → Q (.str (keptK S x y)) H')
section
variable {P : Program} {w : World} {K : PySem.W.Frag} {mg : Str → Option Value} {base : Heap}
theorem sc_keptM : FnScope ["self", "kind", "order"] ["self", "kind"] (defScope s_keptM) := ⟨rfl, rfl, rfl, by decide +kernel, rfl, by decide +kernel, by decide +kernel⟩
theorem ok_keptM {f C fK IK fI : Addr} {fd fdK : FuncData} {tB : Tok} (F : Fun K "kept" "Font.kept" s_keptM f fd) (c : Cls K C) (n1 : NoAttr K C "_signs") (gB : mg "BLANK" = some (.str "-" tB)) (D : Def K mg "is_kind" fK fdK ["signs", "value"]) (G : FnOk P w K mg base CX0 1 fK fdK ["signs", "value"] (sp_isKind K))
    (T : VErr K mg "InvalidKind" "InvalidKind.__init__" IK fI) : FnOk P w K mg base (L2.CX P w) 2 f fd ["self", "kind"] (sp_keptM K C IK) := by
  refine F.okX sc_keptM (fun vs H Q E h => ?_) (fun cdv A outer s H vs Q E hr h => ?_)
  · obtain ⟨a, p, S, ps, v, d, rfl, _⟩ := h
    rfl
  · obtain ⟨a, p, S, ps, v, d, rfl, hF, hS, hd, hz, kE, kQ⟩ := h
    obtain ⟨dx, r, ys, h1, h2, h3⟩ := hF.at_
    refine ⟨_, pss_cons (ps_if (pt_not (pt_val (pe_call (E := E0) G hr rfl D.mgf D.kp D.bd .nil pass0 (pa_cons (pe_fld (pv 0) rfl) (pa_cons (pv 1) pa_nil))))) (pss_one (ps_raiseErr rfl T fld_value hr (show 1 ≤ 1 by decide) (takes_of rfl rfl rfl rfl) (by exact (pa_cons (pv 1) pa_nil)) rfl)) pss_nil)
      (PSs.nox (pss_cons (ps_set (i := 2) sc_keptM.nd rfl (Or.inl rfl) (pe_op op_add_str (pe_fld (pv 0) rfl) (pe_glob (v := .str "-") rfl gB ⟨_, rfl⟩)))
      (pss_cons (ps_if (pt_cmpR op_gt (pe_m1 PySem.F.slot_str_find PySem.F.type_str_find mt_find (pv 2) (pe_ix ix_str (pv 1) pe_int (fun _ _ => rfl))) (pe_m1 PySem.F.slot_str_find PySem.F.type_str_find mt_find (pv 2) (pe_ix ix_str (pv 1) pe_int (fun _ _ => rfl))) (nomark _))
        (pss_one (ps_ret (pe_op op_add_str (pe_ix ix_str (pv 1) pe_int (fun _ _ => rfl)) (pe_ix ix_str (pv 1) pe_int (fun _ _ => rfl))))) pss_nil)
      (pss_one (ps_ret (pv 1)))))), ?_⟩
    refine ⟨_, rfl, a, _, dx, _, _, rfl, h1, c, n1, fs_signs S r, _, rfl, S, v, d, p, rfl, hd, hz, fun H1 s1 => ⟨_, rfl, ?_⟩⟩
    cases hs : kindD S d with
    | false => exact iteT ⟨_, rfl, _, rfl, fun dd hdd => kE hs H1 dd s1 hdd⟩
    | true =>
      obtain ⟨z, rfl⟩ : ∃ z, d = .str z := by
        cases d with
        | str z => exact ⟨z, rfl⟩
        | _ => cases hs
      obtain ⟨x, y, rfl, bx, by_, _⟩ := kind_two hs
      cases hd
      have fin := kQ x y rfl hs H1 s1
      have h1' := s1 _ _ h1
      have l1 : (PySem.Str.ofString "-").length = 1 := by decide
      have l2 : (mkS [x, y]).length ≤ sizeLine := by rw [mkS_len]; show 2 ≤ sizeLine; decide
      have a0 : atI (mkS [x, y]).cps.toList (0 : Int) = some x := atI_nat (j := 0) rfl
      have a1 : atI (mkS [x, y]).cps.toList (1 : Int) = some y := atI_nat (j := 1) rfl
      have f0 : Txt.find (S ++ PySem.Str.ofString "-") ⟨#[x]⟩ = ((sideAt S x : Nat) : Int) := by
        rw [find_one _ x (by rw [order_cps]; exact side_mem bx), order_cps]
        rfl
      have f1 : Txt.find (S ++ PySem.Str.ofString "-") ⟨#[y]⟩ = ((sideAt S y : Nat) : Int) := by
        rw [find_one _ y (by rw [order_cps]; exact side_mem by_), order_cps]
        rfl
      refine iteF ⟨_, rfl, a, _, dx, _, _, rfl, h1', c, n1, fs_signs S r, S, _, rfl, rfl, ?_, ?_⟩
      · rw [l1]
        exact Nat.le_trans (show S.length + 1 ≤ 4001 by omega) (by decide)
      refine ⟨_, rfl, ⟨_, rfl⟩, _, rfl, _, _, _, rfl, rfl, l2, a0, _, ⟨#[x]⟩, rfl, rfl, ?_⟩
      rw [f0]
      refine ⟨_, rfl, ⟨_, rfl⟩, _, rfl, _, _, _, rfl, rfl, l2, a1, _, ⟨#[y]⟩, rfl, rfl, ?_⟩
      rw [f1]
      refine ⟨_, _, rfl, rfl, _, rfl, ?_⟩
      refine ite2 (fun h => ?_) (fun h => ?_)
      · have h : sideAt S y < sideAt S x := by have := of_decide_eq_true h; omega
        unfold keptK at fin
        rw [if_pos h] at fin
        refine ⟨_, rfl, _, _, _, rfl, rfl, l2, a1, _, rfl, _, _, _, rfl, rfl, l2, a0, _, _, rfl, rfl, by show 1 + 1 ≤ sizeLine; decide, ?_⟩
        exact fin
      · have h : ¬ sideAt S y < sideAt S x := fun z => h (decide_eq_true (by omega))
        unfold keptK at fin
        rw [if_neg h] at fin
        exact ⟨_, rfl, fin⟩
end
end My
end
section
set_option Elab.async false
set_option linter.all false
set_option maxRecDepth 100000
set_option maxHeartbeats 4000000
/-! Nnumof: number_of: the number that a row writes; what it raises. -/
namespace My
open PySem PySem.Spec PyProof.Rows L2
abbrev s_numof : Stmt := topS 25
/-- the number that a row writes, behind what was read -/
def valR (b : Nat) (S : List Nat) : Nat → List Nat → Nat
  | a, [] => a
  | a, c :: l => valR b S (a * b + S.idxOf c) l
theorem valR_app (b : Nat) (S : List Nat) : ∀ (l : List Nat) (a c : Nat), valR b S a (l ++ [c]) = valR b S a l * b + S.idxOf c
  | [], a, c => rfl
  | d :: l, a, c => valR_app b S l (a * b + S.idxOf d) c
theorem valR_lt {b : Nat} {S : List Nat} (hb : S.length ≤ b) (h0 : 0 < b) : ∀ (l : List Nat) (i : Nat) (a : Nat), (∀ c ∈ l, c ∈ S) → a < b ^ i → valR b S a l < b ^ (i + l.length)
  | [], i, a, _, h => h
  | c :: l, i, a, hl, h => by
    have hc := List.idxOf_lt_length_of_mem (hl c List.mem_cons_self)
    have h1 : a * b + S.idxOf c < b ^ (i + 1) := by
      rw [Nat.pow_succ]
      have : (a + 1) * b ≤ b ^ i * b := Nat.mul_le_mul_right b h
      rw [Nat.add_mul] at this
      omega
    have := valR_lt hb h0 l (i + 1) (a * b + S.idxOf c) (fun x hx => hl x (List.mem_cons_of_mem _ hx)) h1
    rw [List.length_cons, show i + (l.length + 1) = i + 1 + l.length by omega]
    exact this
/-- whether a value is a row that writes a number -/
def numerD (S : Str) : PyData → Bool
  | .str z => rowD S (.str z) && (decide (z.cps.toList ≠ []) && decide (z.cps.toList.head? ≠ S.cps.toList.head?))
  | _ => false
def sp_numof (C : Addr) : Sp := fun vs H Q _ => ∃ (fa : Addr) (S z : Str) (ps : List (Nat × Nat)), vs = [.ref fa, .str z] ∧ FontAt H C fa S ps ∧ 2 ≤ S.length ∧ S.length ≤ 10 ∧ S.cps.toList.Nodup ∧ z.length ≤ 4000 ∧ numerD S (.str z) = true ∧
  ∀ H', Same H H' → Q (.int (valR S.length S.cps.toList 0 z.cps.toList : Nat)) H'
def sp_numofX (K : PySem.W.Frag) (C IR : Addr) : Sp := fun vs H _ E => ∃ (fa p : Addr) (S : Str) (ps : List (Nat × Nat)) (v : V) (d : PyData), vs = [.ref fa, v] ∧ FontAt H C fa S ps ∧ 2 ≤ S.length ∧ S.length ≤ 10 ∧ Rp K p H false v d ∧ textFits 4000 d ∧ numerD S d = false ∧ Err E IR v H
section
variable {P : Program} {w : World} {K : PySem.W.Frag} {mg : Str → Option Value} {base : Heap}
abbrev NNo : List Str := ["font", "row", "number", "sign"]
theorem sc_numof : FnScope NNo ["font", "row"] (defScope s_numof) := ⟨rfl, rfl, rfl, by decide +kernel, rfl, by decide +kernel, by decide +kernel⟩
theorem ok_numof {f fR C : Addr} {fd fdR : FuncData} (F : Fun K "number_of" "number_of" s_numof f fd) (T : TB mg) (sg_ : SgnC P w K mg base C) (L : LenC P w K mg base C)
    (D : Def K mg "is_row" fR fdR ["signs", "value"]) (G : FnOk P w K mg base CX0 1 fR fdR ["signs", "value"] (sp_isRow K)) :
    FnOk P w K mg base CX0 4 f fd ["font", "row"] (sp_numof C) := by
  obtain ⟨p1, g1, fd1, hp1, G1, b1⟩ := sg_.ex
  obtain ⟨fl, fdl, OL, GL, bL⟩ := L.ex
  refine F.ok sc_numof (fun vs H Q E h => ?_) (fun cdv A outer s H vs Q E hr h => ?_)
  · obtain ⟨fa, S, z, ps, rfl, _⟩ := h
    rfl
  · obtain ⟨fa, S, z, ps, rfl, hF, S2, S10, nd, hz, hn, k⟩ := h
    have r1 : Room 1 _ := hr.mono (by decide)
    have r2 : Room 2 _ := hr.mono (by decide)
    have r3 : Room 3 _ := hr.mono (by decide)
    have CL := call_lenF (X := (cxOf CX0 P w K mg base NNo "number_of" (defScope s_numof) f cdv A outer s H E).nox) OL GL bL r2
    refine ⟨_, pss_cons (ps_if (PW.pt (pw_or (pt_not (pt_val (pe_call (E := E0) G r1 rfl D.mgf D.kp D.bd .nil pass0 (pa_cons (pe_prop (E := E0) (pv 0) sg_.cls hp1 G1 r3 b1 .nil pass0 rfl) (pa_cons (pv 1) pa_nil)))))
        (pw_or (pt_cmpR op_eq (pv 1) pe_str (nomark _)) (pw_or1 (pt_cmpR op_eq (pe_ix ix_str (pv 1) pe_int (fun _ _ => rfl)) (pe_ix ix_str (pe_prop (E := E0) (pv 0) sg_.cls hp1 G1 r3 b1 .nil pass0 rfl) pe_int (fun _ _ => rfl)) (nomark _)))))) (pss_one ps_never) pss_nil)
      (pss_cons (ps_set (i := 2) sc_numof.nd rfl (Or.inl rfl) pe_int)
      (pss_cons (ps_for PassesOwn.never rfl (pi_str (pv 1)) (pg_name (i := 3) sc_numof.nd rfl (Or.inl rfl))
        (pss_one (ps_set (i := 2) sc_numof.nd rfl (Or.inl rfl) (pe_op op_add (pe_op op_mulW (pv 2) (pe_callB (id := "len") CL (by rfl) T.len PySem.boot_len (pa_cons (pv 0) pa_nil))) (pe_m1 PySem.F.slot_str_find PySem.F.type_str_find mt_find (pe_prop (E := E0) (pv 0) sg_.cls hp1 G1 r3 b1 .nil pass0 rfl) (pv 3))))))
      (pss_one (ps_ret (pv 2))))), ?_⟩
    obtain ⟨dx, rr, ys, i1, i2, i3⟩ := id hF.at_
    have S4 : S.length ≤ 4000 := by omega
    have hS : S.length ≤ sizeLine := Nat.le_trans S10 (by decide)
    have hz' : z.length ≤ sizeLine := Nat.le_trans hz (by decide)
    have zl : z.cps.toList.length = z.length := Array.length_toList
    have Sl : S.cps.toList.length = S.length := Array.length_toList
    have hn : (rowD S (.str z) && (decide (z.cps.toList ≠ []) && decide (z.cps.toList.head? ≠ S.cps.toList.head?))) = true := hn
    rw [Bool.and_eq_true, Bool.and_eq_true, decide_eq_true_eq, decide_eq_true_eq] at hn
    obtain ⟨h1, h2, h3⟩ := hn
    have mem : ∀ c ∈ z.cps.toList, c ∈ S.cps.toList := fun c hc => of_decide_eq_true (List.all_eq_true.mp (show (z.cps.toList.all fun c => decide (c ∈ S.cps.toList)) = true from h1) c hc)
    obtain ⟨c0, r0, e0⟩ : ∃ c r, z.cps.toList = c :: r := by
      cases e : z.cps.toList with
      | nil => exact absurd e h2
      | cons c r => exact ⟨c, r, rfl⟩
    obtain ⟨s0, t0, e1⟩ : ∃ c r, S.cps.toList = c :: r := by
      cases e : S.cps.toList with
      | nil => rw [e] at Sl; simp at Sl; omega
      | cons c r => exact ⟨c, r, rfl⟩
    have ne0 : c0 ≠ s0 := fun q => h3 (by rw [e0, e1, q]; rfl)
    have a0 : atI z.cps.toList (0 : Int) = some c0 := by rw [e0]; exact atI_nat (j := 0) rfl
    have a1 : atI S.cps.toList (0 : Int) = some s0 := by rw [e1]; exact atI_nat (j := 0) rfl
    refine ⟨_, rfl, fa, dx, _, rfl, i1, fa, dx, _, _, rfl, i1, fs_signs S rr, _, rfl, S, .str z, .str z, 0, rfl, .str _ _, hz, fun H1 s1 => ⟨_, rfl, ?_⟩⟩
    rw [h1]
    have j1 := s1 _ _ i1
    refine iteF ⟨_, rfl, rfl, _, rfl, ?_⟩
    have d1 : decide (V.str z = V.str (PySem.Str.ofString "")) = false := decide_eq_false fun q => h2 (by injection q with q; rw [q]; rfl)
    rw [d1]
    refine iteF ⟨_, rfl, z, _, _, rfl, rfl, hz', a0, _, rfl, fa, dx, _, rfl, j1, fa, dx, _, _, rfl, j1, fs_signs S rr, S, _, _, rfl, rfl, hS, a1, rfl, _, rfl, ?_⟩
    have d2 : decide (V.str (⟨#[c0]⟩ : Str) = V.str ⟨#[s0]⟩) = false := decide_eq_false fun q => ne0 (by injection q with q; injection q with q; injection q with q; injection q)
    rw [d2]
    refine iteF ⟨_, rfl, z, rfl, ?_⟩
    refine for_it (walk_signs (z := z)) (fun j σ' H' => ∃ o3 : Option V, σ' = [some (.ref fa), some (.str z), some (.int ((valR S.length S.cps.toList 0 (z.cps.toList.take j) : Nat) : Int)), o3] ∧ Same H H')
      ⟨none, rfl, s1⟩ (fun _ _ _ _ _ => trivial) ?_ ?_
    · rintro j x σ' Ha Hb hj ⟨o3, rfl, sa⟩ ⟨rfl, hx⟩
      rw [signs_len] at hj
      have hj2 : j < z.cps.toList.length := by omega
      obtain ⟨c, hc⟩ : ∃ c, z.cps.toList[j]? = some c := ⟨_, List.getElem?_eq_getElem hj2⟩
      obtain rfl : x = sg c := by
        have hx : (z.cps.toList.map sg)[j]? = some x := hx
        rw [List.getElem?_map, hc] at hx
        exact (Option.some.inj hx).symm
      have cS := mem c (List.mem_of_getElem? hc)
      have ja := sa _ _ i1
      have b10 : valR S.length S.cps.toList 0 (z.cps.toList.take j) < 2 ^ 16000 := by
        have q := valR_lt (b := S.length) (S := S.cps.toList) (by omega) (by omega) (z.cps.toList.take j) 0 0 (fun c hc => mem c (List.mem_of_mem_take hc)) (by rw [Nat.pow_zero]; exact Nat.zero_lt_one)
        refine Nat.lt_of_lt_of_le q ?_
        have l1 : 0 + (z.cps.toList.take j).length ≤ 4000 := by rw [List.length_take]; omega
        refine Nat.le_trans (Nat.pow_le_pow_left (show S.length ≤ 2 ^ 4 by omega) _) ?_
        rw [← Nat.pow_mul]
        exact Nat.pow_le_pow_right (by decide) (by omega)
      have wm : CMulW ((valR S.length S.cps.toList 0 (z.cps.toList.take j) : Nat) : Int) (S.length : Int) := wide_mul (a := 16000) (b := 30) (by rw [Int.natAbs_natCast]; exact b10) (by rw [Int.natAbs_natCast]; exact Nat.lt_of_le_of_lt S10 (by decide)) (by decide) (by decide) (by decide)
      refine ⟨_, rfl, _, rfl, fa, S, ps, rfl, hF.same sa, S4, _, _, rfl, rfl, wm, ?_⟩
      refine ⟨_, rfl, fa, dx, _, rfl, ja, ⟨fa, dx, _, _, rfl, ja, fs_signs S rr, ?_⟩⟩
      refine ⟨⟨_, rfl⟩, _, rfl, S, ⟨#[c]⟩, rfl, rfl, ?_⟩
      rw [find_one S c cS]
      refine ⟨_, _, rfl, rfl, some (sg c), ?_, sa⟩
      have tk : z.cps.toList.take (j + 1) = z.cps.toList.take j ++ [c] := by
        rw [List.take_add_one, hc]
        rfl
      rw [tk, valR_app]
      rfl
    · rintro σ' Hc ⟨o3, rfl, sc⟩
      rw [signs_len, ← zl, List.take_length]
      exact ⟨_, rfl, k Hc sc⟩
theorem ok_numofX {f fR C IR fI : Addr} {fd fdR : FuncData} (F : Fun K "number_of" "number_of" s_numof f fd) (sg_ : SgnC P w K mg base C)
    (D : Def K mg "is_row" fR fdR ["signs", "value"]) (G : FnOk P w K mg base CX0 1 fR fdR ["signs", "value"] (sp_isRow K)) (TE : VErr K mg "InvalidRow" "InvalidRow.__init__" IR fI) :
    FnOk P w K mg base (L2.CX P w) 4 f fd ["font", "row"] (sp_numofX K C IR) := by
  obtain ⟨p1, g1, fd1, hp1, G1, b1⟩ := sg_.ex
  refine F.okX sc_numof (fun vs H Q E h => ?_) (fun cdv A outer s H vs Q E hr h => ?_)
  · obtain ⟨fa, p, S, ps, v, d, rfl, _⟩ := h
    rfl
  · obtain ⟨fa, p, S, ps, v, d, rfl, hF, S2, S10, hd, hz, hn, k⟩ := h
    have r1 : Room 1 _ := hr.mono (by decide)
    have r3 : Room 3 _ := hr.mono (by decide)
    refine ⟨_, pss_cons (ps_if (PW.pt (pw_or (pt_not (pt_val (pe_call (E := E0) G r1 rfl D.mgf D.kp D.bd .nil pass0 (pa_cons (pe_prop (E := E0) (pv 0) sg_.cls hp1 G1 r3 b1 .nil pass0 rfl) (pa_cons (pv 1) pa_nil)))))
        (pw_or (pt_cmpR op_eq (pv 1) pe_str (nomark _)) (pw_or1 (pt_cmpR op_eq (pe_ix ix_str (pv 1) pe_int (fun _ _ => rfl)) (pe_ix ix_str (pe_prop (E := E0) (pv 0) sg_.cls hp1 G1 r3 b1 .nil pass0 rfl) pe_int (fun _ _ => rfl)) (nomark _)))))) (pss_one (ps_raiseErr rfl TE fld_value hr (show 1 ≤ 3 by decide) (takes_of rfl rfl rfl rfl) (by exact (pa_cons (pv 1) pa_nil)) rfl)) pss_nil)
      (pss_cons ps_never (pss_cons ps_never (pss_one ps_never))), ?_⟩
    obtain ⟨dx, rr, ys, i1, i2, i3⟩ := id hF.at_
    have S4 : S.length ≤ 4000 := by omega
    have hS : S.length ≤ sizeLine := Nat.le_trans S10 (by decide)
    have Sl : S.cps.toList.length = S.length := Array.length_toList
    refine ⟨_, rfl, fa, dx, _, rfl, i1, fa, dx, _, _, rfl, i1, fs_signs S rr, _, rfl, S, v, d, p, rfl, hd, hz, fun H1 s1 => ⟨_, rfl, ?_⟩⟩
    have out : ∀ dd : Addr, H1 dd = none → E (.ref IR) (some dd) (upd H1 dd (.xd [("value", v)])) := fun dd fd =>
      k _ dd (fun b o e => by rw [upd_ne (ne_of_none (s1 _ _ e) fd)]; exact s1 _ _ e) (s1.free fd) upd_same
    have j1 := s1 _ _ i1
    cases hr' : rowD S d with
    | false => exact iteT ⟨_, rfl, _, rfl, out⟩
    | true =>
      obtain ⟨z, rfl⟩ : ∃ z, d = .str z := by
        cases d with
        | str z => exact ⟨z, rfl⟩
        | _ => cases hr'
      cases hd
      have hz : z.length ≤ 4000 := hz
      have hz' : z.length ≤ sizeLine := Nat.le_trans hz (by decide)
      refine iteF ⟨_, rfl, rfl, _, rfl, ?_⟩
      have hn : (rowD S (.str z) && (decide (z.cps.toList ≠ []) && decide (z.cps.toList.head? ≠ S.cps.toList.head?))) = false := hn
      rw [hr', Bool.true_and] at hn
      by_cases q : z.cps.toList = []
      · have zz : z = PySem.Str.ofString "" := by
          obtain ⟨⟨l⟩⟩ := z
          have q : l = [] := q
          rw [q]
          rfl
        rw [decide_eq_true (congrArg V.str zz)]
        exact iteT ⟨_, rfl, _, rfl, out⟩
      · have d1 : decide (V.str z = V.str (PySem.Str.ofString "")) = false := decide_eq_false fun e => q (by injection e with e; rw [e]; rfl)
        rw [d1]
        rw [decide_eq_true q, Bool.true_and] at hn
        have heq : z.cps.toList.head? = S.cps.toList.head? := Classical.byContradiction fun e => by
          rw [decide_eq_true e] at hn
          cases hn
        obtain ⟨c0, r0, e0⟩ : ∃ c r, z.cps.toList = c :: r := by
          cases e : z.cps.toList with
          | nil => exact absurd e q
          | cons c r => exact ⟨c, r, rfl⟩
        have e1 : S.cps.toList.head? = some c0 := by rw [← heq, e0]; rfl
        obtain ⟨t0, e1⟩ : ∃ r, S.cps.toList = c0 :: r := by
          cases e : S.cps.toList with
          | nil => rw [e] at e1; cases e1
          | cons c r => rw [e] at e1; obtain rfl := Option.some.inj e1; exact ⟨r, rfl⟩
        have a0 : atI z.cps.toList (0 : Int) = some c0 := by rw [e0]; exact atI_nat (j := 0) rfl
        have a1 : atI S.cps.toList (0 : Int) = some c0 := by rw [e1]; exact atI_nat (j := 0) rfl
        refine iteF ⟨_, rfl, z, _, _, rfl, rfl, hz', a0, _, rfl, fa, dx, _, rfl, j1, fa, dx, _, _, rfl, j1, fs_signs S rr, S, _, _, rfl, rfl, hS, a1, rfl, _, rfl, ?_⟩
        have d2 : decide (V.str (⟨#[c0]⟩ : Str) = V.str ⟨#[c0]⟩) = true := decide_eq_true rfl
        rw [d2]
        exact iteT ⟨_, rfl, _, rfl, out⟩
end
end My
end
section
set_option Elab.async false
set_option linter.all false
set_option maxRecDepth 100000
set_option maxHeartbeats 4000000
/-! Omul: a text twice: z * 2. -/
namespace My
open PySem PySem.Spec PyProof.Rows L2
theorem op_str2 {X : Cx} : OpR X (binaryOp .Mult) (fun x y H Q => ∃ z : Str, x = .str z ∧ y = .int 2 ∧ 1 ≤ z.length ∧ z.length ≤ 4000 ∧ Q (.str ⟨z.cps ++ z.cps⟩) H) := by
  intro pins s σ H x y v u Q I rx ry h
  obtain ⟨z, rfl, rfl, h1, h2, q⟩ := h
  obtain ⟨t, rfl⟩ := rx
  obtain ⟨t', rfl⟩ := ry
  have e0 : ((2 : Int) == 1 || z.length == 0) = false := by
    have : (z.length == 0) = false := by simp; omega
    rw [this]
    rfl
  refine PySem.P.mul_str (by decide) (fun _ _ => ?_) (fun _ _ => ?_) ?_
  · have : ((2 ^ 63 - 1) / 2 : Int) = 4611686018427387903 := by decide
    omega
  · unfold PySem.Builtin.Str.tooLong
    first
      | (exact decide_eq_false (by show ¬ z.length * 2 > 16777216; omega))
      | (simp; omega)
      | skip
  · rw [if_neg (by decide), e0, if_neg (by decide)]
    have e : (⟨(List.replicate (2 : Int).toNat z.cps).foldl (· ++ ·) #[]⟩ : Str) = ⟨z.cps ++ z.cps⟩ := by
      show (⟨(#[] ++ z.cps) ++ z.cps⟩ : Str) = _
      rw [Array.empty_append]
    rw [e]
    refine ⟨?_, .str ⟨z.cps ++ z.cps⟩, H, I.tok _, ⟨_, rfl⟩, q⟩
    have : (z.cps ++ z.cps).size = z.length + z.length := Array.size_append
    first
      | exact Nat.le_trans (show (z.cps ++ z.cps).size ≤ 8000 by omega) (by decide)
      | skip
end My
end
section
set_option Elab.async false
set_option linter.all false
set_option maxRecDepth 100000
set_option maxHeartbeats 4000000
/-! Yrow: _law_row. -/
namespace My
open PySem PySem.Spec PyProof.Rows L2
abbrev s_lrow : Stmt := topS 37
def sp_lrow (K : PySem.W.Frag) : Sp := fun vs H Q _ => ∃ (t d : Addr) (S : Str) (m : Nat), vs = [.ref t, .int m] ∧ SqT K H t [.str S, .ref d] ∧ 2 ≤ S.length ∧ S.length ≤ 10 ∧ m ≤ 10 ^ 31 ∧ ∀ l, IsRow S m l → Q (.str (mkS l)) H
section
variable {P : Program} {w : World} {K : PySem.W.Frag} {mg : Str → Option Value} {base : Heap}
abbrev NLr : List Str := ["_law_font_here", "_law_number", "_law_found", "_law_left"]
theorem sc_lrow : FnScope NLr ["_law_font_here", "_law_number"] (defScope s_lrow) := ⟨rfl, rfl, rfl, by decide +kernel, rfl, by decide +kernel, by decide +kernel⟩
theorem ok_lrow {f : Addr} {fd : FuncData} (F : Fun K "_law_row" "_law_row" s_lrow f fd) (T : TB mg) : FnOk P w K mg base CX0 1 f fd ["_law_font_here", "_law_number"] (sp_lrow K) := by
  refine F.ok sc_lrow (fun vs H Q E h => ?_) (fun cdv A outer s H vs Q E hr h => ?_)
  · obtain ⟨t, d, S, m, rfl, _⟩ := h
    rfl
  · obtain ⟨t, d, S, m, rfl, ht, S2, S10, hm, k⟩ := h
    have CL := @call_len_str (cxOf CX0 P w K mg base NLr "_law_row" (defScope s_lrow) f cdv A outer s H E).nox
    refine ⟨_, pss_cons (ps_par (i := 2) (j := 3) rfl sc_lrow.nd rfl rfl (by decide) rfl rfl (pa_cons pe_str (pa_cons (pv 1) pa_nil)) (by rfl))
      (pss_cons (ps_while PassesOwn.never (pt_cmpR op_gt (pv 3) pe_int (nomark _))
        (pss_cons (ps_set (i := 2) sc_lrow.nd rfl (Or.inl rfl) (pe_op op_add_str (pe_ix ix_str (pe_ix ix_tup (pv 0) pe_int (fun _ _ => rfl)) (pe_op op_modN (pe_callTy call_int1 (by rfl) T.int (by decide +kernel) (pa_cons (pv 3) pa_nil)) (pe_callB (id := "len") CL (by rfl) T.len PySem.boot_len (pa_cons (pe_ix ix_tup (pv 0) pe_int (fun _ _ => rfl)) pa_nil))) (fun _ _ => rfl)) (pv 2)))
        (pss_one (ps_set (i := 3) sc_lrow.nd rfl (Or.inl rfl) (pe_op op_fdivW (pv 3) (pe_callB (id := "len") CL (by rfl) T.len PySem.boot_len (pa_cons (pe_ix ix_tup (pv 0) pe_int (fun _ _ => rfl)) pa_nil)))))))
      (pss_one (ps_ret (pv 2)))), ?_⟩
    have hz : S.length ≤ sizeLine := Nat.le_trans S10 (by decide)
    refine ⟨_, rfl, _, _, rfl, ?_⟩
    refine while_by (fun σ H' => H' = H ∧ ∃ (i : Nat), σ = [some (.ref t), some (.int m), some (.str (mkS ((low S.length m i).map (sgAt S)))), some (.int ((m / S.length ^ i : Nat) : Int))] ∧ ∀ j < i, S.length ^ j ≤ m)
      (fun σ _ => match σ with | [_, _, _, some (.int p)] => p.toNat | _ => 0)
      ⟨rfl, 0, by show _ = [_, _, some (V.str _), _]; rw [Nat.pow_zero, Nat.div_one]; rfl, fun j hj => by omega⟩ ?_ ?_
    · rintro σ H3 ⟨rfl, i, rfl, hj⟩
      refine ⟨_, rfl, _, _, rfl, rfl, _, rfl, ite2 (fun hc => ?_) (fun hc => ?_)⟩
      · have hpos : 0 < m / S.length ^ i := by
          have := of_decide_eq_true hc
          omega
        have pp : 0 < S.length ^ i := Nat.pow_pos (by omega)
        have hle : S.length ^ i ≤ m := by
          rcases Nat.lt_or_ge m (S.length ^ i) with h | h
          · rw [Nat.div_eq_of_lt h] at hpos; omega
          · exact h
        have i128 : i < 128 := by
          rcases Nat.lt_or_ge i 128 with h | h
          · exact h
          · have := pow_big S2 h
            omega
        have dl : m / S.length ^ i % S.length < S.length := Nat.mod_lt _ (by omega)
        have atS : atI S.cps.toList (((m / S.length ^ i : Nat) : Int).fmod (S.length : Int)) = some (sgAt S (m / S.length ^ i % S.length)) := by
          have e : ((m / S.length ^ i : Nat) : Int).fmod (S.length : Int) = ((m / S.length ^ i % S.length : Nat) : Int) := by
            rw [Int.fmod_eq_emod_of_nonneg _ (by omega)]
            exact (Int.natCast_emod _ _).symm
          rw [e]
          exact atI_nat (sgAt_at dl)
        refine ⟨_, rfl, t, _, _, _, rfl, rfl, ht, at0 _ _, _, rfl, .inl ⟨_, rfl, _, rfl, t, _, _, _, rfl, rfl, ht, at0 _ _, S, rfl, hz, _, _, rfl, rfl, by omega, S, _, _, rfl, rfl, hz, atS, _, rfl, _, _, rfl, rfl, ?_, ?_⟩⟩
        · show 1 + (mkS ((low S.length m i).map (sgAt S))).length ≤ sizeLine
          rw [mkS_len, List.length_map, low_len]
          exact Nat.le_trans (show 1 + i ≤ 1000 by omega) (by decide)
        have eS : (⟨#[sgAt S (m / S.length ^ i % S.length)]⟩ : Str) ++ mkS ((low S.length m i).map (sgAt S)) = mkS ((low S.length m (i + 1)).map (sgAt S)) := by
          show (⟨#[_] ++ (List.map _ _).toArray⟩ : Str) = ⟨(List.map _ (_ :: _)).toArray⟩
          simp
        rw [eS]
        have div : CDivW ((m / S.length ^ i : Nat) : Int) (S.length : Int) := wide_div (by omega) (b := 30) (by omega) (by decide) (by decide)
        refine ⟨_, rfl, _, rfl, t, _, _, _, rfl, rfl, ht, at0 _ _, S, rfl, hz, _, _, rfl, rfl, div, ?_⟩
        have eD : ((m / S.length ^ i : Nat) : Int) / (S.length : Int) = ((m / S.length ^ (i + 1) : Nat) : Int) := by
          rw [← Int.natCast_ediv, Nat.div_div_eq_div_mul, ← Nat.pow_succ]
        dsimp only
        rw [eD]
        refine ⟨⟨rfl, i + 1, rfl, fun j hj' => ?_⟩, ?_⟩
        · rcases Nat.lt_or_ge j i with h | h
          · exact hj j h
          · have : j = i := by omega
            rw [this]
            exact hle
        · show (((m / S.length ^ (i + 1) : Nat) : Int)).toNat < (((m / S.length ^ i : Nat) : Int)).toNat
          rw [Int.toNat_natCast, Int.toNat_natCast, Nat.pow_succ, ← Nat.div_div_eq_div_mul]
          exact Nat.div_lt_self hpos (by omega)
      · have h0 : m / S.length ^ i = 0 := by
          have h9 : ¬ (((m / S.length ^ i : Nat) : Int) > 0) := of_decide_eq_false (Bool.eq_false_iff.mpr hc)
          generalize m / S.length ^ i = q at h9 ⊢
          omega
        have pp : 0 < S.length ^ i := Nat.pow_pos (by omega)
        have hlt : m < S.length ^ i := by
          rcases Nat.lt_or_ge m (S.length ^ i) with h | h
          · exact h
          · have := Nat.div_pos h pp
            omega
        have i128 : i ≤ 128 := by
          rcases Nat.lt_or_ge 128 i with h | h
          · have h1 := hj 128 h
            have := pow_big S2 (Nat.le_refl 128)
            omega
          · exact h
        exact ⟨_, rfl, k _ ⟨i, i128, hj, hlt, rfl⟩⟩
    · intro σ H Q Q' mo h
      obtain ⟨v, e, i, j, e3, e4, b, e5, q⟩ := h
      exact ⟨v, e, i, j, e3, e4, b, e5, mo _ _ q⟩
end
end My
end
section
set_option Elab.async false
set_option linter.all false
set_option maxRecDepth 100000
set_option maxHeartbeats 4000000
/-! Nrowm: rows and the numbers that they write (mathematics); a text four thousand times. -/
namespace My
open PySem PySem.Spec PyProof.Rows L2
theorem row_uniq {S : Str} {m : Nat} {l l' : List Nat} (S2 : 2 ≤ S.length) (h : IsRow S m l) (h' : IsRow S m l') : l = l' := by
  obtain ⟨i, _, a2, a3, rfl⟩ := h.ex
  obtain ⟨j, _, b2, b3, rfl⟩ := h'.ex
  rcases Nat.lt_trichotomy i j with q | q | q
  · have := b2 i q
    omega
  · rw [q]
  · have := a2 j q
    omega
theorem idx_sg {S : Str} (nd : S.cps.toList.Nodup) {d : Nat} (hd : d < S.length) : S.cps.toList.idxOf (sgAt S d) = d := by
  obtain ⟨hi, e⟩ := List.getElem?_eq_some_iff.mp (sgAt_at hd)
  rw [← e]
  exact nd.idxOf_getElem d hi
theorem low_val {S : Str} (nd : S.cps.toList.Nodup) (h0 : 0 < S.length) (m : Nat) : ∀ i a, valR S.length S.cps.toList a ((low S.length m i).map (sgAt S)) = a * S.length ^ i + m % S.length ^ i
  | 0, a => by
    show a = _
    rw [Nat.pow_zero, Nat.mul_one, Nat.mod_one]
    rfl
  | i + 1, a => by
    show valR S.length S.cps.toList (a * S.length + S.cps.toList.idxOf (sgAt S (m / S.length ^ i % S.length))) ((low S.length m i).map (sgAt S)) = _
    rw [idx_sg nd (Nat.mod_lt _ h0), low_val nd h0 m i, Nat.pow_succ, Nat.mod_mul, Nat.add_mul, Nat.mul_assoc, Nat.mul_comm S.length (S.length ^ i)]
    have : m / S.length ^ i % S.length * S.length ^ i = S.length ^ i * (m / S.length ^ i % S.length) := Nat.mul_comm _ _
    omega
theorem row_val {S : Str} {m : Nat} {l : List Nat} (nd : S.cps.toList.Nodup) (S2 : 2 ≤ S.length) (h : IsRow S m l) : valR S.length S.cps.toList 0 l = m := by
  obtain ⟨i, _, _, a3, rfl⟩ := h.ex
  rw [low_val nd (by omega), Nat.zero_mul, Nat.zero_add, Nat.mod_eq_of_lt a3]
theorem head_sg {S : Str} (h : 0 < S.length) : S.cps.toList.head? = some (sgAt S 0) := by
  rw [List.head?_eq_getElem?]
  exact sgAt_at h
theorem sg_inj {S : Str} (nd : S.cps.toList.Nodup) {a b : Nat} (ha : a < S.length) (hb : b < S.length) (h : sgAt S a = sgAt S b) : a = b := by
  rw [← idx_sg nd ha, h, idx_sg nd hb]
theorem row_numer {S : Str} {m : Nat} {l : List Nat} (nd : S.cps.toList.Nodup) (S2 : 2 ≤ S.length) (h1 : 1 ≤ m) (h : IsRow S m l) : numerD S (.str (mkS l)) = true := by
  have mem := h.mem (by omega)
  obtain ⟨i, _, a2, a3, rfl⟩ := h.ex
  obtain ⟨j, rfl⟩ : ∃ j, i = j + 1 := by
    cases i with
    | zero => rw [Nat.pow_zero] at a3; omega
    | succ j => exact ⟨j, rfl⟩
  have le := a2 j (by omega)
  have lt : m / S.length ^ j < S.length := by
    rw [Nat.div_lt_iff_lt_mul (Nat.pow_pos (by omega)), Nat.mul_comm, ← Nat.pow_succ]
    exact a3
  have pos : 0 < m / S.length ^ j := Nat.div_pos le (Nat.pow_pos (by omega))
  show ((mkS ((low S.length m (j + 1)).map (sgAt S))).cps.toList.all (fun c => decide (c ∈ S.cps.toList)) && (decide ((low S.length m (j + 1)).map (sgAt S) ≠ []) && decide (((low S.length m (j + 1)).map (sgAt S)).head? ≠ S.cps.toList.head?))) = true
  have e1 : (mkS ((low S.length m (j + 1)).map (sgAt S))).cps.toList.all (fun c => decide (c ∈ S.cps.toList)) = true := List.all_eq_true.mpr fun c hc => decide_eq_true (mem c hc)
  have e2 : ((low S.length m (j + 1)).map (sgAt S)).head? ≠ S.cps.toList.head? := by
    rw [head_sg (by omega)]
    show some (sgAt S (m / S.length ^ j % S.length)) ≠ some (sgAt S 0)
    rw [Nat.mod_eq_of_lt lt]
    intro e
    have := sg_inj nd lt (by omega) (Option.some.inj e)
    omega
  rw [e1, decide_eq_true e2, decide_eq_true (show (low S.length m (j + 1)).map (sgAt S) ≠ [] from fun e => by cases e)]
  rfl
/-- a text n times -/
def repS (n : Nat) (l : List Nat) : List Nat := (List.replicate n l).flatten
theorem fold_app : ∀ (ls : List (Array Nat)) (a : Array Nat), (ls.foldl (· ++ ·) a).toList = a.toList ++ (ls.map Array.toList).flatten
  | [], a => by simp
  | x :: ls, a => by
    rw [List.foldl_cons, fold_app ls (a ++ x), Array.toList_append, List.map_cons, List.flatten_cons, List.append_assoc]
theorem repS_len (n : Nat) (l : List Nat) : (repS n l).length = n * l.length := by
  unfold repS
  rw [List.length_flatten, List.map_replicate, List.sum_replicate_nat]
theorem op_strN {X : Cx} (n : Nat) (n2 : 2 ≤ n) (n4 : n ≤ 4000) : OpR X (binaryOp .Mult) (fun x y H Q => ∃ z : Str, x = .str z ∧ y = .int ((n : Nat) : Int) ∧ 1 ≤ z.length ∧ z.length ≤ 100 ∧ Q (.str (mkS (repS n z.cps.toList))) H) := by
  intro pins s σ H x y v u Q I rx ry h
  obtain ⟨z, rfl, rfl, h1, h2, q⟩ := h
  obtain ⟨t, rfl⟩ := rx
  obtain ⟨t', rfl⟩ := ry
  have e0 : (((n : Nat) : Int) == 1 || z.length == 0) = false := by
    have a : (z.length == 0) = false := by simp; omega
    have b : (((n : Nat) : Int) == 1) = false := by simp; omega
    rw [a, b]
    rfl
  have big : n * z.length ≤ 400000 := Nat.le_trans (Nat.mul_le_mul n4 h2) (by decide)
  refine PySem.P.mul_str ?_ (fun _ _ => ?_) (fun _ _ => ?_) ?_
  · have a : decide (((n : Nat) : Int) < -(2 ^ 63 : Int)) = false := decide_eq_false (by omega)
    have b : decide (((n : Nat) : Int) ≥ 2 ^ 63) = false := decide_eq_false (by omega)
    rw [a, b]
    rfl
  · have a : (2 ^ 63 - 1 : Int) / ((n : Nat) : Int) ≥ 1000 := by
      refine (Int.le_ediv_iff_mul_le (by omega)).mpr ?_
      omega
    omega
  · unfold PySem.Builtin.Str.tooLong
    exact decide_eq_false (by rw [Int.toNat_natCast, Nat.mul_comm]; show ¬ n * z.length > 16777216; omega)
  · rw [if_neg (by omega), e0, if_neg (by decide), Int.toNat_natCast]
    have el : ((List.replicate n z.cps).foldl (· ++ ·) #[]).toList = repS n z.cps.toList := by
      rw [fold_app, List.map_replicate]
      rfl
    have e : (⟨(List.replicate n z.cps).foldl (· ++ ·) #[]⟩ : Str) = mkS (repS n z.cps.toList) := by
      show (⟨_⟩ : Str) = ⟨(repS n z.cps.toList).toArray⟩
      rw [← el]
    rw [e]
    refine ⟨?_, .str (mkS (repS n z.cps.toList)), H, I.tok _, ⟨_, rfl⟩, q⟩
    show (mkS (repS n z.cps.toList)).length ≤ _
    rw [mkS_len, repS_len]
    have zl : z.cps.toList.length = z.length := Array.length_toList
    rw [zl]
    exact Nat.le_trans big (by decide)
theorem cut_to (z : Str) (k : Nat) : (cutS z none (some ((k : Nat) : Int))).cps.toList = z.cps.toList.take k := by
  show (z.cps.toList.drop (HT.sIx z.length 0 none)).take (HT.sIx z.length z.length (some ((k : Nat) : Int)) - HT.sIx z.length 0 none) = _
  rw [HT.sIx_none, HT.sIx_nat, Nat.sub_zero, List.drop_zero]
  have zl : z.cps.toList.length = z.length := Array.length_toList
  by_cases q : k ≤ z.length
  · rw [Nat.min_eq_left q]
  · rw [Nat.min_eq_right (by omega), ← zl, List.take_length, List.take_of_length_le (by omega)]
end My
end
section
set_option Elab.async false
set_option linter.all false
set_option maxRecDepth 100000
set_option maxHeartbeats 4000000
/-! Y0: heads that a font has, as a dict: mathematics. -/
namespace My
open PySem PySem.Spec PyProof.Rows L2
/-- heads of the signs S: each of them the head of its head -/
structure Hd (S : List Nat) (h : List (Nat × Nat)) : Prop where
  sym : ∀ c b, headOf h c = some b → headOf h b = some c
  inS : ∀ c b, headOf h c = some b → c ∈ S ∧ b ∈ S
theorem due_mem {S : Str} {h : List (Nat × Nat)} {e : Nat × Nat} (he : e ∈ dueOf S h) : e.1 ∈ S.cps.toList ∧ headOf h e.1 = some e.2 ∧ S.cps.toList.idxOf e.1 ≤ S.cps.toList.idxOf e.2 := by
  obtain ⟨h1, h2⟩ := List.mem_filter.mp he
  obtain ⟨c, hc, rfl⟩ := List.mem_map.mp h1
  obtain ⟨h3, h4⟩ := List.mem_filter.mp hc
  obtain ⟨b, hb⟩ := Option.isSome_iff_exists.mp h4
  refine ⟨h3, ?_, of_decide_eq_true h2⟩
  show headOf h c = some ((headOf h c).getD 0)
  rw [hb]
  rfl
theorem due_fst (S : Str) (h : List (Nat × Nat)) : ((dueOf S h).map (·.1)).Sublist S.cps.toList := by
  unfold dueOf
  refine (List.Sublist.map _ List.filter_sublist).trans ?_
  rw [List.map_map]
  have e : ((fun e : Nat × Nat => e.1) ∘ fun c => (c, (headOf h c).getD 0)) = id := rfl
  rw [e, List.map_id]
  exact List.filter_sublist
theorem idx_inj {S : List Nat} {a b : Nat} (ha : a ∈ S) (e : S.idxOf a = S.idxOf b) : a = b := by
  have h1 : S.idxOf a < S.length := List.idxOf_lt_length_iff.mpr ha
  have g1 := List.getElem_idxOf h1
  have h2 : S.idxOf b < S.length := e ▸ h1
  have g2 := List.getElem_idxOf h2
  have g3 : S[S.idxOf a]'h1 = S[S.idxOf b]'h2 := by congr 1
  rw [g1, g2] at g3
  exact g3
theorem due_good {m : Nat} {S : Str} {h : List (Nat × Nat)} (lo : 2 ≤ S.length) (hi : S.length ≤ m) (nd : S.cps.toList.Nodup) (ab : ∀ c ∈ S.cps.toList, c ∈ alphabet.cps.toList) (H : Hd S.cps.toList h) : Good m S (dueOf S h) := by
  refine ⟨lo, hi, nd, ab, ?_, ?_⟩
  · unfold List.Nodup
    rw [List.pairwise_flatMap]
    constructor
    · intro e _
      unfold spread
      split
      · simp
      · rename_i q
        simpa using q
    · have n1 : ((dueOf S h).map (·.1)).Nodup := nd.sublist (due_fst S h)
      have n2 : (dueOf S h).Pairwise (fun a b => a.1 ≠ b.1) := List.pairwise_map.mp n1
      refine List.Pairwise.imp_of_mem ?_ n2
      intro a b ha hb ne x hx y hy exy
      subst exy
      obtain ⟨a1, a2, a3⟩ := due_mem ha
      obtain ⟨b1, b2, b3⟩ := due_mem hb
      rcases mem_spread.mp hx with q1 | q1
      · rcases mem_spread.mp hy with q2 | q2
        · exact ne (q1.symm.trans q2)
        · have e1 : a.1 = b.2 := q1.symm.trans q2
          have s1 := H.sym _ _ b2
          rw [← e1, a2] at s1
          have e2 : a.2 = b.1 := Option.some.inj s1
          rw [e2] at a3
          rw [← e1] at b3
          exact ne (idx_inj a1 (Nat.le_antisymm a3 b3))
      · rcases mem_spread.mp hy with q2 | q2
        · have e1 : b.1 = a.2 := q2.symm.trans q1
          have s1 := H.sym _ _ a2
          rw [← e1, b2] at s1
          have e2 : b.2 = a.1 := Option.some.inj s1
          rw [← e1] at a3
          rw [e2] at b3
          exact ne (idx_inj a1 (Nat.le_antisymm a3 b3))
        · have e1 : a.2 = b.2 := q1.symm.trans q2
          have s1 := H.sym _ _ a2
          have s2 := H.sym _ _ b2
          rw [e1, s2] at s1
          exact ne (Option.some.inj s1).symm
  · intro c hc
    obtain ⟨e, he, hx⟩ := List.mem_flatMap.mp hc
    obtain ⟨a1, a2, _⟩ := due_mem he
    rcases mem_spread.mp hx with q | q
    · exact q ▸ a1
    · exact q ▸ (H.inS _ _ a2).2
theorem hd_nil (S : List Nat) : Hd S [] := ⟨(fun c b e => by cases e), (fun c b e => by cases e)⟩
theorem hd_one {S : List Nat} {h : List (Nat × Nat)} {o : Nat} (H : Hd S h) (ho : o ∈ S) (new : headOf h o = none) : Hd S (putN h o o) := by
  constructor
  · intro c b e
    rw [headOf_putN] at e ⊢
    by_cases q : c = o
    · rw [if_pos q] at e
      obtain rfl := Option.some.inj e
      rw [if_pos rfl, q]
    · rw [if_neg q] at e
      have s := H.sym _ _ e
      by_cases q2 : b = o
      · rw [q2, new] at s
        cases s
      · rw [if_neg q2]
        exact s
  · intro c b e
    rw [headOf_putN] at e
    by_cases q : c = o
    · rw [if_pos q] at e
      obtain rfl := Option.some.inj e
      exact ⟨q ▸ ho, ho⟩
    · rw [if_neg q] at e
      exact H.inS _ _ e
theorem hd_two {S : List Nat} {h : List (Nat × Nat)} {o t : Nat} (H : Hd S h) (ho : o ∈ S) (ht : t ∈ S) (ne : o ≠ t) (n1 : headOf h o = none) (n2 : headOf h t = none) : Hd S (putN (putN h o t) t o) := by
  have at_ : ∀ c, headOf (putN (putN h o t) t o) c = if c = t then some o else if c = o then some t else headOf h c := fun c => by rw [headOf_putN, headOf_putN]
  constructor
  · intro c b e
    rw [at_] at e ⊢
    by_cases q : c = t
    · rw [if_pos q] at e
      obtain rfl := Option.some.inj e
      rw [if_neg ne, if_pos rfl, q]
    · rw [if_neg q] at e
      by_cases q2 : c = o
      · rw [if_pos q2] at e
        obtain rfl := Option.some.inj e
        rw [if_pos rfl, q2]
      · rw [if_neg q2] at e
        have s := H.sym _ _ e
        by_cases q3 : b = t
        · rw [q3, n2] at s
          cases s
        · by_cases q4 : b = o
          · rw [q4, n1] at s
            cases s
          · rw [if_neg q3, if_neg q4]
            exact s
  · intro c b e
    rw [at_] at e
    by_cases q : c = t
    · rw [if_pos q] at e
      obtain rfl := Option.some.inj e
      exact ⟨q ▸ ht, ho⟩
    · rw [if_neg q] at e
      by_cases q2 : c = o
      · rw [if_pos q2] at e
        obtain rfl := Option.some.inj e
        exact ⟨q2 ▸ ho, ht⟩
      · rw [if_neg q2] at e
        exact H.inS _ _ e
theorem due_low {S : Str} {h : List (Nat × Nat)} (ab : ∀ c ∈ S.cps.toList, c < 128) (inS : ∀ c b, headOf h c = some b → b ∈ S.cps.toList) : ∀ e ∈ dueOf S h, e.1 < 128 ∧ e.2 < 128 := fun e he => by
  obtain ⟨h1, h2, _⟩ := due_mem he
  exact ⟨ab _ h1, ab _ (inS _ _ h2)⟩
end My
end
section
set_option Elab.async false
set_option linter.all false
set_option maxRecDepth 100000
set_option maxHeartbeats 4000000
/-! Yfont: _law_font of the second family: signs, heads as a dict. -/
namespace My
open PySem PySem.Spec PyProof.Rows L2
abbrev s_font2 : Stmt := topS 33
structure Font2 (S : Str) (h : List (Nat × Nat)) (lo hi : Nat) : Prop where
  lo : lo ≤ S.length
  hi : S.length ≤ hi
  nd : S.cps.toList.Nodup
  ab : ∀ c ∈ S.cps.toList, c ∈ alphabet.cps.toList
  hd : Hd S.cps.toList h
  hl : h.length ≤ 10
def sp_font2 : Sp := fun vs H Q _ => ∃ (p c : Addr) (lo hi n : Nat), vs = [.ref p, .int lo, .int hi] ∧ PenAt H p c n ∧ n < 2 ^ 50 ∧ 2 ≤ lo ∧ lo ≤ hi ∧ hi ≤ 10 ∧
  ∀ H' t d S hs, DrewP H p c (n + 60) H' → H t = none → H d = none → H' t = some (.tup [.str S, .ref d]) → H' d = some (.dK (toK hs)) → Font2 S hs lo hi → Q (.ref t) H'
section
variable {P : Program} {w : World} {K : PySem.W.Frag} {mg : Str → Option Value} {base : Heap}
abbrev NF2 : List Str := ["_law_pen_here", "_law_fewest", "_law_most", "_law_letters", "_law_signs", "_law_heads", "_law_left", "_law_one", "_law_way", "_law_two"]
theorem sc_font2 : FnScope NF2 ["_law_pen_here", "_law_fewest", "_law_most"] (defScope s_font2) := ⟨rfl, rfl, rfl, by decide +kernel, rfl, by decide +kernel, by decide +kernel⟩
theorem ok_font2 {f fD fS : Addr} {fd fdD fdS : FuncData} (F : Fun K "_law_font" "_law_font" s_font2 f fd) (D : Def K mg "_law_draw" fD fdD ["_law_pen_here", "_law_many"]) (G : FnOk P w K mg base CX0 1 fD fdD ["_law_pen_here", "_law_many"] sp_draw)
    (DS : Def K mg "_law_shuffled" fS fdS ["_law_pen_here", "_law_items"]) (GS : FnOk P w K mg base CX0 2 fS fdS ["_law_pen_here", "_law_items"] (sp_shuf K)) :
    FnOk P w K mg base CX0 3 f fd ["_law_pen_here", "_law_fewest", "_law_most"] sp_font2 := by
  refine F.ok sc_font2 (fun vs H Q E h => ?_) (fun cdv A outer s H vs Q E hr h => ?_)
  · obtain ⟨p, c, lo, hi, n, rfl, _⟩ := h
    rfl
  · obtain ⟨p, c, lo, hi, n, rfl, hP, hn, hlo, hlh, hhi, k⟩ := h
    have hr1 : Room 1 _ := hr.mono (by decide)
    have hu := hu_of hr
    refine ⟨_, pss_cons (ps_set (i := 3) sc_font2.nd rfl (Or.inl rfl) (pe_call GS hr rfl DS.mgf DS.kp DS.bd .nil pass0 (pa_cons (pv 0) (pa_cons pe_str pa_nil))))
      (pss_cons (ps_par (i := 4) (j := 5) rfl sc_font2.nd rfl rfl (by decide) rfl rfl (pa_cons (pe_join pe_str (pe_slice sl_list' (pv 3) po_none (po_some (pe_op op_add (pv 1) (pe_call G hr1 rfl D.mgf D.kp D.bd .nil pass0 (pa_cons (pv 0) (pa_cons (pe_op op_add (pe_op op_sub (pv 2) (pv 1)) pe_int) pa_nil))))))) (pa_cons pe_dnew' pa_nil)) (by rfl))
      (pss_cons (ps_set (i := 6) sc_font2.nd rfl (Or.inl rfl) (pe_call GS hr rfl DS.mgf DS.kp DS.bd .nil pass0 (pa_cons (pv 0) (pa_cons (pv 4) pa_nil))))
      (pss_cons (ps_while PassesOwn.never (pt_cmpR (op_neNil hr.units0) (pv 6) (pe_lst' pa_nil) (nomark _))
        (pss_cons (ps_par (i := 7) (j := 8) rfl sc_font2.nd rfl rfl (by decide) rfl rfl (pa_cons (pe_bm0 PySem.F.plainAttrs_list PySem.F.slot_list_pop PySem.F.type_list_pop mt_pop' (pv 6)) (pa_cons (pe_call G hr1 rfl D.mgf D.kp D.bd .nil pass0 (pa_cons (pv 0) (pa_cons pe_int pa_nil))) pa_nil)) (by rfl))
        (pss_cons (ps_if (pt_cmpR op_eq (pv 8) pe_int (nomark _)) (pss_one (ps_dput hu (pv 5) (pv 7) (pv 7) rfl)) pss_nil)
        (pss_one (ps_if (PW.pt (pw_and (pt_cmpR op_eq (pv 8) pe_int (nomark _)) (pw_and1 (pt_cmpR (op_neNil hr.units0) (pv 6) (pe_lst' pa_nil) (nomark _)))))
          (pss_cons (ps_set (i := 9) sc_font2.nd rfl (Or.inl rfl) (pe_bm0 PySem.F.plainAttrs_list PySem.F.slot_list_pop PySem.F.type_list_pop mt_pop' (pv 6)))
          (pss_cons (ps_dput hu (pv 5) (pv 7) (pv 9) rfl)
          (pss_one (ps_dput hu (pv 5) (pv 9) (pv 7) rfl)))) pss_nil)))))
      (pss_one (ps_ret (pe_tup' (pa_cons (pv 4) (pa_cons (pv 5) pa_nil)))))))), ?_⟩
    have zE : ∃ z : Str, z = ("0123456789abcdefghijklmnopqrstuvwxyz" : Str) ∧ z.length = 36 ∧ z.cps.toList.Nodup ∧ ∀ c ∈ z.cps.toList, c ∈ alphabet.cps.toList := ⟨_, rfl, by decide, by decide +kernel, by decide +kernel⟩
    obtain ⟨z, ez, z36, znd, zab⟩ := zE
    have sl36 : (signs z).length = 36 := by rw [signs_len, z36]
    refine ⟨_, rfl, p, c, _, _, n, rfl, hP, ?_, SqA.str ?_, ?_, fun H1 r1 ys1 d1 f1 h1 hp1 => ?_⟩
    · rw [signs_len]; show n + 36 < 2 ^ 60; omega
    · decide
    · rw [signs_len]; decide
    rw [← ez] at d1 hp1
    obtain ⟨l1, rfl, hl1⟩ := perm_signs hp1
    have len1 : l1.length = 36 := by
      rw [hl1.length_eq]
      have : z.cps.toList.length = z.length := Array.length_toList
      omega
    rw [sl36] at d1
    refine ⟨⟨_, rfl⟩, _, rfl, _, rfl, _, rfl, _, rfl, _, rfl, _, _, rfl, rfl, _, _, rfl, rfl, p, c, _, n + 36, rfl, d1.pen, by omega, by omega, by omega, fun H2 r d2 r0 r2 => ?_⟩
    obtain ⟨j, rfl⟩ : ∃ j : Nat, r = j := ⟨_, (Int.toNat_of_nonneg r0).symm⟩
    have r1p : r1 ≠ p := fun e => hP.ne f1 e.symm
    have i1 := d2.but _ _ r1p h1
    have hkm : lo + j ≤ hi := by omega
    refine ⟨_, _, rfl, rfl, _, rfl, r1, _, rfl, SqL.of i1, fun q5 H5 n5 => ?_⟩
    have cut5 : cutV (l1.map sg) none (some ((lo : Int) + (j : Int))) = ((l1.take (lo + j)).map fun c => (⟨#[c]⟩ : Str)).map V.str := by
      rw [show ((lo : Int) + (j : Int)) = ((lo + j : Nat) : Int) by omega, cutV_to, List.map_map, ← List.map_take]
      rfl
    have n5' : New H2 q5 (.lst (((l1.take (lo + j)).map fun c => (⟨#[c]⟩ : Str)).map V.str)) H5 := by
      rw [← cut5]
      exact n5
    have hjl : (l1.take (lo + j)).length = lo + j := by
      rw [List.length_take]
      omega
    refine ⟨_, q5, _, rfl, rfl, .inl (SqL.of n5'.here), ?_, ?_⟩
    · rw [sum_ones, hjl]
      have : (PySem.Str.ofString "").length = 0 := by decide
      rw [this]
      omega
    have jE : Txt.join (PySem.Str.ofString "") ((l1.take (lo + j)).map fun c => (⟨#[c]⟩ : Str)) = ⟨(l1.take (lo + j)).toArray⟩ := by
      rw [TL.join_eq]
      exact join_signs _
    rw [jE]
    have good : ∃ S : Str, S = ⟨(l1.take (lo + j)).toArray⟩ ∧ lo ≤ S.length ∧ S.length ≤ hi ∧ S.cps.toList.Nodup ∧ ∀ c ∈ S.cps.toList, c ∈ alphabet.cps.toList := by
      refine ⟨_, rfl, ?_, ?_, ?_, ?_⟩
      · show lo ≤ (l1.take (lo + j)).toArray.size
        rw [List.size_toArray, hjl]
        omega
      · show (l1.take (lo + j)).toArray.size ≤ hi
        rw [List.size_toArray, hjl]
        exact hkm
      · show (l1.take (lo + j)).Nodup
        exact (hl1.nodup_iff.mpr znd).sublist (List.take_sublist _ _)
      · intro c hc
        have hc : c ∈ l1.take (lo + j) := hc
        exact zab c (hl1.mem_iff.mp (List.mem_of_mem_take hc))
    obtain ⟨S, eS, S2, Sm, Snd, Sab⟩ := good
    rw [← eS]
    have d5 : DrewP H p c (n + 37) H5 := ((d1.trans d2).new n5).mono (by omega)
    have lS : (signs S).length = S.length := signs_len S
    refine fun b H6 n6 => ⟨_, _, rfl, ?_⟩
    have d6 : DrewP H p c (n + 37) H6 := d5.new n6
    refine ⟨_, rfl, _, rfl, p, c, .str S, _, n + 37, rfl, d6.pen, by rw [lS]; omega, SqA.str (Nat.le_trans Sm (Nat.le_trans hhi (by decide))), by rw [lS]; omega, fun H7 a ys7 d7 f7 h7 hp7 => ?_⟩
    obtain ⟨l7, rfl, hl7⟩ := perm_signs hp7
    have Sl : S.cps.toList.length = S.length := Array.length_toList
    have dC : DrewP H p c (n + 47) H7 := (d6.trans d7).mono (by rw [lS]; omega)
    have len7 : l7.length = S.length := by rw [hl7.length_eq, Sl]
    have hpa : p ≠ a := d6.pen.ne f7
    have hca : c ≠ a := d6.pen.neC f7
    have hpb : p ≠ b := d5.pen.ne n6.free
    have hcb : c ≠ b := d5.pen.neC n6.free
    have hb7 : H7 b = some (.dK (toK [])) := d7.but _ _ hpb.symm n6.here
    have hab : a ≠ b := ne_of h7 hb7 (by intro z; cases z)
    have ha0 : H a = none := d6.but.free hpa.symm f7
    have hb0 : H b = none := d5.but.free hpb.symm n6.free
    refine while_by (fun σ H' => ∃ (l : List Nat) (hs : List (Nat × Nat)) (w1 w2 w3 : Option V) (cnt : Nat), σ = [some (.ref p), some (.int lo), some (.int hi), some (.ref r1), some (.str S), some (.ref b), some (.ref a), w1, w2, w3] ∧
        H' a = some (.lst (l.map sg)) ∧ H' b = some (.dK (toK hs)) ∧ But p H H' ∧ PenAt H' p c cnt ∧ cnt + l.length ≤ n + 57 ∧ hs.length + l.length ≤ 10 ∧ Hd S.cps.toList hs ∧ l.Nodup ∧ (∀ c ∈ l, c ∈ S.cps.toList) ∧ ∀ c ∈ l, headOf hs c = none)
      (fun _ H' => match H' a with | some (.lst l) => l.length | _ => 0)
      ⟨l7, [], none, none, none, n + 47, rfl, h7, hb7, dC.but, dC.pen, by omega, by show 0 + l7.length ≤ 10; omega, hd_nil _, hl7.nodup_iff.mpr Snd, fun c hc => hl7.mem_iff.mp hc, fun c _ => rfl⟩ ?_ ?_
    · rintro σ H3 ⟨l, hs, w1, w2, w3, cnt, rfl, ha, hb, hB, hPen, hcnt, hlp, hHd, hnd, hin, hnew⟩
      refine ⟨_, rfl, by decide, fun q H4 n4 => ⟨a, q, _, rfl, rfl, SqL.of (n4.same _ _ ha), n4.here, _, rfl, ?_⟩⟩
      have ha4 := n4.same _ _ ha
      have hb4 := n4.same _ _ hb
      have hP4 := hPen.same n4.same
      have hB4 : But p H H4 := hB.trans (.of n4.same)
      refine ite2 (fun ht => ?_) (fun hf => ?_)
      · have lne : l ≠ [] := by
          intro e
          rw [e] at ht
          simp at ht
        obtain ⟨l', o, rfl⟩ : ∃ l' o, l = l' ++ [o] := ⟨l.dropLast, l.getLast lne, (List.dropLast_concat_getLast lne).symm⟩
        have hmap : (l' ++ [o]).map sg = l'.map sg ++ [sg o] := by simp
        rw [hmap] at ha4
        refine ⟨_, rfl, .inl ⟨rfl, _, SqL.of ha4⟩, a, _, sg o, rfl, rfl, ha4, by simp, fun H5 w5 => ⟨_, rfl, p, c, 4, cnt, rfl, hP4.els w5 hpa hca, by omega, by decide, by decide, fun H8 r d8 g0 g1 => ⟨_, _, rfl, ?_⟩⟩⟩
        rw [List.dropLast_concat] at w5
        rw [List.length_append, List.length_singleton] at hcnt hlp
        have hb5 : H5 b = some (.dK (toK hs)) := (w5.els b hab.symm).trans hb4
        have ha8 : H8 a = some (.lst (l'.map sg)) := d8.but _ _ hpa.symm w5.here
        have hb8 : H8 b = some (.dK (toK hs)) := d8.but _ _ hpb.symm hb5
        have hB8 : But p H H8 := (But.wr hB4 ha0 w5).trans d8.but
        have less : l'.length < (l' ++ [o]).length := by simp
        have oS : o ∈ S.cps.toList := hin o (by simp)
        have oN : headOf hs o = none := hnew o (by simp)
        have nd' : l'.Nodup := hnd.sublist (List.sublist_append_left _ _)
        have ol : o ∉ l' := fun z => by
          have := (List.nodup_append.mp hnd).2.2 o z o (by simp)
          exact this rfl
        have dec : ∀ H9 : Hp, H9 a = some (.lst (l'.map sg)) → (match H9 a with | some (.lst l) => l.length | _ => 0) < (match H3 a with | some (.lst l) => l.length | _ => 0) := fun H9 e => by
          rw [e, ha]
          simp
        have big : ∀ m : Nat, m ≤ 100 → m < sizeLine := fun m hm => Nat.lt_of_le_of_lt hm (by decide)
        have hr4 : r = 0 ∨ r = 1 ∨ r = 2 ∨ r = 3 := by omega
        rcases hr4 with rfl | rfl | rfl | rfl
        · refine ⟨_, rfl, rfl, _, rfl, ?_⟩
          refine iteT ?_
          refine ⟨_, rfl, _, rfl, _, rfl, b, _, rfl, dput_toK o o hb8 (big _ (by omega)), ?_⟩
          have w9 : Wr H8 b (.dK (toK (putN hs o o))) (upd H8 b (.dK (toK (putN hs o o)))) := .mk'
          generalize upd H8 b (HO.dK (toK (putN hs o o))) = H9 at w9 ⊢
          refine ⟨_, rfl, rfl, _, rfl, ?_⟩
          refine iteF (iteF ?_)
          have pl := putN_length hs o o
          have ha9 : H9 a = some (.lst (l'.map sg)) := (w9.els a hab).trans ha8
          refine ⟨⟨l', putN hs o o, _, _, _, cnt + 1, rfl, ha9, w9.here, But.wr hB8 hb0 w9, d8.pen.els w9 hpb hcb, by omega, by omega, hd_one hHd oS oN, nd', fun c hc => hin c (List.mem_append_left _ hc), fun c hc => ?_⟩, dec H9 ha9⟩
          rw [headOf_putN, if_neg (fun z : c = o => ol (z ▸ hc))]
          exact hnew c (List.mem_append_left _ hc)
        · refine ⟨_, rfl, rfl, _, rfl, ?_⟩
          refine iteF ⟨_, rfl, rfl, _, rfl, ?_⟩
          refine iteT ⟨_, rfl, by decide, fun q2 H9 n9 => ⟨a, q2, _, rfl, rfl, SqL.of (n9.same _ _ ha8), n9.here, _, rfl, ?_⟩⟩
          have ha9 := n9.same _ _ ha8
          have hb9 := n9.same _ _ hb8
          refine ite2 (fun ht2 => ?_) (fun hf2 => ?_)
          · have lne2 : l' ≠ [] := by
              intro e
              rw [e] at ht2
              simp at ht2
            obtain ⟨k', o2, rfl⟩ : ∃ k' o2, l' = k' ++ [o2] := ⟨l'.dropLast, l'.getLast lne2, (List.dropLast_concat_getLast lne2).symm⟩
            have hmap2 : (k' ++ [o2]).map sg = k'.map sg ++ [sg o2] := by simp
            rw [hmap2] at ha9
            refine ⟨_, rfl, .inl ⟨rfl, _, SqL.of ha9⟩, a, _, sg o2, rfl, rfl, ha9, by simp, fun H10 w10 => ?_⟩
            rw [List.dropLast_concat] at w10
            have hb10 : H10 b = some (.dK (toK hs)) := (w10.els b hab.symm).trans hb9
            have o2S : o2 ∈ S.cps.toList := hin o2 (by simp)
            have o2N : headOf hs o2 = none := hnew o2 (by simp)
            have ne : o ≠ o2 := fun z => ol (by rw [z]; simp)
            have pl1 := putN_length hs o o2
            have pl2 := putN_length (putN hs o o2) o2 o
            rw [List.length_append, List.length_singleton] at hcnt hlp
            refine ⟨_, rfl, _, rfl, _, rfl, b, _, rfl, dput_toK o o2 hb10 (big _ (by omega)), ?_⟩
            have w11 : Wr H10 b (.dK (toK (putN hs o o2))) (upd H10 b (.dK (toK (putN hs o o2)))) := .mk'
            generalize upd H10 b (HO.dK (toK (putN hs o o2))) = H11 at w11 ⊢
            refine ⟨_, rfl, _, rfl, _, rfl, b, _, rfl, dput_toK o2 o w11.here (big _ (by omega)), ?_⟩
            have w12 : Wr H11 b (.dK (toK (putN (putN hs o o2) o2 o))) (upd H11 b (.dK (toK (putN (putN hs o o2) o2 o)))) := .mk'
            generalize upd H11 b (HO.dK (toK (putN (putN hs o o2) o2 o))) = H12 at w12 ⊢
            have ha12 : H12 a = some (.lst (k'.map sg)) := (w12.els a hab).trans ((w11.els a hab).trans w10.here)
            have ndk : k'.Nodup := nd'.sublist (List.sublist_append_left _ _)
            have o2k : o2 ∉ k' := fun z => by
              have := (List.nodup_append.mp nd').2.2 o2 z o2 (by simp)
              exact this rfl
            refine ⟨⟨k', putN (putN hs o o2) o2 o, _, _, _, cnt + 1, rfl, ha12, w12.here, But.wr (But.wr (But.wr (hB8.trans (.of n9.same)) ha0 w10) hb0 w11) hb0 w12, (((d8.pen.same n9.same).els w10 hpa hca).els w11 hpb hcb).els w12 hpb hcb, by omega, by omega, hd_two hHd oS o2S ne oN o2N, ndk, fun c hc => hin c (List.mem_append_left _ (List.mem_append_left _ hc)), fun c hc => ?_⟩, ?_⟩
            · rw [headOf_putN, headOf_putN, if_neg (fun z : c = o2 => o2k (z ▸ hc)), if_neg (fun z : c = o => ol (z ▸ List.mem_append_left _ hc))]
              exact hnew c (List.mem_append_left _ (List.mem_append_left _ hc))
            · rw [ha12, ha]
              simp
          · exact ⟨⟨l', hs, _, _, _, cnt + 1, rfl, ha9, hb9, hB8.trans (.of n9.same), d8.pen.same n9.same, by omega, by omega, hHd, nd', fun c hc => hin c (List.mem_append_left _ hc), fun c hc => hnew c (List.mem_append_left _ hc)⟩, dec H9 ha9⟩
        · refine ⟨_, rfl, rfl, _, rfl, ?_⟩
          refine iteF ⟨_, rfl, rfl, _, rfl, ?_⟩
          refine iteF (iteF ?_)
          exact ⟨⟨l', hs, _, _, _, cnt + 1, rfl, ha8, hb8, hB8, d8.pen, by omega, by omega, hHd, nd', fun c hc => hin c (List.mem_append_left _ hc), fun c hc => hnew c (List.mem_append_left _ hc)⟩, dec H8 ha8⟩
        · refine ⟨_, rfl, rfl, _, rfl, ?_⟩
          refine iteF ⟨_, rfl, rfl, _, rfl, ?_⟩
          refine iteF (iteF ?_)
          exact ⟨⟨l', hs, _, _, _, cnt + 1, rfl, ha8, hb8, hB8, d8.pen, by omega, by omega, hHd, nd', fun c hc => hin c (List.mem_append_left _ hc), fun c hc => hnew c (List.mem_append_left _ hc)⟩, dec H8 ha8⟩
      · have lnil : l = [] := by
          cases l with
          | nil => rfl
          | cons _ _ => simp at hf
        subst lnil
        refine ⟨_, rfl, _, rfl, by show 2 ≤ sizeLine; decide, fun t H9 n9 => k H9 t b S hs ⟨hB4.trans (.of n9.same), (hP4.same n9.same).mono (by rw [List.length_nil] at hcnt; omega)⟩ ?_ hb0 n9.here (n9.same _ _ hb4) ⟨S2, Sm, Snd, Sab, hHd, by rw [List.length_nil] at hlp; omega⟩⟩
        exact hB4.free (fun e => by rw [e] at n9; exact hP4.ne n9.free rfl) n9.free
    · intro σ H Q Q' m h
      obtain ⟨v, e, h0, h⟩ := h
      refine ⟨v, e, h0, fun q H' n => ?_⟩
      obtain ⟨a, b, xs, e1, e2, h1, h2, k, e3, h3⟩ := h q H' n
      exact ⟨a, b, xs, e1, e2, h1, h2, k, e3, m _ _ h3⟩
end
end My
end
section
set_option Elab.async false
set_option linter.all false
set_option maxRecDepth 100000
set_option maxHeartbeats 4000000
/-! B14: comprehensions whose elements draw. -/
namespace My
open PySem PySem.Spec PyProof.Rows L2
theorem sgn_at {S : Str} {j c : Nat} {x : V} (hx : (signs S)[j]? = some x) (hc : S.cps.toList[j]? = some c) : x = sg c := by
  unfold signs at hx
  rw [List.getElem?_map, hc] at hx
  exact (Option.some.inj hx).symm
theorem signs_z (S : Str) : S.cps.toList.length = (signs S).length := by rw [signs_len]; exact Array.length_toList
theorem all_sg {A : List Nat} : ∀ {ys : List V}, (∀ y ∈ ys, ∃ x, x ∈ A ∧ y = sg x) → ∃ l : List Nat, ys = l.map sg ∧ ∀ x ∈ l, x ∈ A
  | [], _ => ⟨[], rfl, fun _ h => by cases h⟩
  | y :: ys, h => by
    obtain ⟨l, e, m⟩ := all_sg (ys := ys) fun z hz => h z (List.mem_cons_of_mem _ hz)
    obtain ⟨x, hx, rfl⟩ := h y List.mem_cons_self
    exact ⟨x :: l, by rw [e]; rfl, fun z hz => (List.mem_cons.mp hz).elim (fun q => q ▸ hx) (m z)⟩
theorem toC_pen {c : Addr} {u l : Int} {cs : List (Nat × Int)} : penK c u l ≠ toC cs := fun h => by
  have h2 := congrArg (fun l : List (Key × V) => (l[0]?).map (·.2)) h
  unfold toC at h2
  rw [List.getElem?_map] at h2
  cases e : cs[0]? with
  | none => rw [e] at h2; cases h2
  | some x =>
    rw [e] at h2
    have h2 : some (V.ref c) = some (V.int x.2) := h2
    cases Option.some.inj h2
theorem PenAt.neC2 {H : Hp} {p c d : Addr} {n : Nat} {cs : List (Nat × Int)} (hP : PenAt H p c n) (h : H d = some (.dK (toC cs))) : d ≠ p := fun e => by
  obtain ⟨_, u, z, hp, _⟩ := hP
  rw [e, hp] at h
  have := Option.some.inj h
  injection this with this
  exact toC_pen this
/-- a comprehension whose elements draw, m draws each; what is known of an element stays where neither the pen nor the new list is changed -/
theorem lc_drawn {J : It} {n : Nat} {G : Hp → Prop} {Z : Nat → V → Prop} (w : Walk J n G (fun i H x H' => H' = H ∧ Z i x)) {p c D : Addr} {n0 m : Nat} {i : Nat} {te : TE} {vs : List Nat} {σ : L2.St} {H1 : Hp} {Qd : Hp → Prop} (R : Nat → V → Hp → Prop)
    (mono : ∀ j y H H', (∀ b o, b ≠ p → b ≠ D → H b = some o → H' b = some o) → R j y H → R j y H') (hP : PenAt H1 p c n0) (free : H1 D = none) (small : n < sizeLine) (hw : ∀ x, wipe ((wipe σ vs).set i (some x)) vs = wipe σ vs) (hG : ∀ H', But p H1 H' → G H')
    (he : ∀ (j : Nat) (x : V) (H' : Hp) (C : VK), j < n → But p H1 H' → PenAt H' p c (n0 + m * j) → H' D ≠ none → Z j x → (∀ H2 y, DrewP H' p c (n0 + m * (j + 1)) H2 → R j y H2 → C y H2) → te ((wipe σ vs).set i (some x)) H' C)
    (hd : ∀ H' ys, But p H1 H' → PenAt H' p c (n0 + m * n) → H' D = some (.lst ys) → ys.length = n → (∀ j y, ys[j]? = some y → R j y H') → Qd H') :
    ∃ W : Nat → Nat → Hp → Prop, (∃ m, W 0 m (upd H1 D (.lst []))) ∧ ∀ j m H, W j m H →
      (J.stop j H ∧ Qd H) ∨ (J.go j H ∧ ∃ Nx : Hp → Prop, (∀ H', Nx H' → ∃ m', m' < m ∧ W (j + 1) m' H') ∧ ∀ x H', J.yld j H x H' → gName i x (wipe σ vs) H' fun σ2 H2 => wipe σ2 vs = wipe σ vs ∧ tYes σ2 H2 fun b H3 =>
        if b = true then te σ2 H3 fun y H4 => ∃ acc, H4 D = some (.lst acc) ∧ acc.length < sizeLine ∧ Nx (upd H4 D (.lst (acc ++ [y]))) else Nx H3) := by
  have pD : p ≠ D := hP.ne free
  have cD : c ≠ D := hP.neC free
  refine lc_it w (fun j H' => But p H1 H' ∧ PenAt H' p c (n0 + m * j) ∧ ∃ ys, H' D = some (.lst ys) ∧ ys.length = j ∧ ∀ k y, ys[k]? = some y → R k y H')
    ⟨But.wr (But.refl H1) free .mk', (hP.mono (by omega)).els .mk' pD cD, [], upd_same, rfl, fun k y h => by simp at h⟩ (fun j H' _ q => hG H' q.1) ?_ ?_
  · rintro j x H2 H3 hj ⟨hB, hPj, ys, hD, hl, hR⟩ ⟨rfl, hz⟩
    refine ⟨hw _, ?_⟩
    unfold tYes
    refine iteT (he j x _ _ hj hB hPj (by rw [hD]; exact fun z => by cases z) hz fun H4 y d4 hy => ?_)
    have hD4 : H4 D = some (.lst ys) := d4.but _ _ pD.symm hD
    have w5 : Wr H4 D (.lst (ys ++ [y])) (upd H4 D (.lst (ys ++ [y]))) := .mk'
    have keep : ∀ b o, b ≠ p → b ≠ D → H3 b = some o → (upd H4 D (.lst (ys ++ [y]))) b = some o := fun b o h1 h2 e => (w5.els b h2).trans (d4.but b o h1 e)
    have keep4 : ∀ b o, b ≠ p → b ≠ D → H4 b = some o → (upd H4 D (.lst (ys ++ [y]))) b = some o := fun b o h1 h2 e => (w5.els b h2).trans e
    refine ⟨ys, hD4, by omega, But.wr (hB.trans d4.but) free w5, d4.pen.els w5 pD cD, ys ++ [y], upd_same, by simp [hl], fun k z hk => ?_⟩
    by_cases hkj : k < ys.length
    · rw [List.getElem?_append_left hkj] at hk
      exact mono _ _ _ _ keep (hR k z hk)
    · rw [List.getElem?_append_right (by omega)] at hk
      have e0 : k - ys.length = 0 := by
        cases q : k - ys.length with
        | zero => rfl
        | succ q' => rw [q] at hk; simp at hk
      rw [e0] at hk
      have hk : y = z := by simpa using hk
      subst hk
      have : k = j := by omega
      subst this
      exact mono _ _ _ _ keep4 hy
  · rintro H' ⟨hB, hPn, ys, hD, hl, hR⟩
    exact hd H' ys hB hPn hD hl hR
end My
end
section
set_option Elab.async false
set_option linter.all false
set_option maxRecDepth 100000
set_option maxHeartbeats 4000000
/-! Yturns: _law_turns and _law_made_font of the second family. -/
namespace My
open PySem PySem.Spec PyProof.Rows L2
abbrev s_turns2 : Stmt := topS 34
abbrev s_made2 : Stmt := topS 35
/-- each turn as it is due, or the other way round -/
abbrev Flips (ps qs : List (Nat × Nat)) : Prop := Paired (fun e e' => e' = e ∨ e' = (e.2, e.1)) ps qs
def sp_turns2 (K : PySem.W.Frag) : Sp := fun vs H Q _ => ∃ (p c t d n : Nat) (S : Str) (hs : List (Nat × Nat)), vs = [.ref p, .ref t] ∧ PenAt H p c n ∧ n < 2 ^ 50 ∧ H t = some (.tup [.str S, .ref d]) ∧ H d = some (.dK (toK hs)) ∧ Font2 S hs 2 10 ∧
  ∀ H' r ys qs, DrewP H p c (n + 20) H' → H r = none → H' r = some (.lst ys) → PairsAt H' qs ys → SameTurns (dueOf S hs) qs → qs.length ≤ 10 → Q (.ref r) H'
section
variable {P : Program} {w : World} {K : PySem.W.Frag} {mg : Str → Option Value} {base : Heap}
abbrev NT2 : List Str := ["_law_pen_here", "_law_font_here", "_law_signs", "_law_heads", "_law_turns_here", "_law_one"]
theorem sc_turns2 : FnScope NT2 ["_law_pen_here", "_law_font_here"] (defScope s_turns2) := ⟨rfl, rfl, rfl, by decide +kernel, rfl, by decide +kernel, by decide +kernel⟩
theorem due_take {S : Str} (nd : S.cps.toList.Nodup) (h : List (Nat × Nat)) (i : Nat) (c : Nat) (hc : S.cps.toList[i]? = some c) :
    ∃ q : Bool, (q = true ↔ ∃ b, headOf h c = some b ∧ S.cps.toList.idxOf c ≤ S.cps.toList.idxOf b) := ⟨decide (∃ b, headOf h c = some b ∧ S.cps.toList.idxOf c ≤ S.cps.toList.idxOf b), by simp⟩
/-- the turns that the first signs are due -/
def dueL (S : Str) (h : List (Nat × Nat)) (l : List Nat) : List (Nat × Nat) :=
  ((l.filter fun c => (headOf h c).isSome).map fun c => (c, (headOf h c).getD 0)).filter fun e => decide (S.cps.toList.idxOf e.1 ≤ S.cps.toList.idxOf e.2)
theorem dueL_all (S : Str) (h : List (Nat × Nat)) : dueL S h S.cps.toList = dueOf S h := rfl
theorem dueL_snoc (S : Str) (h : List (Nat × Nat)) (l : List Nat) (c : Nat) : dueL S h (l ++ [c]) = dueL S h l ++ dueL S h [c] := by
  unfold dueL
  rw [List.filter_append, List.map_append, List.filter_append]
theorem dueL_no {S : Str} {h : List (Nat × Nat)} {c : Nat} (e : headOf h c = none) : dueL S h [c] = [] := by
  simp [dueL, e]
theorem dueL_yes {S : Str} {h : List (Nat × Nat)} {c b : Nat} (e : headOf h c = some b) : dueL S h [c] = if S.cps.toList.idxOf c ≤ S.cps.toList.idxOf b then [(c, b)] else [] := by
  simp only [dueL, List.filter_cons, List.filter_nil, e, Option.isSome_some, if_true, List.map_cons, List.map_nil, Option.getD_some, decide_eq_true_eq]
theorem ok_turns2 {f fP fS : Addr} {fd fdP fdS : FuncData} (F : Fun K "_law_turns" "_law_turns" s_turns2 f fd)
    (DP : Def K mg "_law_pick" fP fdP ["_law_pen_here", "_law_some"]) (GP : FnOk P w K mg base CX0 2 fP fdP ["_law_pen_here", "_law_some"] (sp_pick K))
    (DS : Def K mg "_law_shuffled" fS fdS ["_law_pen_here", "_law_items"]) (GS : FnOk P w K mg base CX0 2 fS fdS ["_law_pen_here", "_law_items"] (sp_shuf K)) :
    FnOk P w K mg base CX0 3 f fd ["_law_pen_here", "_law_font_here"] (sp_turns2 K) := by
  refine F.ok sc_turns2 (fun vs H Q E h => ?_) (fun cdv A outer s H vs Q E hr h => ?_)
  · obtain ⟨p, c, t, d, n, S, hs, rfl, _⟩ := h
    rfl
  · obtain ⟨p, c, t, d, n, S, hs, rfl, hP, hn, ht, hd, hF, k⟩ := h
    have hu := hu_of hr
    have mtI := mt_indexX (X := (cxOf CX0 P w K mg base NT2 "_law_turns" (defScope s_turns2) f cdv A outer s H E).nox) (W := fun _ _ _ _ => False) (by rfl) LamX.takes0
    refine ⟨_, pss_cons (ps_asg (pv 1) (pg_tup rfl (pgs_cons (pg_name (i := 2) sc_turns2.nd rfl (Or.inl rfl)) (pgs_cons (pg_name (i := 3) sc_turns2.nd rfl (Or.inl rfl)) pgs_nil))))
      (pss_cons (ps_set (i := 4) sc_turns2.nd rfl (Or.inl rfl) (pe_lst' pa_nil))
      (pss_cons (ps_for PassesOwn.never rfl (pi_str (pv 2)) (pg_name (i := 5) sc_turns2.nd rfl (Or.inl rfl))
        (pss_one (ps_if (PW.pt (pw_and (pt_cmp (pc_din hu (pv 5) (pv 3))) (pw_and1 (pt_cmpR op_le (pe_bmSK (K := K) (by rfl) PySem.F.plainAttrs_str PySem.F.slot_str_index PySem.F.type_str_index mtI (pv 2) (pa_cons (pv 5) pa_nil))
            (pe_bmSK (K := K) (by rfl) PySem.F.plainAttrs_str PySem.F.slot_str_index PySem.F.type_str_index mtI (pv 2) (pa_cons (pe_dget hu (pv 3) (pv 5) (fun _ _ => rfl)) pa_nil)) (nomark _)))))
          (pss_one (ps_expr (pe_bm PySem.F.plainAttrs_list PySem.F.slot_list_append PySem.F.type_list_append mt_append' (pv 4) (pa_cons (pe_call GP (hr.mono (by decide)) rfl DP.mgf DP.kp DP.bd .nil pass0 (pa_cons (pv 0) (pa_cons
            (pe_lst' (pa_cons (pe_tup' (pa_cons (pv 5) (pa_cons (pe_dget hu (pv 3) (pv 5) (fun _ _ => rfl)) pa_nil))) (pa_cons (pe_tup' (pa_cons (pe_dget hu (pv 3) (pv 5) (fun _ _ => rfl)) (pa_cons (pv 5) pa_nil))) pa_nil))) pa_nil))) pa_nil)))) pss_nil)))
      (pss_one (ps_ret (pe_call GS (hr.mono (by decide)) rfl DS.mgf DS.kp DS.bd .nil pass0 (pa_cons (pv 0) (pa_cons (pv 4) pa_nil))))))), ?_⟩
    refine ⟨_, rfl, t, _, rfl, SqT.of ht, rfl, _, _, rfl, _, _, rfl, rfl, by decide, fun b H1 n1 => ⟨_, rfl, S, rfl, ?_⟩⟩
    have Sl : S.cps.toList.length = S.length := Array.length_toList
    have hb0 := n1.free
    have hpb := hP.ne hb0
    have hcb := hP.neC hb0
    have htp := hP.neT ht
    have hdp : d ≠ p := fun e => by
      obtain ⟨cs, u, l, h1, _⟩ := hP
      rw [e, h1] at hd
      have := congrArg (fun o => match o with | some (HO.dK l) => l.length | _ => 0) hd
      have e2 : penK c u l = toK hs := by
        injection hd with z
        injection z with z
      exact absurd (congrArg (fun l : List (Key × V) => l.head?) e2) (by
        cases hs with
        | nil => simp [toK]
        | cons e r =>
          intro z
          have := congrArg (fun o : Option (Key × V) => o.map (·.2)) z
          simp [toK] at this)
    refine for_it walk_signs (fun i σ H' => ∃ (qs : List (Nat × Nat)) (ys : List V) (w1 : Option V) (cnt : Nat), σ = [some (.ref p), some (.ref t), some (.str S), some (.ref d), some (.ref b), w1] ∧ But p H H' ∧ PenAt H' p c cnt ∧ cnt ≤ n + i ∧ H' b = some (.lst ys) ∧
        PairsAt H' qs ys ∧ Flips (dueL S hs (S.cps.toList.take i)) qs ∧ ys.length ≤ i)
      ⟨[], [], none, n, rfl, .of n1.same, hP.same n1.same, Nat.le_refl _, n1.here, .nil, by rw [List.take_zero]; exact .nil, Nat.le_refl _⟩ (fun _ _ _ _ _ => trivial) ?_ ?_
    · rintro i x σ G H2 hi ⟨qs, ys, w1, cnt, rfl, hB, hPen, hcnt, hb, hq, hfl, hyl⟩ ⟨rfl, hx⟩
      rw [signs_len] at hi
      obtain ⟨o, ho⟩ : ∃ o, S.cps.toList[i]? = some o := ⟨S.cps.toList[i]'(by omega), List.getElem?_eq_getElem _⟩
      obtain rfl := sgn_at hx ho
      have oS : o ∈ S.cps.toList := List.mem_of_getElem? ho
      have nx : dueL S hs (S.cps.toList.take (i + 1)) = dueL S hs (S.cps.toList.take i) ++ dueL S hs [o] := by
        rw [List.take_add_one, ho]
        exact dueL_snoc _ _ _ _
      have hd2 : H2 d = some (.dK (toK hs)) := hB d _ hdp hd
      have hS10 := hF.hi
      refine ⟨_, rfl, _, rfl, d, _, rfl, dget_toK o hd2, _, rfl, ?_⟩
      cases hb1 : headOf hs o with
      | none =>
        refine iteF (iteF ?_)
        refine ⟨qs, ys, _, cnt, rfl, hB, hPen, by omega, hb, hq, ?_, by omega⟩
        rw [nx, dueL_no hb1, List.append_nil]
        exact hfl
      | some o2 =>
        refine iteT ?_
        have o2S : o2 ∈ S.cps.toList := (hF.hd.inS _ _ hb1).2
        have dg : ∀ H', H' d = some (.dK (toK hs)) → DGet H' d (sg o) (some (sg o2)) := fun H' e => by
          have := dget_toK o e
          rw [hb1] at this
          exact this
        refine ⟨_, rfl, rfl, _, rfl, S, ⟨#[o]⟩, rfl, rfl, fun k1 hk1 => ?_, fun hn => ?_⟩
        · rw [index0_one S o oS] at hk1
          obtain rfl := Option.some.inj hk1
          refine ⟨_, rfl, rfl, _, rfl, _, rfl, d, sg o2, rfl, dg _ hd2, S, ⟨#[o2]⟩, rfl, rfl, fun k2 hk2 => ?_, fun hn => ?_⟩
          · rw [index0_one S o2 o2S] at hk2
            obtain rfl := Option.some.inj hk2
            refine ⟨_, _, rfl, rfl, _, rfl, ?_⟩
            have e3 : decide (((S.cps.toList.idxOf o : Nat) : Int) ≤ ((S.cps.toList.idxOf o2 : Nat) : Int)) = decide (S.cps.toList.idxOf o ≤ S.cps.toList.idxOf o2) := by
              rw [decide_eq_decide]
              omega
            rw [e3]
            by_cases hle : S.cps.toList.idxOf o ≤ S.cps.toList.idxOf o2
            · rw [decide_eq_true hle]
              refine iteT ?_
              refine ⟨_, rfl, .inl ⟨rfl, _, SqL.of hb⟩, _, rfl, _, rfl, _, rfl, _, rfl, d, sg o2, rfl, dg _ hd2, by show 2 ≤ sizeLine; decide, fun q1 H3 n3 => ?_⟩
              refine ⟨_, rfl, _, rfl, d, sg o2, rfl, dg _ (n3.same _ _ hd2), _, rfl, by show 2 ≤ sizeLine; decide, fun q2 H4 n4 => ⟨by show 2 ≤ sizeLine; decide, fun b2 H5 n5 => ?_⟩⟩
              have s5 : Same H2 H5 := (n3.same.trans n4.same).trans n5.same
              have P5 := hPen.same s5
              refine ⟨p, c, b2, _, cnt, rfl, P5, by omega, SqL.of n5.here, fun e => (hPen.same (n3.same.trans n4.same)).ne n5.free e.symm, by show 0 < 2; decide, by show 2 ≤ 1000000; decide, fun H6 v d6 hv => ?_⟩
              have q1p : q1 ≠ p := fun e => hPen.ne n3.free e.symm
              have q2p : q2 ≠ p := fun e => (hPen.same n3.same).ne n4.free e.symm
              have i1 : H6 q1 = some (.tup [sg o, sg o2]) := d6.but _ _ q1p ((n4.same.trans n5.same) _ _ n3.here)
              have i2 : H6 q2 = some (.tup [sg o2, sg o]) := d6.but _ _ q2p (n5.same _ _ n4.here)
              have hb6 : H6 b = some (.lst ys) := d6.but _ _ hpb.symm (s5 _ _ hb)
              have hq6 : PairsAt H6 qs ys := Paired.map (fun e y hy => by
                obtain ⟨q', e1, e2⟩ := hy
                exact ⟨q', e1, d6.but _ _ (P5.neT (s5 _ _ e2)) (s5 _ _ e2)⟩) hq
              have B6 : But p H H6 := (hB.trans (.of s5)).trans d6.but
              refine ⟨b, ys, v, rfl, rfl, hb6, Nat.lt_of_le_of_lt (show ys.length ≤ 100 by omega) (by decide), fun H7 w7 => ?_⟩
              have P7 : PenAt H7 p c (cnt + 1) := d6.pen.els w7 hpb hcb
              have B7 : But p H H7 := But.wr B6 hb0 w7
              have q7 : PairsAt H7 qs ys := Paired.map (fun e y hy => by
                obtain ⟨q', e1, e2⟩ := hy
                exact ⟨q', e1, (w7.els q' (ne_of e2 hb6 (by intro z; cases z))).trans e2⟩) hq6
              have nb : ∀ {q : Addr} {xs : List V}, H6 q = some (.tup xs) → H7 q = some (.tup xs) := fun h => (w7.els _ (ne_of h hb6 (by intro z; cases z))).trans h
              rcases List.mem_cons.mp hv with rfl | hv
              · refine ⟨qs ++ [(o, o2)], _, _, cnt + 1, rfl, B7, P7, by omega, w7.here, Paired.snoc q7 ⟨q1, rfl, nb i1⟩, ?_, by rw [List.length_append, List.length_singleton]; omega⟩
                rw [nx, dueL_yes hb1, if_pos hle]
                exact Paired.snoc hfl (.inl rfl)
              · rcases List.mem_cons.mp hv with rfl | hv
                · refine ⟨qs ++ [(o2, o)], _, _, cnt + 1, rfl, B7, P7, by omega, w7.here, Paired.snoc q7 ⟨q2, rfl, nb i2⟩, ?_, by rw [List.length_append, List.length_singleton]; omega⟩
                  rw [nx, dueL_yes hb1, if_pos hle]
                  exact Paired.snoc hfl (.inr rfl)
                · cases hv
            · rw [decide_eq_false hle]
              refine iteF ?_
              refine ⟨qs, ys, _, cnt, rfl, hB, hPen, by omega, hb, hq, ?_, by omega⟩
              rw [nx, dueL_yes hb1, if_neg hle, List.append_nil]
              exact hfl
          · rw [index0_one S o2 o2S] at hn
            cases hn
        · rw [index0_one S o oS] at hn
          cases hn
    · rintro σ H2 ⟨qs, ys, w1, cnt, rfl, hB, hPen, hcnt, hb, hq, hfl, hyl⟩
      rw [signs_len] at hcnt hfl hyl
      rw [← Sl, List.take_length, dueL_all] at hfl
      have hS10 := hF.hi
      have G := due_good hF.lo hF.hi hF.nd hF.ab hF.hd
      refine ⟨_, rfl, _, rfl, p, c, .ref b, ys, cnt, rfl, hPen, by omega, .lst (SqL.of hb), by omega, fun H3 r zs d3 f3 h3 perm => ?_⟩
      obtain ⟨qs2, hq2, perm2⟩ := paired_perm perm (hq.pen hPen d3.but)
      have hql := hq2.length
      have hyl2 := perm.length_eq
      have hfl2 := hfl.length
      refine k H3 r zs qs2 ⟨hB.trans d3.but, d3.pen.mono (by omega)⟩ (hB.free (fun e => hPen.ne f3 e.symm) f3) h3 hq2 (same_trans (same_flip hfl) (same_perm perm2)) ?_
      have := perm2.length_eq
      have h1 := hq.length
      omega
def sp_made2 (C : Addr) : Sp := fun vs H Q _ => ∃ (p c t d n : Nat) (S : Str) (hs : List (Nat × Nat)), vs = [.ref p, .ref t] ∧ PenAt H p c n ∧ n < 2 ^ 50 ∧ H t = some (.tup [.str S, .ref d]) ∧ H d = some (.dK (toK hs)) ∧ Font2 S hs 2 10 ∧
  ∀ H' a tps, But p H H' → PenAt H' p c (n + 20) → FontAt H' C a S tps → (∀ e ∈ tps, e.1 < 128 ∧ e.2 < 128) → Q (.ref a) H'
theorem sc_made2 : FnScope ["_law_pen_here", "_law_font_here"] ["_law_pen_here", "_law_font_here"] (defScope s_made2) := ⟨rfl, rfl, rfl, by decide +kernel, rfl, by decide +kernel, by decide +kernel⟩
theorem alpha_low : ∀ c ∈ alphabet.cps.toList, c < 128 := by decide +kernel
theorem ok_made2 {f C fI fT : Addr} {fd fdI fdT : FuncData} (F : Fun K "_law_made_font" "_law_made_font" s_made2 f fd) (M : Mk K C fI) (GI : FnOk P w K mg base CX0 4 fI fdI ["self", "signs", "turns"] (sp_init K C)) (bI : Binds K fdI ["self", "signs", "turns"] []) (gF : mg "Font" = some (.ref C))
    (DT : Def K mg "_law_turns" fT fdT ["_law_pen_here", "_law_font_here"]) (GT : FnOk P w K mg base CX0 3 fT fdT ["_law_pen_here", "_law_font_here"] (sp_turns2 K)) :
    FnOk P w K mg base CX0 6 f fd ["_law_pen_here", "_law_font_here"] (sp_made2 C) := by
  refine F.ok sc_made2 (fun vs H Q E h => ?_) (fun cdv A outer s H vs Q E hr h => ?_)
  · obtain ⟨p, c, t, d, n, S, hs, rfl, _⟩ := h
    rfl
  · obtain ⟨p, c, t, d, n, S, hs, rfl, hP, hn, ht, hd, hF, k⟩ := h
    have r3 : Room 3 _ := hr.mono (by decide)
    refine ⟨_, pss_one (ps_ret (pe_font M GI hr rfl gF bI .nil (pa_cons (pe_ix ix_tup (pv 1) pe_int (fun _ _ => rfl)) (pa_cons (pe_call GT r3 rfl DT.mgf DT.kp DT.bd .nil pass0 (pa_cons (pv 0) (pa_cons (pv 1) pa_nil))) pa_nil)))), ?_⟩
    refine ⟨_, rfl, t, _, _, _, rfl, rfl, SqT.of ht, at0 _ _, _, rfl, _, rfl, p, c, t, d, n, S, hs, rfl, hP, hn, ht, hd, hF, fun H1 r ys qs d1 f1 h1 hq sm ql => ?_⟩
    have G := due_good hF.lo hF.hi hF.nd hF.ab hF.hd
    have abq := turns_ab G sm
    obtain ⟨_, _, _, _, nd⟩ := pairs_data qs abq
    obtain ⟨dfit, _, _, _⟩ := passed_data ql abq (.inl rfl)
    have hrp : Rp K p H1 false (.ref r) (.list (qs.map pairD)) := by
      obtain ⟨cs, u, z, hp, _⟩ := d1.pen
      exact .lst h1 (fun z => hP.ne f1 z.symm) (fun z => by rw [nd] at z; cases z) (rp_pairs hp (fun xs z => by cases z) hq)
    have kept : keptD S (.list (qs.map pairD)) = some (dueOf S (headsAll (dueOf S hs))) := kept_same sm G.tnd G.tin
    refine ⟨S, .ref r, _, _, p, rfl, hrp, dfit, good_fontD (Nat.le_refl 10) G, kept, fun H2 a s2 fa ft => k H2 a _ (d1.but.trans (.of s2)) (d1.pen.same s2) ft ?_⟩
    have low : ∀ c ∈ S.cps.toList, c < 128 := fun c hc => alpha_low c (hF.ab c hc)
    exact due_low low (fun c b e => G.tin b (heads_dom _ c b e).2)
end
end My
end
section
set_option Elab.async false
set_option linter.all false
set_option maxRecDepth 100000
set_option maxHeartbeats 4000000
/-! Nlval: _law_value: the number that a row writes. -/
namespace My
open PySem PySem.Spec PyProof.Rows L2
abbrev s_lval : Stmt := topS 41
def sp_lval (K : PySem.W.Frag) : Sp := fun vs H Q _ => ∃ (t d : Addr) (S z : Str), vs = [.ref t, .str z] ∧ SqT K H t [.str S, .ref d] ∧ 2 ≤ S.length ∧ S.length ≤ 10 ∧ z.length ≤ 4000 ∧ (∀ c ∈ z.cps.toList, c ∈ S.cps.toList) ∧
  Q (.int (valR S.length S.cps.toList 0 z.cps.toList : Nat)) H
section
variable {P : Program} {w : World} {K : PySem.W.Frag} {mg : Str → Option Value} {base : Heap}
abbrev NLv : List Str := ["_law_font_here", "_law_row_here", "_law_found", "_law_sign"]
theorem sc_lval : FnScope NLv ["_law_font_here", "_law_row_here"] (defScope s_lval) := ⟨rfl, rfl, rfl, by decide +kernel, rfl, by decide +kernel, by decide +kernel⟩
theorem ok_lval {f : Addr} {fd : FuncData} (F : Fun K "_law_value" "_law_value" s_lval f fd) (T : TB mg) : FnOk P w K mg base CX0 1 f fd ["_law_font_here", "_law_row_here"] (sp_lval K) := by
  refine F.ok sc_lval (fun vs H Q E h => ?_) (fun cdv A outer s H vs Q E hr h => ?_)
  · obtain ⟨t, d, S, z, rfl, _⟩ := h
    rfl
  · obtain ⟨t, d, S, z, rfl, ht, S2, S10, hz, mem, k⟩ := h
    have CL := @call_len_str (cxOf CX0 P w K mg base NLv "_law_value" (defScope s_lval) f cdv A outer s H E).nox
    have mtI := mt_indexX (X := (cxOf CX0 P w K mg base NLv "_law_value" (defScope s_lval) f cdv A outer s H E).nox) (W := fun _ _ _ _ => False) (by rfl) LamX.takes0
    refine ⟨_, pss_cons (ps_set (i := 2) sc_lval.nd rfl (Or.inl rfl) pe_int)
      (pss_cons (ps_for PassesOwn.never rfl (pi_str (pv 1)) (pg_name (i := 3) sc_lval.nd rfl (Or.inl rfl))
        (pss_one (ps_set (i := 2) sc_lval.nd rfl (Or.inl rfl) (pe_op op_add (pe_op op_mulW (pv 2) (pe_callB (id := "len") CL (by rfl) T.len PySem.boot_len (pa_cons (pe_ix ix_tup (pv 0) pe_int (fun _ _ => rfl)) pa_nil))) (pe_bmSK (K := K) (by rfl) PySem.F.plainAttrs_str PySem.F.slot_str_index PySem.F.type_str_index mtI (pe_ix ix_tup (pv 0) pe_int (fun _ _ => rfl)) (pa_cons (pv 3) pa_nil))))))
      (pss_one (ps_ret (pv 2)))), ?_⟩
    have hS : S.length ≤ sizeLine := Nat.le_trans S10 (by decide)
    have zl : z.cps.toList.length = z.length := Array.length_toList
    have Sl : S.cps.toList.length = S.length := Array.length_toList
    refine ⟨_, rfl, z, rfl, ?_⟩
    refine for_it (walk_signs (z := z)) (fun j σ' H' => ∃ o3 : Option V, σ' = [some (.ref t), some (.str z), some (.int ((valR S.length S.cps.toList 0 (z.cps.toList.take j) : Nat) : Int)), o3] ∧ H' = H)
      ⟨none, rfl, rfl⟩ (fun _ _ _ _ _ => trivial) ?_ ?_
    · rintro j x σ' Ha Hb hj ⟨o3, rfl, rfl⟩ ⟨rfl, hx⟩
      rw [signs_len] at hj
      have hj2 : j < z.cps.toList.length := by omega
      obtain ⟨c, hc⟩ : ∃ c, z.cps.toList[j]? = some c := ⟨_, List.getElem?_eq_getElem hj2⟩
      obtain rfl : x = sg c := by
        have hx : (z.cps.toList.map sg)[j]? = some x := hx
        rw [List.getElem?_map, hc] at hx
        exact (Option.some.inj hx).symm
      have cS := mem c (List.mem_of_getElem? hc)
      have b10 : valR S.length S.cps.toList 0 (z.cps.toList.take j) < 2 ^ 16000 := by
        have q := valR_lt (b := S.length) (S := S.cps.toList) (by omega) (by omega) (z.cps.toList.take j) 0 0 (fun c hc => mem c (List.mem_of_mem_take hc)) (by rw [Nat.pow_zero]; exact Nat.zero_lt_one)
        refine Nat.lt_of_lt_of_le q ?_
        have l1 : 0 + (z.cps.toList.take j).length ≤ 4000 := by rw [List.length_take]; omega
        refine Nat.le_trans (Nat.pow_le_pow_left (show S.length ≤ 2 ^ 4 by omega) _) ?_
        rw [← Nat.pow_mul]
        exact Nat.pow_le_pow_right (by decide) (by omega)
      have wm : CMulW ((valR S.length S.cps.toList 0 (z.cps.toList.take j) : Nat) : Int) (S.length : Int) := wide_mul (a := 16000) (b := 30) (by rw [Int.natAbs_natCast]; exact b10) (by rw [Int.natAbs_natCast]; exact Nat.lt_of_le_of_lt S10 (by decide)) (by decide) (by decide) (by decide)
      refine ⟨_, rfl, _, rfl, t, _, _, _, rfl, rfl, ht, at0 _ _, S, rfl, hS, _, _, rfl, rfl, wm, ?_⟩
      refine ⟨_, rfl, t, _, _, _, rfl, rfl, ht, at0 _ _, rfl, _, rfl, S, ⟨#[c]⟩, rfl, rfl, fun k1 hk1 => ?_, fun hn => ?_⟩
      · rw [index0_one S c cS] at hk1
        obtain rfl := Option.some.inj hk1
        refine ⟨_, _, rfl, rfl, some (sg c), ?_, rfl⟩
        have tk : z.cps.toList.take (j + 1) = z.cps.toList.take j ++ [c] := by
          rw [List.take_add_one, hc]
          rfl
        rw [tk, valR_app]
        rfl
      · rw [index0_one S c cS] at hn
        cases hn
    · rintro σ' Hc ⟨o3, rfl, rfl⟩
      rw [signs_len, ← zl, List.take_length]
      exact ⟨_, rfl, k⟩
end
end My
end
section
set_option Elab.async false
set_option linter.all false
set_option maxRecDepth 100000
set_option maxHeartbeats 4000000
namespace My
open PySem PySem.Spec PyProof.Rows L2
abbrev s_isInt : Stmt := topS 3
abbrev s_isNum : Stmt := topS 4
def intD : PyData → Bool | .int _ => true | _ => false
theorem kit_int {K : PySem.W.Frag} (d : PyData) : PySem.W.kitOne K (.type (tyName d)) (.type "int") = some (match d with | .int _ => true | .bool _ => true | _ => false) := by
  cases d
  · exact kit_ty (show kitB "NoneType" "int" = some false by decide +kernel)
  · exact kit_ty (show kitB "bool" "int" = some true by decide +kernel)
  · exact kit_ty (show kitB "int" "int" = some true by decide +kernel)
  · exact kit_ty (show kitB "str" "int" = some false by decide +kernel)
  · exact kit_ty (show kitB "list" "int" = some false by decide +kernel)
  · exact kit_ty (show kitB "tuple" "int" = some false by decide +kernel)
  · exact kit_ty (show kitB "dict" "int" = some false by decide +kernel)
theorem kit_bool {K : PySem.W.Frag} (d : PyData) : PySem.W.kitOne K (.type (tyName d)) (.type "bool") = some (match d with | .bool _ => true | _ => false) := by
  cases d
  · exact kit_ty (show kitB "NoneType" "bool" = some false by decide +kernel)
  · exact kit_ty (show kitB "bool" "bool" = some true by decide +kernel)
  · exact kit_ty (show kitB "int" "bool" = some false by decide +kernel)
  · exact kit_ty (show kitB "str" "bool" = some false by decide +kernel)
  · exact kit_ty (show kitB "list" "bool" = some false by decide +kernel)
  · exact kit_ty (show kitB "tuple" "bool" = some false by decide +kernel)
  · exact kit_ty (show kitB "dict" "bool" = some false by decide +kernel)
def sp_isInt (K : PySem.W.Frag) : Sp := fun vs H Q _ => ∃ (v : V) (d : PyData) (p : Addr), vs = [v] ∧ Rp K p H false v d ∧ Q (.bl (intD d)) H
/-- an upper bound: None, or a number -/
def upTo : Option Int → V | none => .non | some j => .int j
def below (i : Int) : Option Int → Bool | none => true | some j => decide (i ≤ j)
def numD (lo : Int) (hi : Option Int) : PyData → Bool
  | .int i => decide (lo ≤ i) && below i hi
  | _ => false
def sp_isNum (K : PySem.W.Frag) : Sp := fun vs H Q _ => ∃ (v : V) (d : PyData) (p : Addr) (lo : Int) (hi : Option Int), vs = [v, .int lo, upTo hi] ∧ Rp K p H false v d ∧ Q (.bl (numD lo hi d)) H
/-- 10 ** 30 -/
def big30 : Int := 1000000000000000000000000000000
section
variable {P : Program} {w : World} {K : PySem.W.Frag} {mg : Str → Option Value} {base : Heap}
theorem sc_isInt : FnScope ["value"] ["value"] (defScope s_isInt) := ⟨rfl, rfl, rfl, by decide +kernel, rfl, by decide +kernel, by decide +kernel⟩
theorem ok_isInt {f : Addr} {fd : FuncData} (F : Fun K "is_integer" "is_integer" s_isInt f fd) (T : TB mg) (tb : mg "bool" = none) : FnOk P w K mg base CX0 1 f fd ["value"] (sp_isInt K) := by
  refine F.ok sc_isInt (fun vs H Q E h => ?_) (fun cdv A outer s H vs Q E hr h => ?_)
  · obtain ⟨v, d, p, rfl, _⟩ := h
    rfl
  · obtain ⟨v, d, p, rfl, hd, k⟩ := h
    refine ⟨_, pss_one (ps_ret (pe_and (pe_callB call_isi (by rfl) T.isi (by decide +kernel) (pa_cons (pv 0) (pa_cons (pe_bltn (v := .ty "int") (by rfl) T.int (by decide +kernel) rfl) pa_nil)))
      (pe_one (pe_not (pe_callB call_isi (by rfl) T.isi (by decide +kernel) (pa_cons (pv 0) (pa_cons (pe_bltn (v := .ty "bool") (by rfl) tb (by decide +kernel) rfl) pa_nil))))))), ?_⟩
    refine ⟨_, rfl, _, _, _, _, _, rfl, .ty "int", hd.ty, kit_int d, _, rfl, ?_⟩
    cases d <;> first
      | exact iteF k
      | (refine iteT ?_
         exact ⟨_, rfl, _, _, _, _, _, rfl, .ty "bool", hd.ty, kit_bool _, _, rfl, k⟩)
theorem sc_isNum : FnScope ["value", "least", "greatest"] ["value", "least", "greatest"] (defScope s_isNum) := ⟨rfl, rfl, rfl, by decide +kernel, rfl, by decide +kernel, by decide +kernel⟩
theorem ok_isNum {f fI : Addr} {fd fdI : FuncData} {dvs : List V} (F : FunD K "is_number" "is_number" (defArgs s_isNum) (defBody s_isNum) (defScope s_isNum) dvs [] f fd) (D : Def K mg "is_integer" fI fdI ["value"]) (G : FnOk P w K mg base CX0 1 fI fdI ["value"] (sp_isInt K)) :
    FnOk P w K mg base CX0 2 f fd ["value", "least", "greatest"] (sp_isNum K) := by
  refine F.ok sc_isNum (fun vs H Q E h => ?_) (fun cdv A outer s H vs Q E hr h => ?_)
  · obtain ⟨v, d, p, lo, hi, rfl, _⟩ := h
    rfl
  · obtain ⟨v, d, p, lo, hi, rfl, hd, k⟩ := h
    refine ⟨_, PSs.nox (pss_cons (ps_if (PW.pt (pw_or (pt_not (pt_val (pe_call G hr rfl D.mgf D.kp D.bd .nil pass0 (pa_cons (pv 0) pa_nil)))) (pw_or1 (pt_cmpR op_lt (pv 0) (pv 1) (nomark _))))) (pss_one (ps_ret pe_bl)) pss_nil)
      (pss_one (ps_ret (pe_or (pe_cmp (pc_isN (pv 2)) rfl) (pe_one (pe_cmpR op_le (pv 0) (pv 2) (nomark _))))))), ?_⟩
    refine ⟨_, rfl, v, d, p, rfl, hd, _, rfl, ?_⟩
    cases d with
    | int i =>
      cases hd
      refine iteF ⟨_, rfl, _, rfl, _, _, rfl, rfl, _, rfl, ?_⟩
      have k : Q (.bl (decide (lo ≤ i) && below i hi)) H := k
      refine ite2 (fun t => ?_) (fun t => ?_)
      · have t := of_decide_eq_true t
        rw [decide_eq_false (by omega), Bool.false_and] at k
        exact k
      · have t : ¬ i < lo := fun z => t (decide_eq_true z)
        rw [decide_eq_true (by omega), Bool.true_and] at k
        cases hi with
        | none => exact ⟨_, rfl, _, rfl, iteT k⟩
        | some j => exact ⟨_, rfl, _, rfl, iteF ⟨_, rfl, _, rfl, _, _, rfl, rfl, k⟩⟩
    | _ => exact iteT k
end
end My
end
section
set_option Elab.async false
set_option linter.all false
set_option maxRecDepth 100000
set_option maxHeartbeats 4000000
/-! Bdt: {(a, b): v}: a dict display of one pair whose key is a tuple. -/
namespace My
open PySem PySem.Spec PyProof.Rows L2
def tDisp1T (trs : List (TE × TE)) : TE := fun σ H Q => ∀ p, H p = none → tPairs trs σ (upd H p (.dT [])) fun ps H2 => H2 p = some (.dT []) ∧ ∃ (k : List Key) (b : Addr) (v : V), ps = [(.ref b, v)] ∧ H2 b = some (.tup (k.map kV)) ∧ Q (.ref p) (upd H2 p (.dT [(k, v)]))
theorem pe_disp1T {X : Cx} {pos : Pos} {keys : List (Option Expr)} {values : List Expr} {trs : List (TE × TE)} (hu : X.A.units + 1 < cLine) (h : PPs X pos keys values trs) (hall : keys.all (·.isSome) = true) (hl : keys.length = values.length) (h0 : keys ≠ [])
    (h15 : keys.length ≤ 15) : PE X (.Dict keys values pos) (tDisp1T trs) := by
  refine ⟨fun pins s σ H Q I q => ?_⟩
  have hn := I.hok.fresh (Nat.le_refl s.heap.objs.size)
  have I1 := I.laid (a := s.heap.objs.size) (o := .dT []) (h' := s.heap.push { cls := .type "dict", data := .dict #[] }) (t' := s.toks) (fun _ _ q => Heap.get?_push_of_some _ q) (Nat.le_refl _) (dt_empty s.heap I.big)
  refine PySem.wpAny_Dict_any hall hl h0 h15 (thn (h.run pins _ σ _ _ I1 (q _ hn)) fun ws s2 ⟨ps, H2, I2, rel, e, k, b, v, ep, eb, q2⟩ => ?_)
  subst ep
  cases rel with
  | @cons a y as ys r t =>
    cases t
    obtain ⟨key, w'⟩ := y
    obtain ⟨rx, ry⟩ := r
    obtain rfl : key = Value.ref b := rx
    obtain ⟨z, hd, xs, rel0, dd⟩ := dt_of I2.hok e
    cases rel0
    refine PySem.wpAny_storeAllH (knd := tupleKind (mixKind X.prog X.w)) (show (tupleKind (mixKind X.prog X.w)).room X.A from (by first | exact hu | (show X.A.units < cLine; omega))) [(.ref b, w')] [(k, b, w')] [] s2 _ ⟨rfl, rfl, key_of I2.hok eb, trivial⟩ dd (by show 1 ≤ sizeLine; decide) fun h' tk dd' hs => ?_
    obtain ⟨o, es, ep, ho, h2, h3, h4, _, h5⟩ := dd'
    have nw : ObjOk X.prog X.w (upd H2 s.heap.objs.size (.dT [(k, v)])) h' s.heap.objs.size (.dT [(k, v)]) := by
      refine ⟨by show 1 ≤ sizeLine; decide, hd, [(k, b, w')], .cons ⟨rfl, ?_, ry⟩ .nil, o, es, ep, ho, h2, h3, h4, h5⟩
      rw [upd_ne (ne_of eb e (fun z => nomatch z))]
      exact eb
    exact ⟨.ref s.heap.objs.size, _, d_write I2 (by rw [e]; exact True.intro) hs ⟨o, ho⟩ nw, rfl, q2⟩
end My
end
section
set_option Elab.async false
set_option linter.all false
set_option maxRecDepth 100000
set_option maxHeartbeats 4000000
/-! Nknum: is_integer, is_number of a value of which the type alone is known, unless it is a whole number. -/
namespace My
open PySem PySem.Spec PyProof.Rows L2
structure KnD (K : PySem.W.Frag) (H : Hp) (v : V) (d : PyData) : Prop where
  ty : TyX K H v (.type (tyName d))
  int_ : ∀ i, d = .int i → v = .int i
theorem Rp.kn {K : PySem.W.Frag} {p : Addr} {H : Hp} {st : Bool} {v : V} {d : PyData} (h : Rp K p H st v d) : KnD K H v d := ⟨h.ty, fun i e => by subst e; cases h; rfl⟩
def sp_isIntK (K : PySem.W.Frag) : Sp := fun vs H Q _ => ∃ (v : V) (d : PyData), vs = [v] ∧ KnD K H v d ∧ Q (.bl (intD d)) H
def sp_isNumK (K : PySem.W.Frag) : Sp := fun vs H Q _ => ∃ (v : V) (d : PyData) (lo : Int) (hi : Option Int), vs = [v, .int lo, upTo hi] ∧ KnD K H v d ∧ Q (.bl (numD lo hi d)) H
section
variable {P : Program} {w : World} {K : PySem.W.Frag} {mg : Str → Option Value} {base : Heap}
theorem ok_isIntK {f : Addr} {fd : FuncData} (F : Fun K "is_integer" "is_integer" s_isInt f fd) (T : TB mg) (tb : mg "bool" = none) : FnOk P w K mg base CX0 1 f fd ["value"] (sp_isIntK K) := by
  refine F.ok sc_isInt (fun vs H Q E h => ?_) (fun cdv A outer s H vs Q E hr h => ?_)
  · obtain ⟨v, d, rfl, _⟩ := h
    rfl
  · obtain ⟨v, d, rfl, hd, k⟩ := h
    refine ⟨_, pss_one (ps_ret (pe_and (pe_callB call_isi (by rfl) T.isi (by decide +kernel) (pa_cons (pv 0) (pa_cons (pe_bltn (v := .ty "int") (by rfl) T.int (by decide +kernel) rfl) pa_nil)))
      (pe_one (pe_not (pe_callB call_isi (by rfl) T.isi (by decide +kernel) (pa_cons (pv 0) (pa_cons (pe_bltn (v := .ty "bool") (by rfl) tb (by decide +kernel) rfl) pa_nil))))))), ?_⟩
    refine ⟨_, rfl, _, _, _, _, _, rfl, .ty "int", hd.ty, kit_int d, _, rfl, ?_⟩
    have ht := hd.ty
    cases d <;> first
      | exact iteF k
      | (refine iteT ?_
         exact ⟨_, rfl, _, _, _, _, _, rfl, .ty "bool", ht, kit_bool _, _, rfl, k⟩)
theorem ok_isNumK {f fI : Addr} {fd fdI : FuncData} {dvs : List V} (F : FunD K "is_number" "is_number" (defArgs s_isNum) (defBody s_isNum) (defScope s_isNum) dvs [] f fd) (D : Def K mg "is_integer" fI fdI ["value"]) (G : FnOk P w K mg base CX0 1 fI fdI ["value"] (sp_isIntK K)) :
    FnOk P w K mg base CX0 2 f fd ["value", "least", "greatest"] (sp_isNumK K) := by
  refine F.ok sc_isNum (fun vs H Q E h => ?_) (fun cdv A outer s H vs Q E hr h => ?_)
  · obtain ⟨v, d, lo, hi, rfl, _⟩ := h
    rfl
  · obtain ⟨v, d, lo, hi, rfl, hd, k⟩ := h
    refine ⟨_, PSs.nox (pss_cons (ps_if (PW.pt (pw_or (pt_not (pt_val (pe_call G hr rfl D.mgf D.kp D.bd .nil pass0 (pa_cons (pv 0) pa_nil)))) (pw_or1 (pt_cmpR op_lt (pv 0) (pv 1) (nomark _))))) (pss_one (ps_ret pe_bl)) pss_nil)
      (pss_one (ps_ret (pe_or (pe_cmp (pc_isN (pv 2)) rfl) (pe_one (pe_cmpR op_le (pv 0) (pv 2) (nomark _))))))), ?_⟩
    refine ⟨_, rfl, v, d, rfl, hd, _, rfl, ?_⟩
    cases d with
    | int i =>
      obtain rfl := hd.int_ i rfl
      refine iteF ⟨_, rfl, _, rfl, _, _, rfl, rfl, _, rfl, ?_⟩
      have k : Q (.bl (decide (lo ≤ i) && below i hi)) H := k
      refine ite2 (fun t => ?_) (fun t => ?_)
      · have t := of_decide_eq_true t
        rw [decide_eq_false (by omega), Bool.false_and] at k
        exact k
      · have t := of_decide_eq_false (Bool.eq_false_iff.mpr t)
        rw [decide_eq_true (by omega), Bool.true_and] at k
        cases hi with
        | none => exact ⟨_, rfl, _, rfl, iteT k⟩
        | some j => exact ⟨_, rfl, _, rfl, iteF ⟨_, rfl, _, rfl, _, _, rfl, rfl, k⟩⟩
    | _ => exact iteT k
end
end My
end
section
set_option Elab.async false
set_option linter.all false
set_option maxRecDepth 100000
set_option maxHeartbeats 4000000
/-! Ychk1: _check_first (valid). -/
namespace My
open PySem PySem.Spec PyProof.Rows L2
abbrev s_chk1 : Stmt := topS 26
def sp_chk1 : Sp := fun vs H Q _ => ∃ m : Nat, vs = [.int (m + 1 : Nat)] ∧ m + 1 ≤ 10 ^ 30 ∧ Q .non H
section
variable {P : Program} {w : World} {K : PySem.W.Frag} {mg : Str → Option Value} {base : Heap}
theorem sc_chk1 : FnScope ["number"] ["number"] (defScope s_chk1) := ⟨rfl, rfl, rfl, by decide +kernel, rfl, by decide +kernel, by decide +kernel⟩
theorem ok_chk1 {f fN : Addr} {fd fdN : FuncData} {tG : Tok} (F : Fun K "_check_first" "_check_first" s_chk1 f fd) (gG : mg "GREATEST" = some (.int 1000000000000000000000000000000 tG))
    (D : Def K mg "is_number" fN fdN ["value", "least", "greatest"]) (G : FnOk P w K mg base CX0 2 fN fdN ["value", "least", "greatest"] (sp_isNum K)) : FnOk P w K mg base CX0 3 f fd ["number"] sp_chk1 := by
  refine F.ok sc_chk1 (fun vs H Q E h => ?_) (fun cdv A outer s H vs Q E hr h => ?_)
  · obtain ⟨m, rfl, _⟩ := h
    rfl
  · obtain ⟨m, rfl, hm, k⟩ := h
    refine ⟨_, pss_one (ps_if (pt_not (pt_val (pe_call G hr rfl D.mgf D.kp D.bd .nil pass0 (pa_cons (pv 0) (pa_cons pe_int (pa_cons (pe_glob (v := .int 1000000000000000000000000000000) rfl gG ⟨_, rfl⟩) pa_nil)))))) (pss_one ps_never) pss_nil), ?_⟩
    refine ⟨_, rfl, _, _, 0, 1, some big30, rfl, .int _ _, _, rfl, ?_⟩
    have e : numD 1 (some big30) (.int ((m + 1 : Nat) : Int)) = true := by
      show (decide ((1 : Int) ≤ ((m + 1 : Nat) : Int)) && decide (((m + 1 : Nat) : Int) ≤ big30)) = true
      rw [decide_eq_true (by omega), decide_eq_true (by unfold big30; omega)]
      rfl
    rw [e]
    exact iteF k
end
end My
end
section
set_option Elab.async false
set_option linter.all false
set_option maxRecDepth 100000
set_option maxHeartbeats 4000000
/-! B5: x[::-1] of any text, of any list. -/
namespace My
open PySem PySem.Spec PyProof.Rows L2
/-- x[::-1], x a text: some text of its signs, not longer -/
def tRevT (te : TE) : TE := fun σ H Q => te σ H fun v H1 => ∃ z : Str, v = .str z ∧ z.length ≤ 1000 ∧ ∀ y : Str, y.length ≤ z.length → (∀ c ∈ y.cps.toList, c ∈ z.cps.toList) → Q (.str y) H1
/-- x[::-1], x a list -/
def tRevL (K : PySem.W.Frag) (te : TE) : TE := fun σ H Q => te σ H fun v H1 => ∃ (a : Addr) (xs : List V), v = .ref a ∧ SqL K H1 a xs ∧ ∀ p H2, New H1 p (.lst xs.reverse) H2 → Q (.ref p) H2
section
variable {X : Cx} {e : Expr} {te : TE} {k : Nat} {p1 p2 p3 pos : Pos}
theorem back_open {pins : List (Addr × Obj)} {σ : L2.St} {H1 : Hp} {s1 : Shared} {v : Value} {Q' : Value → Shared → Prop} (I1 : Inv X pins σ H1 s1)
    (q : ∀ (s4 : Shared) (vs : Value), Inv X pins σ H1 s4 → IsPart vs (some (-1)) → wpAny (model X.prog X.w) X.A (subscriptTail e (.Slice none none (some (.UnaryOp .USub (.Constant (.int 1) k p1) p2)) p3) v (.ref s4.heap.objs.size)) Q' X.xe { s4 with heap := s4.heap.push { cls := .type "slice", data := .fields #[.none, .none, vs] } }) :
    wpAny (model X.prog X.w) X.A (eval (.Slice none none (some (.UnaryOp .USub (.Constant (.int 1) k p1) p2)) p3) X.env) (fun sl s' => wpAny (model X.prog X.w) X.A (subscriptTail e (.Slice none none (some (.UnaryOp .USub (.Constant (.int 1) k p1) p2)) p3) v sl) Q' X.xe s') X.xe s1 := by
  have stepP : PO X (some (.UnaryOp .USub (.Constant (.int 1) k p1) p2)) (tPart (tUn (rU fun i => .int (-i)) (tC (.int 1)))) := po_some (pe_un un_neg pe_int)
  apply wpAny_Slice
  apply thn (po_none.run pins s1 σ H1 (fun o G => o = none ∧ G = H1) I1 ⟨rfl, rfl⟩)
  rintro vl s2 ⟨l, H2, I2, pl, rfl, rfl⟩
  apply thn (po_none.run pins s2 σ _ (fun o G => o = none ∧ G = H2) I2 ⟨rfl, rfl⟩)
  rintro vu s3 ⟨u, H3, I3, pu, rfl, rfl⟩
  apply thn (stepP.run pins s3 σ _ (fun o G => o = some (-1) ∧ G = H3) I3 ⟨1, rfl, -1, rfl, rfl, rfl⟩)
  rintro vs s4 ⟨o, H4, I4, ps, rfl, rfl⟩
  cases pl
  cases pu
  exact q s4 vs I4 ps
theorem pe_revT (he : PE X e te) : PE X (.Subscript e (.Slice none none (some (.UnaryOp .USub (.Constant (.int 1) k p1) p2)) p3) pos) (tRevT te) := by
  constructor
  intro pins s σ H Q I want
  apply Subscript_
  apply thn (he.run pins s σ H _ I want)
  rintro v s1 ⟨v', H1, I1, r1, z, rfl, hz, q⟩
  obtain ⟨t, rfl⟩ := r1
  refine back_open I1 fun s4 vs I4 ps => ?_
  have I5 : Inv X pins σ H1 { s4 with heap := s4.heap.push { cls := .type "slice", data := .fields #[.none, .none, vs] } } := I4.kept (t' := s4.toks) fun b ob z => Heap.get?_push_of_some _ z
  obtain ⟨st, rfl, es⟩ := IsPart.raw ps
  refine tail_any (ops := [.str z t, .ref s4.heap.objs.size]) (typeIs_str _ _ _) slot_str_getitem.lookup ?_ (by with_unfolding_all rfl)
  refine wpAny_getItem_str_slice (l := none) (u := none) (st := st) (Heap.IsSliceOf.new _ _ _ _) (by rw [es]; decide) ?_
  cases st with
  | none => cases es
  | some q1 =>
  obtain ⟨i, tk⟩ := q1
  obtain rfl : i = -1 := Option.some.inj es
  have hp : slicePicked z none none (some (-1, tk)) = (List.range z.length).reverse := by
    show PySem.sliceRange ((z.length : Int) - 1) (-1) (-1) = _
    rw [PySem.W.krv_sliceRange, PySem.W.krv_range]
  unfold sliceMade
  rw [hp, if_neg (by simp)]
  have le : (⟨(((List.range z.length).reverse).filterMap (z.cps[·]?)).toArray⟩ : Str).length ≤ z.length := by
    show (((List.range z.length).reverse).filterMap (z.cps[·]?)).toArray.size ≤ _
    rw [List.size_toArray]
    refine Nat.le_trans (List.length_filterMap_le _ _) ?_
    rw [List.length_reverse, List.length_range]
    exact Nat.le_refl _
  refine ⟨Nat.le_trans le (Nat.le_trans hz (by decide)), .str _, _, I5.tok _, ⟨_, rfl⟩, q _ le fun c hc => ?_⟩
  obtain ⟨j, _, ej⟩ := List.mem_filterMap.mp hc
  have := Array.mem_of_getElem? ej
  simpa using this
theorem pe_revL (he : PE X e te) : PE X (.Subscript e (.Slice none none (some (.UnaryOp .USub (.Constant (.int 1) k p1) p2)) p3) pos) (tRevL X.K te) := by
  constructor
  intro pins s σ H Q I want
  apply Subscript_
  apply thn (he.run pins s σ H _ I want)
  rintro v s1 ⟨v', H1, I1, r1, a, xs, rfl, hx, q⟩
  cases r1
  refine back_open I1 fun s4 vs I4 ps => ?_
  have I5 : Inv X pins σ H1 { s4 with heap := s4.heap.push { cls := .type "slice", data := .fields #[.none, .none, vs] } } := I4.kept (t' := s4.toks) fun b ob z => Heap.get?_push_of_some _ z
  obtain ⟨its, r, ht, hz⟩ := I5.list hx
  refine tail_any (ops := [.ref a, .ref s4.heap.objs.size]) ht.isList.typeIs slot_list_getitem.lookup ?_ (by with_unfolding_all rfl)
  refine wpAny_getItem_list_slice ht.isList (Heap.IsSliceOf.new _ _ _ _) .none .none ps (by decide) ?_ (by rw [List.size_toArray, ← r.length]; exact hz)
  rw [PySem.W.krv_pick]
  refine ⟨.ref _, _, I5.laid (t' := s4.toks) (o := .lst xs.reverse) (fun b ob z => Heap.get?_push_of_some _ z) (Nat.le_refl _) ?_, rfl, q _ _ (.mk' (I5.hok.fresh (Nat.le_refl _)))⟩
  exact ⟨by rw [List.length_reverse]; exact hz, _, 0, r.reverse, Heap.get?_push_size _ rfl⟩
end
end My
end
section
set_option Elab.async false
set_option linter.all false
set_option maxRecDepth 100000
set_option maxHeartbeats 4000000
/-! Ydigs: _digits. -/
namespace My
open PySem PySem.Spec PyProof.Rows L2
abbrev s_digs : Stmt := topS 27
/-- the digits of a number, the highest first -/
structure IsDig (b m : Nat) (l : List Nat) : Prop where
  ex : ∃ i, i ≤ 128 ∧ (∀ j < i, b ^ j ≤ m) ∧ m < b ^ i ∧ l = low b m i
theorem IsDig.len {b m : Nat} {l : List Nat} (h : IsDig b m l) : l.length ≤ 128 := by
  obtain ⟨i, h1, _, _, rfl⟩ := h.ex
  rw [low_len]
  exact h1
theorem IsDig.lt {b m : Nat} {l : List Nat} (h : IsDig b m l) (hb : 0 < b) : ∀ d ∈ l, d < b := by
  obtain ⟨i, h1, _, _, rfl⟩ := h.ex
  exact low_lt hb i
theorem IsDig.row {S : Str} {m : Nat} {l : List Nat} (h : IsDig S.length m l) : IsRow S m (l.map (sgAt S)) := by
  obtain ⟨i, h1, h2, h3, rfl⟩ := h.ex
  exact ⟨i, h1, h2, h3, rfl⟩
def sp_digs (C : Addr) : Sp := fun vs H Q _ => ∃ (fa : Addr) (S : Str) (ps : List (Nat × Nat)) (m : Nat), vs = [.ref fa, .int m] ∧ FontAt H C fa S ps ∧ 2 ≤ S.length ∧ S.length ≤ 10 ∧ m ≤ 10 ^ 31 ∧
  ∀ H' r l, Same H H' → H' r = some (.lst (digL l)) → IsDig S.length m l → Q (.ref r) H'
section
variable {P : Program} {w : World} {K : PySem.W.Frag} {mg : Str → Option Value} {base : Heap}
abbrev NDg : List Str := ["font", "number", "digits", "left"]
theorem sc_digs : FnScope NDg ["font", "number"] (defScope s_digs) := ⟨rfl, rfl, rfl, by decide +kernel, rfl, by decide +kernel, by decide +kernel⟩
theorem ok_digs {f C : Addr} {fd : FuncData} (F : Fun K "_digits" "_digits" s_digs f fd) (T : TB mg) (L : LenC P w K mg base C) : FnOk P w K mg base CX0 3 f fd ["font", "number"] (sp_digs C) := by
  obtain ⟨fl, fdl, OL, GL, bL⟩ := L.ex
  refine F.ok sc_digs (fun vs H Q E h => ?_) (fun cdv A outer s H vs Q E hr h => ?_)
  · obtain ⟨fa, S, ps, m, rfl, _⟩ := h
    rfl
  · obtain ⟨fa, S, ps, m, rfl, hF, S2, S10, hm, k⟩ := h
    have r2 : Room 2 _ := hr.mono (by decide)
    have CL := call_lenF (X := (cxOf CX0 P w K mg base NDg "_digits" (defScope s_digs) f cdv A outer s H E).nox) OL GL bL r2
    refine ⟨_, pss_cons (ps_set (i := 2) sc_digs.nd rfl (Or.inl rfl) (pe_lst' pa_nil))
      (pss_cons (ps_set (i := 3) sc_digs.nd rfl (Or.inl rfl) (pv 1))
      (pss_cons (ps_while PassesOwn.never (pt_cmpR op_gt (pv 3) pe_int (nomark _))
        (pss_cons (ps_expr (pe_bm PySem.F.plainAttrs_list PySem.F.slot_list_append PySem.F.type_list_append mt_append' (pv 2) (pa_cons (pe_op op_modN (pv 3) (pe_callB CL (by rfl) T.len PySem.boot_len (pa_cons (pv 0) pa_nil))) pa_nil)))
        (pss_one (ps_set (i := 3) sc_digs.nd rfl (Or.inl rfl) (pe_op op_fdivW (pv 3) (pe_callB CL (by rfl) T.len PySem.boot_len (pa_cons (pv 0) pa_nil)))))))
      (pss_one (ps_ret (My.pe_revL (pv 2)))))), ?_⟩
    have S4 : S.length ≤ 4000 := by omega
    refine ⟨by show 0 ≤ sizeLine; decide, fun r H1 n1 => ⟨_, rfl, ?_⟩⟩
    have hr0 : H r = none := n1.free
    refine while_by (fun σ H' => ∃ (i : Nat), σ = [some (.ref fa), some (.int m), some (.ref r), some (.int ((m / S.length ^ i : Nat) : Int))] ∧ Same H H' ∧ H' r = some (.lst (digL (low S.length m i).reverse)) ∧ ∀ j < i, S.length ^ j ≤ m)
      (fun σ _ => match σ with | [_, _, _, some (.int p)] => p.toNat | _ => 0)
      ⟨0, by rw [Nat.pow_zero, Nat.div_one]; rfl, n1.same, n1.here, fun j hj => by omega⟩ ?_ ?_
    · rintro σ H3 ⟨i, rfl, s3, h3, hj⟩
      refine ⟨_, rfl, _, _, rfl, rfl, _, rfl, ite2 (fun hc => ?_) (fun hc => ?_)⟩
      · have hpos : 0 < m / S.length ^ i := by
          have := of_decide_eq_true hc
          omega
        have pp : 0 < S.length ^ i := Nat.pow_pos (by omega)
        have hle : S.length ^ i ≤ m := by
          rcases Nat.lt_or_ge m (S.length ^ i) with h | h
          · rw [Nat.div_eq_of_lt h] at hpos; omega
          · exact h
        have i128 : i < 128 := by
          rcases Nat.lt_or_ge i 128 with h | h
          · exact h
          · have := pow_big S2 h
            omega
        refine ⟨_, rfl, .inl ⟨rfl, _, SqL.of h3⟩, _, rfl, _, rfl, fa, S, ps, rfl, hF.same s3, S4, _, _, rfl, rfl, by omega, r, _, _, rfl, rfl, h3, ?_, fun H4 w4 => ?_⟩
        · rw [List.length_map, List.length_reverse, low_len]
          exact Nat.lt_of_lt_of_le (show i < 1000 by omega) (by decide)
        have s4 : Same H H4 := Same.wr s3 hr0 w4
        have h4 : H4 r = some (.lst (digL (low S.length m i).reverse ++ [V.int (((m / S.length ^ i : Nat) : Int).fmod (S.length : Int))])) := w4.here
        rw [nat_fmod] at h4
        refine ⟨_, rfl, _, rfl, fa, S, ps, rfl, hF.same s4, S4, _, _, rfl, rfl, wide_div (by omega) (b := 200) (nat200 (Nat.le_trans S10 (by decide))) (by decide) (by decide), ?_⟩
        have eD : ((m / S.length ^ i : Nat) : Int) / (S.length : Int) = ((m / S.length ^ (i + 1) : Nat) : Int) := by
          rw [← Int.natCast_ediv, Nat.div_div_eq_div_mul, ← Nat.pow_succ]
        dsimp only
        rw [eD]
        refine ⟨⟨i + 1, rfl, s4, ?_, fun j hj' => ?_⟩, ?_⟩
        · rw [h4]
          show _ = some (HO.lst (List.map _ (List.reverse (_ :: low S.length m i))))
          rw [List.reverse_cons, List.map_append]
          rfl
        · rcases Nat.lt_or_ge j i with h | h
          · exact hj j h
          · have : j = i := by omega
            rw [this]
            exact hle
        · show (((m / S.length ^ (i + 1) : Nat) : Int)).toNat < (((m / S.length ^ i : Nat) : Int)).toNat
          rw [Int.toNat_natCast, Int.toNat_natCast, Nat.pow_succ, ← Nat.div_div_eq_div_mul]
          exact Nat.div_lt_self hpos (by omega)
      · have h0 : m / S.length ^ i = 0 := by
          have h9 : ¬ (((m / S.length ^ i : Nat) : Int) > 0) := of_decide_eq_false (Bool.eq_false_iff.mpr hc)
          generalize m / S.length ^ i = q at h9 ⊢
          omega
        have pp : 0 < S.length ^ i := Nat.pow_pos (by omega)
        have hlt : m < S.length ^ i := by
          rcases Nat.lt_or_ge m (S.length ^ i) with h | h
          · exact h
          · have := Nat.div_pos h pp
            omega
        have i128 : i ≤ 128 := by
          rcases Nat.lt_or_ge 128 i with h | h
          · have h1 := hj 128 h
            have := pow_big S2 (Nat.le_refl 128)
            omega
          · exact h
        refine ⟨_, rfl, r, _, rfl, SqL.of h3, fun q H4 n4 => k H4 q (low S.length m i) (s3.trans n4.same) ?_ ⟨i, i128, hj, hlt, rfl⟩⟩
        rw [n4.here]
        unfold digL
        rw [← List.map_reverse, List.reverse_reverse]
    · intro σ H Q Q' mo h
      obtain ⟨v, e, i, j, e3, e4, b, e5, q⟩ := h
      exact ⟨v, e, i, j, e3, e4, b, e5, mo _ _ q⟩
end
end My
end
section
set_option Elab.async false
set_option linter.all false
set_option maxRecDepth 100000
set_option maxHeartbeats 4000000
/-! Ywrit: written (all valid). -/
namespace My
open PySem PySem.Spec PyProof.Rows L2
abbrev s_writ : Stmt := topS 24
def sp_writ (C : Addr) : Sp := fun vs H Q _ => ∃ (fa : Addr) (S : Str) (ps : List (Nat × Nat)) (m : Nat), vs = [.ref fa, .int (m + 1 : Nat)] ∧ FontAt H C fa S ps ∧ 2 ≤ S.length ∧ S.length ≤ 10 ∧ m + 1 ≤ 10 ^ 30 ∧
  ∀ H' l, Same H H' → IsRow S (m + 1) l → Q (.str (mkS l)) H'
section
variable {P : Program} {w : World} {K : PySem.W.Frag} {mg : Str → Option Value} {base : Heap}
abbrev NWr : List Str := ["font", "number", "digit"]
theorem sc_writ : FnScope NWr ["font", "number"] (defScope s_writ) := ⟨rfl, rfl, rfl, by decide +kernel, rfl, by decide +kernel, by decide +kernel⟩
theorem ok_writ {f fK fD C : Addr} {fd fdK fdD : FuncData} (F : Fun K "written" "written" s_writ f fd) (sg_ : SgnC P w K mg base C)
    (DK : Def K mg "_check_first" fK fdK ["number"]) (GK : FnOk P w K mg base CX0 3 fK fdK ["number"] sp_chk1) (DD : Def K mg "_digits" fD fdD ["font", "number"]) (GD : FnOk P w K mg base CX0 3 fD fdD ["font", "number"] (sp_digs C)) :
    FnOk P w K mg base CX0 4 f fd ["font", "number"] (sp_writ C) := by
  obtain ⟨p1, g1, fd1, hp1, G1, b1⟩ := sg_.ex
  refine F.ok sc_writ (fun vs H Q E h => ?_) (fun cdv A outer s H vs Q E hr h => ?_)
  · obtain ⟨fa, S, ps, m, rfl, _⟩ := h
    rfl
  · obtain ⟨fa, S, ps, m, rfl, hF, S2, S10, hm, k⟩ := h
    have r3 : Room 3 _ := hr.mono (by decide)
    refine ⟨_, pss_cons (ps_expr (pe_call GK r3 rfl DK.mgf DK.kp DK.bd .nil pass0 (pa_cons (pv 1) pa_nil)))
      (pss_one (ps_ret (pe_join pe_str (by exact (pe_lc (own := [("digit", 2)]) (g := gName 2) (tt := tYes) rfl sc_writ.nd (pi_list (pe_call GD r3 rfl DD.mgf DD.kp DD.bd .nil pass0 (pa_cons (pv 0) (pa_cons (pv 1) pa_nil)))) (blkOk_by (own := [("digit", 2)]) (N := NWr) (sc := defScope s_writ) (by decide +kernel))
        (fun _ _ _ _ _ => pg_name (i := 2) sc_writ.nd rfl (Or.inl rfl)) (fun _ _ _ _ _ => pts_nil) (fun _ _ _ _ _ => pe_ix ix_str (pe_prop (E := E0) (pv 0) sg_.cls hp1 G1 r3 b1 .nil pass0 rfl) (pv 2) (fun _ _ => rfl))))))), ?_⟩
    refine ⟨_, rfl, m, rfl, hm, ?_⟩
    refine ⟨⟨_, rfl⟩, _, rfl, _, rfl, fa, S, ps, m + 1, rfl, hF, S2, S10, Nat.le_trans hm (by decide), fun H1 r l s1 h1 hl => ?_⟩
    refine ⟨r, rfl, ⟨_, SqL.of h1⟩, fun D hD => ?_⟩
    have lS : ∀ d ∈ l, d < S.length := hl.lt (by omega)
    have small : (digL l).length < sizeLine := by
      rw [List.length_map]
      exact Nat.lt_of_le_of_lt hl.len (by decide)
    refine lc_ff walk_list (fun _ => true) (fun x => match x with | .int z => sg (sgAt S z.toNat) | _ => x) hD (fun H' sm => SqL.of (sm _ _ h1)) small (fun x => rfl) (fun x H' C _ _ h => h _ (Same.refl _)) ?_ ?_
    · intro x H' C' hx _ s2 hC
      obtain ⟨d, hd, rfl⟩ := List.mem_map.mp hx
      have dS := lS d hd
      have hF2 := hF.same (s1.trans s2)
      obtain ⟨dx, rr, ys, i1, i2, i3⟩ := id hF2.at_
      refine ⟨_, rfl, fa, dx, _, rfl, i1, ⟨fa, dx, _, _, rfl, i1, fs_signs S rr, ?_⟩⟩
      refine ⟨_, rfl, S, _, _, rfl, rfl, Nat.le_trans S10 (by decide), atI_nat (sgAt_at dS), ?_⟩
      have h9 := hC H' (Same.refl _)
      exact h9
    · intro H2 s2 h2
      rw [pv_filter_true, List.map_map] at h2
      have e : List.map ((fun x => match x with | .int z => sg (sgAt S z.toNat) | _ => x) ∘ fun d : Nat => V.int (d : Int)) l = ((l.map (sgAt S)).map fun c => (⟨#[c]⟩ : Str)).map V.str := by
        rw [List.map_map, List.map_map]
        rfl
      rw [e] at h2
      refine ⟨_, D, _, rfl, rfl, .inl (SqL.of h2), ?_, ?_⟩
      · rw [sum_ones]
        have e0 : (PySem.Str.ofString "").length = 0 := by decide
        rw [e0, Nat.mul_zero, Nat.add_zero, List.length_map]
        exact Nat.le_trans hl.len (by decide)
      · rw [join_sg]
        exact k H2 _ (s1.trans s2) hl.row
end
end My
end
section
set_option Elab.async false
set_option linter.all false
set_option maxRecDepth 100000
set_option maxHeartbeats 4000000
/-! Nwritx: written of what is no number; _law_is_in of any value. -/
namespace My
open PySem PySem.Spec PyProof.Rows L2
def sp_chk1X (K : PySem.W.Frag) (IN : Addr) : Sp := fun vs H _ E => ∃ (v : V) (d : PyData), vs = [v] ∧ KnD K H v d ∧ numD 1 (some big30) d = false ∧ Err E IN v H
def sp_writX (K : PySem.W.Frag) (IN : Addr) : Sp := fun vs H _ E => ∃ (x v : V) (d : PyData), vs = [x, v] ∧ KnD K H v d ∧ numD 1 (some big30) d = false ∧ Err E IN v H
abbrev s_lisinK : Stmt := topS 39
def sp_lisinK (K : PySem.W.Frag) : Sp := fun vs H Q _ => ∃ (v : V) (d : PyData) (lo hi : Int), vs = [v, .int lo, .int hi] ∧ KnD K H v d ∧ Q (.bl (numD lo (some hi) d)) H
section
variable {P : Program} {w : World} {K : PySem.W.Frag} {mg : Str → Option Value} {base : Heap}
theorem ok_chk1X {f fN IN fI : Addr} {fd fdN : FuncData} {tG : Tok} (F : Fun K "_check_first" "_check_first" s_chk1 f fd) (gG : mg "GREATEST" = some (.int 1000000000000000000000000000000 tG))
    (D : Def K mg "is_number" fN fdN ["value", "least", "greatest"]) (G : FnOk P w K mg base CX0 2 fN fdN ["value", "least", "greatest"] (sp_isNumK K)) (TE : VErr K mg "InvalidNumber" "InvalidNumber.__init__" IN fI) :
    FnOk P w K mg base (L2.CX P w) 3 f fd ["number"] (sp_chk1X K IN) := by
  refine F.okX sc_chk1 (fun vs H Q E h => ?_) (fun cdv A outer s H vs Q E hr h => ?_)
  · obtain ⟨v, d, rfl, _⟩ := h
    rfl
  · obtain ⟨v, d, rfl, hd, hn, k⟩ := h
    refine ⟨_, pss_one (ps_if (pt_not (pt_val (pe_call (E := E0) G hr rfl D.mgf D.kp D.bd .nil pass0 (pa_cons (pv 0) (pa_cons pe_int (pa_cons (pe_glob (v := .int 1000000000000000000000000000000) rfl gG ⟨_, rfl⟩) pa_nil)))))) (pss_one (ps_raiseErr rfl TE fld_value hr (show 1 ≤ 2 by decide) (takes_of rfl rfl rfl rfl) (by exact (pa_cons (pv 0) pa_nil)) rfl)) pss_nil), ?_⟩
    refine ⟨_, rfl, _, d, 1, some big30, rfl, hd, _, rfl, ?_⟩
    rw [hn]
    refine iteT ⟨_, rfl, _, rfl, fun dd fd => ?_⟩
    exact k _ dd (fun b o e => by rw [upd_ne (ne_of_none e fd)]; exact e) fd upd_same
theorem ok_writX {f fK IN : Addr} {fd fdK : FuncData} (F : Fun K "written" "written" s_writ f fd)
    (DK : Def K mg "_check_first" fK fdK ["number"]) (GK : FnOk P w K mg base (L2.CX P w) 3 fK fdK ["number"] (sp_chk1X K IN)) :
    FnOk P w K mg base (L2.CX P w) 4 f fd ["font", "number"] (sp_writX K IN) := by
  refine F.okX sc_writ (fun vs H Q E h => ?_) (fun cdv A outer s H vs Q E hr h => ?_)
  · obtain ⟨x, v, d, rfl, _⟩ := h
    rfl
  · obtain ⟨x, v, d, rfl, hd, hn, k⟩ := h
    have r3 : Room 3 _ := hr.mono (by decide)
    refine ⟨_, pss_cons (ps_expr (pe_call (E := E) GK r3 rfl DK.mgf DK.kp DK.bd .nil (passes_call (takes_of rfl rfl rfl rfl) (fun _ _ _ _ h => h)) (pa_cons (pv 1) pa_nil)))
      (pss_one ps_never), ?_⟩
    exact ⟨_, rfl, v, d, rfl, hd, hn, k⟩
theorem sc_lisinK : FnScope ["_law_thing", "_law_low", "_law_high"] ["_law_thing", "_law_low", "_law_high"] (defScope s_lisinK) := ⟨rfl, rfl, rfl, by decide +kernel, rfl, by decide +kernel, by decide +kernel⟩
theorem ok_lisinK {f : Addr} {fd : FuncData} (F : Fun K "_law_is_in" "_law_is_in" s_lisinK f fd) (T : TB mg) (tb : mg "bool" = none) : FnOk P w K mg base CX0 1 f fd ["_law_thing", "_law_low", "_law_high"] (sp_lisinK K) := by
  refine F.ok sc_lisinK (fun vs H Q E h => ?_) (fun cdv A outer s H vs Q E hr h => ?_)
  · obtain ⟨v, d, lo, hi, rfl, _⟩ := h
    rfl
  · obtain ⟨v, d, lo, hi, rfl, hd, k⟩ := h
    refine ⟨_, pss_one (ps_ret (pe_and (pe_callB call_isi (by rfl) T.isi (by decide +kernel) (pa_cons (pv 0) (pa_cons (pe_bltn (v := .ty "int") (by rfl) T.int (by decide +kernel) rfl) pa_nil)))
      (pe_and (pe_not (pe_callB call_isi (by rfl) T.isi (by decide +kernel) (pa_cons (pv 0) (pa_cons (pe_bltn (v := .ty "bool") (by rfl) tb (by decide +kernel) rfl) pa_nil))))
      (pe_one (pe_chain op_le op_le (pv 1) (pv 0) (pv 2)))))), ?_⟩
    have ht := hd.ty
    refine ⟨_, rfl, _, _, _, _, _, rfl, .ty "int", hd.ty, kit_int d, _, rfl, ?_⟩
    cases d with
    | int i =>
      obtain rfl := hd.int_ i rfl
      refine iteT ⟨_, rfl, _, _, _, _, _, rfl, .ty "bool", ht, kit_bool _, _, rfl, ?_⟩
      refine ⟨true, rfl, iteT ?_⟩
      have k : Q (.bl (decide (lo ≤ i) && decide (i ≤ hi))) H := k
      refine ⟨_, rfl, _, rfl, _, _, rfl, rfl, _, rfl, ?_⟩
      by_cases q : lo ≤ i
      · rw [decide_eq_true q, Bool.true_and] at k
        rw [decide_eq_true q]
        exact iteT ⟨_, rfl, _, _, rfl, rfl, k⟩
      · rw [decide_eq_false q, Bool.false_and] at k
        rw [decide_eq_false q]
        exact iteF k
    | bool b =>
      refine iteT ⟨_, rfl, _, _, _, _, _, rfl, .ty "bool", ht, kit_bool _, _, rfl, ?_⟩
      exact ⟨false, rfl, iteF k⟩
    | _ => exact iteF k
end
end My
end
section
set_option Elab.async false
set_option linter.all false
set_option maxRecDepth 100000
set_option maxHeartbeats 4000000
namespace My
open PySem PySem.Spec PySem.Calls PyProof.Rows L2
open PySem.W (Frag kitOne Looks)
/-! ### isinstance(e, c), c above the class of an error that a suite holds -/
theorem ans_up {K : Frag} {x t c : Value} {H : Heap → Prop} (ty : ∀ (M : Model) (h : Heap), K.In h → H h → Looks M h (typeOf x) t) (ne : (t == c) = false) (e : kitOne K t c = some true) :
    Answers (fun s => K.In s.heap ∧ H s.heap) x c true := by
  intro dep tk prog w A R s hs
  obtain ⟨h0, g, d, tt, os⟩ := s
  obtain ⟨⟨X, p⟩, hq⟩ := hs
  have isT := ty (model prog w) h0 X p
  unfold PySem.W.kitOne at e
  unfold Builtin.«isinstance.nested»
  refine wpAny_bind (isT.at ?_)
  have q : ¬ (t == c) = true := by
    rw [ne]
    exact Bool.false_ne_true
  rw [if_neg q] at e
  rw [if_neg q]
  obtain ⟨cT, cI, up⟩ := PySem.W.kit_cls (M := model prog w) X e
  have inst : Looks (model prog w) h0 (isInstance x c) true := isT.andThen up
  refine wpAny_bind (cT.at ?_)
  rw [if_pos (by decide)]
  k_delta "plainIsInstance"
  refine wpAny_bind (wpAny_bind (cI.at ?_))
  simp only [Bool.not_true, Bool.false_eq_true, if_false]
  refine wpAny_bind (inst.at ?_)
  first
    | exact wpAny_pure (wpAny_pure (hq tt))
    | (simp only [if_true]
       first
         | exact wpAny_pure (wpAny_pure (hq tt))
         | exact wpAny_pure (hq tt)
         | exact wpAny_bind (wpAny_pure (wpAny_pure (hq tt))))
/-- isinstance(e, c), e the error that the suite holds, of the class at cls, c above it -/
def rIsUp (K : Frag) (a : Addr) (cls : Value) : List V → Hp → VK → Prop := fun xs H Q => ∃ (c : V) (cv : Value), xs = [.ref a, c] ∧ (∀ u, RelV c u → u = cv) ∧ kitOne K cls cv = some true ∧ (cls == cv) = false ∧ Q (.bl true) H
theorem call_isUp {X : Cx} {a : Addr} {oe : Obj} {cls : Value} {d : Option Addr} {pn : List (Addr × Obj)} (hz : Zc cls d oe) : CallR (X.suite a ((a, oe) :: pn)) (.builtin "isinstance") (rIsUp X.K a cls) := by
  intro pins s σ H xs us Q I r h
  obtain ⟨c, cv, rfl, hcv, e, ne, q⟩ := h
  obtain ⟨u1, u2, rfl, rx, rt⟩ := vals2 r
  obtain rfl : u1 = Value.ref a := rx
  obtain rfl := hcv _ rt
  obtain ⟨here, _⟩ := I.pin (a, oe) (List.mem_append.mpr (.inl List.mem_cons_self))
  have ty : ∀ (M : Model) (h : Heap), X.K.In h → h.get? a = some oe → Looks M h (typeOf (.ref a)) cls := fun M h _ g => hz.1 ▸ (PySem.W.Looks.ld g).andThen .now
  exact call_isinstance (S := fun _ R s => (X.K.In s.heap ∧ s.heap.get? a = some oe) ∧ ∀ tk, R (.ok (.ret (.bool true))) { s with toks := tk })
    (fun prog w A R s hs => isinstance_outer (ans_up (H := fun h => h.get? a = some oe) ty ne e 0 _ prog w A R s hs) (fun z => nomatch z)) ⟨⟨I.kIn, here⟩, fun tk => ⟨.bl true, H, I.kept (t' := tk) fun _ _ z => z, rfl, q⟩⟩
end My
end
section
set_option Elab.async false
set_option linter.all false
set_option maxRecDepth 100000
set_option maxHeartbeats 4000000
/-! Xkeep: an exception that stays in a name behind its except clause; a lambda that stays in a name. Both are objects that no heap tracks: they are pinned from then on. -/
namespace My
open PySem PySem.Spec PySem.Calls PyProof.Rows L2 LamX
open PySem.W (Frag kitOne Looks)
section
variable {X : Cx} {pins : List (Addr × Obj)} {σ : L2.St} {H : Hp} {s : Shared}
/-- X with these pins -/
abbrev Cx.kp (X : Cx) (pn : List (Addr × Obj)) : Cx := X.tr pn X.xe
theorem inv_pin {f : Addr} {o : Obj} (J : Inv X pins σ H s) (there : s.heap.get? f = some o) (free : H f = none) (n1 : f ≠ X.env.locals) (n2 : f ∉ X.fs) (nc : ∀ v, o.data ≠ .cell v) : Inv (Cx.kp X ((f, o) :: (X.pn ++ pins))) [] σ H s where
  ok := J.ok.toTry _ _
  os := J.os
  bare := J.bare
  base := J.base
  loc := J.loc
  cell := J.cell
  free := J.free
  freeC := J.freeC
  pin := by
    intro p hp
    rw [List.append_nil] at hp
    cases List.mem_cons.mp hp with
    | inl e => subst e; exact ⟨there, free, n1, n2, nc⟩
    | inr h => exact J.pin p h
  hok := J.hok
  len := J.len
theorem inv_unpin {q : Addr × Obj} {r : List (Addr × Obj)} (J : Inv (Cx.kp X (q :: (X.pn ++ pins))) r σ H s) (ok : X.Ok) : Inv X pins σ H s where
  ok := ok
  os := J.os
  bare := J.bare
  base := J.base
  loc := J.loc
  cell := J.cell
  free := J.free
  freeC := J.freeC
  pin := fun p hp => J.pin p (List.mem_append_left _ (List.mem_cons_of_mem _ hp))
  hok := J.hok
  len := J.len
/-- out of an except suite, its exception still pinned -/
theorem inv_outSuite {a : Addr} {q : Addr × Obj} {r : List (Addr × Obj)} (J : Inv (X.suite a (q :: (X.pn ++ pins))) r σ H s) (ok : X.Ok) : Inv (Cx.kp X (q :: (X.pn ++ pins))) [] σ H s where
  ok := ok.toTry _ _
  os := J.os
  bare := J.bare
  base := J.base
  loc := J.loc
  cell := J.cell
  free := J.free
  freeC := J.freeC
  pin := fun p hp => J.pin p (List.mem_append_left _ (by rw [List.append_nil] at hp; exact hp))
  hok := J.hok
  len := J.len
theorem sp_unpin {q : Addr × Obj} {D : Ends} {fl : Flow} (ok : X.Ok) (h : SP (Cx.kp X (q :: (X.pn ++ pins))) [] D fl s) : SP X pins D fl s := by
  cases fl with
  | ret u => obtain ⟨v, σ1, H1, J, z⟩ := h; exact ⟨v, σ1, H1, inv_unpin J ok, z⟩
  | next => obtain ⟨σ1, H1, J, z⟩ := h; exact ⟨σ1, H1, inv_unpin J ok, z⟩
  | brk => obtain ⟨σ1, H1, J, z⟩ := h; exact ⟨σ1, H1, inv_unpin J ok, z⟩
  | cont => obtain ⟨σ1, H1, J, z⟩ := h; exact ⟨σ1, H1, inv_unpin J ok, z⟩
end
/-! ### name = lambda: .. -/
section
variable {X : Cx}
abbrev lamO (X : Cx) (params : Arguments) (body : Expr) (scope : Scope) (pm ctv : Value) (c' : Addr) : Obj := PySem.W.kla_obj "<lambda>" (X.env.qual ++ "<lambda>") params body scope (cloFrom X.env.cells scope.names []) pm c' ctv
theorem pss_lamset {T : List (Addr × Str)} {c P : Addr} {x : Str} {i : Nat} {params : Arguments} {body : Expr} {scope : Scope} {px lpos pos : Pos} {rest : List Stmt} {u : Addr → Addr → TS} (hs : X.stack = X.env :: X.outer) (hf : X.env.frame = some X.env.locals)
    (hN : X.N.Nodup) (hi : X.N[i]? = some x) (hx : Loc X.env.scope x) (TB : TabB X.base X.mg c P) (hcode : X.env.code = .ref c) (hmT : (P, X.env.qual ++ "<lambda>") ∈ T) (hu : ∀ p ∈ T, p.1 = P → p.2 = X.env.qual ++ "<lambda>")
    (L : LamS X.env.scope scope) (hdef : defaultsOf params X.env = ([], []))
    (hrest : ∀ (f c' : Addr) (pm ctv : Value) (pn : List (Addr × Obj)), PSs (Cx.kp X ((f, lamO X params body scope pm ctv c') :: pn)) rest (u f c'))
    (hsw : swapsWith (.Lambda params body scope lpos) (some (.Name x px)) pos.line X.env = pure false := by rfl) (hfn : X.fn x = true ∨ X.env.scope.names.lookup x = some .local := by first | exact .inl rfl | exact .inr rfl) :
    PSs X (.Assign [.Name x px] (.Lambda params body scope lpos) pos :: rest) (fun D σ H => Tabs T H ∧ ∀ f c' H1, ExtN H H1 → Tabs T H1 → H1 c' = some (CodeO c' (X.env.qual ++ "<lambda>")) → u f c' D (σ.set i (some (.ref f))) H1) := by
  constructor
  intro pins s σ H D I h
  obtain ⟨hT, h⟩ := h
  apply wpAny_execs_cons
  apply wpAny_Assign_Name _ hsw
  refine lam_make2 I TB hcode hmT hu hT hdef (L.has I.ok) ?_
  intro f c' pm ctv H1 s1 I1 eN T1 of1 nf nst hc
  have n2 : f ∉ X.fs := fun z => nst (by rw [hs]; exact (List.mem_filterMap.mpr (by obtain ⟨e, he, q⟩ := List.mem_filterMap.mp z; exact ⟨e, List.mem_cons_of_mem _ he, q⟩)))
  have n1 : f ≠ X.env.locals := fun z => nst (by rw [hs]; exact List.mem_filterMap.mpr ⟨X.env, List.mem_cons_self, by rw [hf, z]⟩)
  have J := inv_pin I1 of1 nf n1 n2 (fun v z => by cases z)
  refine store_ok (X := Cx.kp X ((f, lamO X params body scope pm ctv c') :: (X.pn ++ pins))) (v := .ref f) J hN hi hx rfl (fun s2 J2 => ?_) hfn
  exact wpAny_mono ((hrest f c' pm ctv _).run [] s2 _ H1 D J2 (h f c' H1 eN T1 hc)) (fun fl s3 z => sp_unpin I1.ok z) (fun _ _ z => z)
/-- g(name), the name holds the lambda -/
theorem pe_lamvar {TT : (XK → Hp → VK → Prop) → Hp → VK → Prop} {x a v : Str} {f c' g : Addr} {pm' ctv : Value} {k i : Nat} {pg : Arguments} {bg : List Stmt} {sg : Scope} {dV kV doc pm cdv ct oc : Value} {an od : Option Addr} {osl : Array (Option Value)} {Ng : List Str}
    {params : Arguments} {body : Expr} {scope : Scope} {t : XK → TE} {p vp pos : Pos} (hs : X.stack = X.env :: X.outer) (hp : (f, lamO X params body scope pm' ctv c') ∈ X.pn) (hN : X.N[i]? = some v) (hv : Vis X.env.scope v)
    (hg : Gl X x) (hm : X.mg x = some (.ref g)) (hk : PySem.W.keepIn X.K (.ref g) = true)
    (lk : X.K.lookup g = some ⟨oc, od, .func (PySem.W.fnOf x x pg bg sg dV kV doc pm an cdv ct), osl⟩) (hcg : PySem.W.codeIn X.K cdv x = true) (hb : L2.Binds X.K (PySem.W.fnOf x x pg bg sg dV kV doc pm an cdv ct) [a] []) (Sg : FnScope Ng [a] sg) (hNg : Ng[0]? = some a) (hva : Vis sg a)
    (hG : GivesTo X Ng x sg g cdv bg a (X.env.qual ++ "<lambda>") TT) (hr : Room (k + 2) X.A) (L : LamS X.env.scope scope)
    (hbind : ∀ (q : Str) (cl : List (Str × Addr)) (pm cv ctv : Value), bindArgs (PySem.W.kla_fn "<lambda>" q params body scope cl pm cv ctv) ⟨[], []⟩ = pure [])
    (hbody : ∀ (A : Around) (outer : List Env) (s : Shared) (H : Hp) (E : XK), Room k (A.deeper (lamEnv X scope s.heap.objs.size f c')) → PE (lamCx X A outer s H E scope f c') body (t E))
    (hdx : (x == ("__debug__" : Str)) = false := by decide) (hdv : (v == ("__debug__" : Str)) = false := by decide) (hcv : (v == ("__classdict__" : Str)) = false := by decide) (hda : (a == ("__debug__" : Str)) = false := by decide) (hca : (a == ("__classdict__" : Str)) = false := by decide) :
    PE X (.Call (.Name x p) [.Name v vp] [] pos) (fun σ H Q => σ[i]? = some (some (.ref f)) ∧ H c' = some (CodeO c' (X.env.qual ++ "<lambda>")) ∧ TT (fun E H' Q' => t E σ H' Q') H Q) := by
  constructor
  intro pins s σ H Q I h
  obtain ⟨hσ, hc, hT⟩ := h
  refine wpAny_Call_Name_kw (ld_glob I hg hm ?_ hdx)
  apply PySem.W.callWith_K (h₀ := X.base) I.ok.mod.kin hk _ (by rfl) (by rfl)
  show wpAny _ _ (spliced ((false, eval (.Name v vp) X.env) :: backTo pos (starEach [] X.env))) _ _ s
  apply Calls.spliced_cons
  refine thn ((pe_var (pos := vp) (i := i) hN hv hdv hcv).run pins s σ H (fun y H1 => y = .ref f ∧ H1 = H) I ⟨.ref f, hσ, rfl, rfl⟩) ?_
  rintro u s1 ⟨y, H1, I1, r1, e1, e2⟩
  subst e1
  rw [e2] at I1
  obtain rfl : u = Value.ref f := r1
  apply Calls.spliced_nil
  refine ⟨I1.kIn, ?_⟩
  obtain ⟨of1, nf, n1, n2, _⟩ := I1.pin _ (List.mem_append_left _ hp)
  have nst : f ∉ frs X.stack := by
    rw [hs]
    intro z
    obtain ⟨e, he, q⟩ := List.mem_filterMap.mp z
    cases List.mem_cons.mp he with
    | inl e1 =>
      subst e1
      rcases I1.ok.stk with st | ⟨st, fr⟩
      · have l : X.stack.length = X.outer.length := congrArg List.length st
        rw [hs, List.length_cons] at l
        omega
      · rw [fr] at q
        exact n1 (Option.some.inj q).symm
    | inr h2 => exact n2 (List.mem_filterMap.mpr ⟨e, h2, q⟩)
  have rc : codeAny (model X.prog X.w) X.A (.call (.ref g) ⟨[.ref f], []⟩) (CR C8.CX0 X.stack X.prog X.w H s1 Q C8.E0) s1 := by
    refine run_ofS (N := Ng) (ps := [a]) (us := [.ref f]) (vs := [.ref f]) lk hcg Sg hr I1.env0 (hb s1 [.ref f] I1.kIn rfl) (.cons rfl .nil) rfl (fun hr1 => ?_)
    obtain ⟨tg, ptg, wtg⟩ := hG f c' s1 H Q (fun E H' Q' => t E σ H' Q')
      (fun W pn xe E p1 p2 tk hW => pe_act (i := 0) I1 L of1 nf nst (hbind _ _ _ _ _) tk hW hr1 (fun A outer s H hr2 => hbody A outer s H E hr2) hNg hva hda hca) hc hT
    exact ⟨tg, ptg.nox, wtg⟩
  apply wpAny_call
  refine codeAny_mono rc ?_
  intro r s2 z
  match r, z with
  | .ok (.ret u), z => exact I1.after z
  | .error _, z => exact (show False from z).elim
  | .ok .next, z => exact False.elim z
  | .ok .brk, z => exact False.elim z
  | .ok .cont, z => exact False.elim z
end
/-! ### a pinned error -/
section
variable {X : Cx} {a : Addr} {oe : Obj} {cls : Value} {d : Option Addr}
/-- isinstance(e, c), c above the class of the pinned error e -/
theorem call_isPin (hp : (a, oe) ∈ X.pn) (hz : Zc cls d oe) : CallR X (.builtin "isinstance") (rIsUp X.K a cls) := by
  intro pins s σ H xs us Q I r h
  obtain ⟨c, cv, rfl, same, e, ne, q⟩ := h
  obtain ⟨u1, u2, rfl, rx, rt⟩ := vals2 r
  obtain rfl : u1 = Value.ref a := rx
  obtain rfl := same _ rt
  have here := (I.pin (a, oe) (List.mem_append_left _ hp)).1
  have ty : ∀ (M : Model) (h : Heap), X.K.In h → h.get? a = some oe → Looks M h (typeOf (.ref a)) cls := by
    intro M h _ z
    exact hz.1 ▸ (PySem.W.Looks.ld z).andThen .now
  refine call_isinstance (S := fun _ R s => (X.K.In s.heap ∧ s.heap.get? a = some oe) ∧ ∀ tk, R (.ok (.ret (.bool true))) { s with toks := tk }) ?_ ?_
  · intro prog w A R s hs
    exact isinstance_outer (ans_up (H := fun h => h.get? a = some oe) ty ne e 0 _ prog w A R s hs) (fun z => nomatch z)
  · exact ⟨⟨I.kIn, here⟩, fun tk => ⟨.bl true, H, I.kept (t' := tk) fun _ _ z => z, rfl, q⟩⟩
variable {x f qi : Str} {B newId initId : String} {bmB bm : List Value} {C fI : Addr}
/-- e.f of the pinned error -/
theorem pe_pinF {e : Expr} {te : TE} {pos : Pos} (T : ErrC X.K X.mg x f qi B newId initId bmB bm C fI) (hp : (a, oe) ∈ X.pn) (hz : Zc cls d oe) (hf : ∃ vs, oe.data = .fields vs) (he : PE X e te) (hb : attributeBase e f X.env (eval e X.env) = eval e X.env := by rfl) :
    PE X (.Attribute e f pos) (tErrF C f a cls d te) := by
  constructor
  intro pins s σ H Q I h
  apply attr_of hb
  refine thn (he.run pins s σ H _ I h) ?_
  rintro u s1 ⟨y, H1, I1, ry, ey, ec, dd, v, ed, ea, q⟩
  subst ey
  obtain rfl : u = Value.ref a := ry
  subst ec ed
  have ha := (I1.pin (a, oe) (List.mem_append_left _ hp)).1
  obtain ⟨vs, hd⟩ := hf
  obtain ⟨mA, hns, hr⟩ : ObjOk X.prog X.w H1 s1.heap dd (.xd [(f, v)]) := I1.hok dd _ ea
  obtain ⟨od, ho, hl⟩ := lookIn_ns hns
  have one : List.lookup f [(f, v)] = some v := by simp [List.lookup]
  obtain ⟨u, hu, ru⟩ := RelO.some_of (v := v) (o := mA f) (by rw [← one]; exact hr f)
  have nc : PySem.W.notCls oe := by unfold PySem.W.notCls; rw [hd] <;> rfl
  have J : PySem.W.InstAt s1.heap a oe C (some od) := ⟨ha, hz.1, nc, by rw [hz.2]; exact ho⟩
  refine HandSPX.exc_get I1.kIn J T.ga T.gg T.exC (PySem.W.findObj_own T.hdC T.noN rfl (by rw [hl, hu])) (handed_of ru) ?_
  exact ⟨v, H1, I1.tok _, ru, q⟩
end
end My
namespace My
open PySem PySem.Spec PySem.Calls PyProof.Rows L2 LamX
/-! ### try: body / except C as n: suite, then the rest, which may still see the exception -/
/-- the rest behind the suite -/
abbrev dKeep (i : Nat) (tr : TS) (D : Ends) : Ends := ⟨fun σ H => tr D (σ.set i none) H, D.rt, fun σ H => D.bk (σ.set i none) H, fun σ H => D.ct (σ.set i none) H⟩
def wKeep (K : PySem.W.Frag) (c : Value) (i : Nat) (ts tr : Addr → Value → Option Addr → TS) (Wout : WX) (D : Ends) : WX := fun cls d σ H =>
  ∃ hit : Bool, PySem.W.exmOne K cls c = some hit ∧ (hit = false → Wout cls d σ H) ∧ (hit = true → ∀ a, H a = none → ts a cls d (dKeep i (tr a cls d) D) (σ.set i (some (.ref a))) H)
section
variable {X : Cx} {x n : Str} {c : Value} {i : Nat} {body suite rest : List Stmt} {b₀ : Stmt} {np pos pos' : Pos} {tb : WX → TS} {t0 : TS} {ts tr : Addr → Value → Option Addr → TS} {Wout : WX}
theorem pss_try_keep (st : X.stack = X.env :: X.outer) (fr : X.env.frame = some X.env.locals) (nd : X.N.Nodup) (ni : X.N[i]? = some n) (nl : X.env.kindOf n = some .local) (nm : Names X x c) (tk : Takes X Wout)
    (pb : ∀ (W : WX) (pn : List (Addr × Obj)) (xe : Value → Shared → Prop), Takes (X.tr pn xe) W → PassesOwn (model X.prog X.w) X.A X.env xe → PSs (X.tr pn xe) body (tb W))
    (psu : ∀ (a : Addr) (oe : Obj) (cls : Value) (d : Option Addr) (pn : List (Addr × Obj)), Zc cls d oe → (∃ vs, oe.data = .fields vs) → PSs (X.suite a ((a, oe) :: pn)) (b₀ :: suite) (ts a cls d))
    (p0 : PSs X rest t0)
    (pr : ∀ (a : Addr) (oe : Obj) (cls : Value) (d : Option Addr) (pn : List (Addr × Obj)), Zc cls d oe → (∃ vs, oe.data = .fields vs) → PSs (Cx.kp X ((a, oe) :: pn)) rest (tr a cls d)) :
    PSs X (.Try body [.ExceptHandler (some (.Name x np)) (some n) (b₀ :: suite) pos'] [] [] pos :: rest) (fun D σ H => tb (wKeep X.K c i ts tr Wout D) { D with nx := t0 D } σ H) := by
  constructor
  intro pins s σ H D I h
  have ok := I.ok
  have frm : X.A.frames = some (X.env :: X.outer) := ok.frames.trans (congrArg some st)
  apply wpAny_execs_cons
  generalize hR : (fun (fl : Flow) (s1 : Shared) => match fl with | .next => wpAny (model X.prog X.w) X.A (execs rest X.env) (SP X pins D) X.xe s1 | fl => SP X pins D fl s1) = R
  have Rn : ∀ s1, wpAny (model X.prog X.w) X.A (execs rest X.env) (SP X pins D) X.xe s1 → R .next s1 := fun s1 z => by subst hR; exact z
  have Rr : ∀ u s1, SP X pins D (.ret u) s1 → R (.ret u) s1 := fun u s1 z => by subst hR; exact z
  have Rb : ∀ s1, SP X pins D .brk s1 → R .brk s1 := fun s1 z => by subst hR; exact z
  have Rc : ∀ s1, SP X pins D .cont s1 → R .cont s1 := fun s1 z => by subst hR; exact z
  show wpAny _ _ _ R _ _
  clear hR
  apply wpAny_Try_except
  have cat : Takes (X.tr (X.pn ++ pins) fun e z1 => wpAny (model X.prog X.w) X.A (noteFrame e X.env) (fun _ z2 => wpAny (model X.prog X.w) X.A (setFlight e none) (fun _ z3 =>
      wpAny (model X.prog X.w) X.A (handleBy e X.env [.ExceptHandler (some (.Name x np)) (some n) (b₀ :: suite) pos']) R X.xe z3) X.xe z2) X.xe z1) (wKeep X.K c i ts tr Wout D) := by
    rintro u z0 ⟨a, B, sI, pz, τ, G, cls, d, rfl, J0, nb, up, sky, na, os, ag, hit, hm, miss, take⟩
    have J : Inv X pins τ G sI := J0.ofTry ok
    show wpAny (model X.prog X.w) X.A (noteFrame (.ref a) X.env) _ _ _
    refine Sky.land Zc.steady frm fr (st ▸ sky : Sky B (X.env :: X.outer) a (Zc cls d) X.env.locals z0.heap) (fun h3 f3 u3 => ?_)
    have J3 : Inv X pins τ G { z0 with heap := h3 } := J.landed nb f3.1 (up.trans u3) os ag
    obtain ⟨oe, vs, there, zc, rec⟩ := f3.there
    have away : a ∉ frs (X.env :: X.outer) := fun z => by
      obtain ⟨_, o2, e2, nf⟩ := f3.2.2.1.mem z
      rw [there] at e2
      cases e2
      exact nf _ rec
    have n1 : a ≠ X.env.locals := fun z => away (List.mem_filterMap.mpr ⟨X.env, List.mem_cons_self, by rw [fr, z]⟩)
    have n2 : a ∉ X.fs := fun z => by
      obtain ⟨e, he, q⟩ := List.mem_filterMap.mp z
      exact away (List.mem_filterMap.mpr ⟨e, List.mem_cons_of_mem _ he, q⟩)
    have S3 := J3.suite there rec na n1 n2
    apply wpAny_handleBy_cons (codeAny_handlers_test _) (by intro q; cases q)
    have kind : PySem.W.Looks (model X.prog X.w) h3 (typeOf (.ref a)) cls := by
      intro A Q E s k q
      exact wpAny_typeOf_ref (k _ _ there) (by rw [zc.1]; exact q)
    have mt := PySem.W.exm_one (M := model X.prog X.w) J3.kIn kind hm
    have named : ∀ {Q E : Value → Shared → Prop}, Q c { z0 with heap := h3 } → wpAny (model X.prog X.w) (X.A.mark (some (.ref a))) (eval (.Name x np) X.env) Q E { z0 with heap := h3 } := by
      intro Q E q
      obtain ⟨g1, g2, g3 | ⟨g3, g4, g5⟩⟩ := nm
      · exact ld_glob (X := X.suite a ((a, oe) :: (X.pn ++ pins))) S3 g1 g3 q g2
      · exact ld_blt (X := X.suite a ((a, oe) :: (X.pn ++ pins))) S3 g1 g3 g4 q g5 g2
    refine named (mt.here ?_)
    cases hit with
    | false =>
      show wpAny _ X.A (handleBy (.ref a) X.env []) _ _ _
      apply wpAny_handleBy_nil
      obtain ⟨_, _, _, oe, vs, T, oT, ts', there, zc, rec, atT, _⟩ := id f3
      unfold PySem.passOn
      refine wpAny_bind (wpAny_field there rec atT ?_)
      rw [if_neg (show ¬ ((Value.ref T == Value.none) = true) from by simp)]
      have go : wpAny (model X.prog X.w) X.A (setFlight (.ref a) X.env.frame) (fun _ z4 => wpAny (model X.prog X.w) X.A (throw (.ref a) : Sem Flow) R X.xe z4) X.xe { z0 with heap := h3 } := by
        rw [fr]
        refine HandSPX.setFlight_upZ f3 (fun h4 hh4 u4 => wpAny_throw (tk _ _ ?_))
        exact ⟨a, B, sI, pins, τ, G, cls, d, rfl, J, nb, (up.trans u3).trans u4, .inr (.inr (st ▸ hh4)), na, os, ag, miss rfl⟩
      first
        | exact wpAny_bind (wpAny_pure (wpAny_bind go))
        | exact wpAny_bind go
    | true =>
      apply codeAny_handlers_suite_as
      refine HandSPX.lands_againZ f3 (fun h4 f4 u4 => ?_)
      have J4 : Inv X pins τ G { z0 with heap := h4 } := J.landed nb f4.1 ((up.trans u3).trans u4) os ag
      obtain ⟨oe, vs, there, zc, rec⟩ := f4.there
      have S4 := J4.suite there rec na n1 n2
      refine store_ok (X := X.suite a ((a, oe) :: (X.pn ++ pins))) (v := .ref a) S4 nd ni (.inl nl) rfl (fun s5 S5 => ?_) (.inr nl)
      have run := (psu a oe cls d (X.pn ++ pins) zc ⟨_, rec⟩).run [] s5 _ G _ S5 (take rfl a na)
      refine wpAny_mono run ?_ (fun _ _ z => False.elim z)
      have leave : ∀ {τ6 : L2.St} {G6 : Hp} {s6 : Shared} {Q : Shared → Prop}, Inv (X.suite a ((a, oe) :: (X.pn ++ pins))) [] τ6 G6 s6 → (∀ s7, Inv (Cx.kp X ((a, oe) :: (X.pn ++ pins))) [] (τ6.set i none) G6 s7 → Q s7) →
          wpAny (model X.prog X.w) X.A (do bindName X.env n .none; unbindBehindTheSuite X.env n pos') (fun _ s7 => Q s7) X.xe s6 := by
        intro τ6 G6 s6 Q S6 hq
        exact gone_ok (X := Cx.kp X ((a, oe) :: (X.pn ++ pins))) (inv_outSuite S6 ok) nd ni nl hq
      intro fl s6 hsp
      match fl, hsp with
      | .ret u, ⟨v6, τ6, G6, S6, r6, q6⟩ => exact leave S6 fun s7 J7 => Rr _ _ ⟨_, _, _, inv_unpin J7 ok, r6, q6⟩
      | .brk, ⟨τ6, G6, S6, q6⟩ => exact leave S6 fun s7 J7 => Rb _ ⟨_, _, inv_unpin J7 ok, q6⟩
      | .cont, ⟨τ6, G6, S6, q6⟩ => exact leave S6 fun s7 J7 => Rc _ ⟨_, _, inv_unpin J7 ok, q6⟩
      | .next, ⟨τ6, G6, S6, q6⟩ =>
        refine leave S6 fun s7 J7 => Rn _ ?_
        exact wpAny_mono ((pr a oe cls d (X.pn ++ pins) zc ⟨_, rec⟩).run [] s7 _ G6 D J7 q6) (fun fl8 s8 z => sp_unpin ok z) (fun _ _ z => z)
  refine wpAny_mono ((pb _ _ _ cat PassesOwn.looking).run [] s σ H { D with nx := t0 D } (I.toTry _) h) ?_ (fun e s1 z => z)
  intro fl s1 z
  match fl, z with
  | .next, ⟨τ, G, J, q⟩ =>
    apply wpAny_execs_nil
    exact Rn _ (p0.run pins s1 τ G D (J.ofTry ok) q)
  | .brk, ⟨τ, G, J, q⟩ => exact Rb _ ⟨τ, G, J.ofTry ok, q⟩
  | .cont, ⟨τ, G, J, q⟩ => exact Rc _ ⟨τ, G, J.ofTry ok, q⟩
  | .ret u, ⟨v, τ, G, J, r, q⟩ => exact Rr _ _ ⟨v, τ, G, J.ofTry ok, r, q⟩
end
end My
end
section
set_option Elab.async false
set_option linter.all false
set_option maxRecDepth 100000
set_option maxHeartbeats 4000000
/-! Nrefk: _law_refused, _law_unread: the value of an error in a list, the exception kept. -/
namespace My
open PySem PySem.Spec PyProof.Rows L2 LamX
/-- the error's value in a list -/
def TTkeep (U : Addr) : (XK → Hp → VK → Prop) → Hp → VK → Prop := fun tl H Q =>
  tl (fun cls d H' => cls = .ref U ∧ ∃ (dd : Addr) (v : V), d = some dd ∧ H' dd = some (.xd [("value", v)]) ∧ ∀ p H2, p ≠ sysModules → New H' p (.lst [v]) H2 → Q (.ref p) H2) H (fun _ _ => False)
theorem takes_lenk {X : Cx} {W : WX} (t : Takes X W) : Takes X (fun c d σ H => σ.length = X.N.length → W c d σ H) := fun u s' ⟨a, B, sI, pins, σ, H, cls, d, e, I, nb, up, sky, na, os, ag, w⟩ =>
  t u s' ⟨a, B, sI, pins, σ, H, cls, d, e, I, nb, up, sky, na, os, ag, w I.len⟩
abbrev NKp : List Str := ["_law_call", "_law_caught", "e"]
theorem set3k {σ : L2.St} {x y : Option V} (h : σ.length = 3) : (((σ.set 2 x).set 1 y).set 2 none)[1]? = some y := by
  match σ, h with
  | [a, b, c], _ => rfl
theorem set3kb {σ : L2.St} {x : Option V} (h : σ.length = 3) : (σ.set 2 x)[2]? = some x := by
  match σ, h with
  | [a, b, c], _ => rfl
abbrev s_refk : Stmt := topS 38
theorem sc_refk : FnScope NKp ["_law_call"] (defScope s_refk) := ⟨rfl, rfl, rfl, by decide +kernel, rfl, by decide +kernel, by decide +kernel⟩
theorem refk_gives {X : Cx} {g U fI : Addr} {cdg : Value} {q : Str} (T : VErr X.K X.mg "InvalidNumber" "InvalidNumber.__init__" U fI) (hi : X.mg "isinstance" = none) (hk : X.mg "ValueError" = none) (up : PySem.W.kitOne X.K (.ref U) (.type "ValueError") = some true) :
    GivesTo X NKp "_law_refused" (defScope s_refk) g cdg (defBody s_refk) "_law_call" q (TTkeep U) := by
  intro f c' s H Q tl act hc h
  refine ⟨_, pss_cons (ps_set (i := 1) sc_refk.nd rfl (Or.inl rfl) pe_non)
    (pss_try_keep (X := (cxOf C8.CX0 X.prog X.w X.K X.mg X.base NKp "_law_refused" (defScope s_refk) g cdg X.A X.stack s H C8.E0).nox) (c := .ref U) (i := 2) (Wout := fun _ _ _ _ => False)
      (tb := fun W D σ H => ∃ Ech : XK, (∀ cls d σ' H', Ech cls d H' → σ'.length = 3 → W cls d σ' H') ∧ σ[0]? = some (some (.ref f)) ∧ H c' = some (CodeO c' q) ∧ tl Ech H (fun _ H' => D.nx σ H'))
      rfl rfl sc_refk.nd rfl rfl ⟨(by rfl), (by decide), .inl T.gC⟩ L2.takes0 (fun W pn xe tk _ => ?B)
      (fun a oe cls d pn hz hf => pss_one (ps_set (i := 1) sc_refk.nd rfl (Or.inl rfl) (pv 2)))
      (pss_cons ps_never (pss_one ps_never))
      (fun a oe cls d pn hz hf => pss_cons (ps_if (pt_cmp (pc_isN (pv 1))) (pss_one ps_never) pss_nil)
        (pss_one (ps_ret (pe_ifExp (pt_val (pe_callB (id := "isinstance") (show CallR _ (.builtin "isinstance") (rIsUp X.K a cls) from call_isPin (X := Cx.kp (cxOf C8.CX0 X.prog X.w X.K X.mg X.base NKp "_law_refused" (defScope s_refk) g cdg X.A X.stack s H C8.E0).nox ((a, oe) :: pn)) (a := a) (oe := oe) (by exact List.mem_cons_self) hz) (by rfl) hi (by decide +kernel) (pa_cons (pv 1) (pa_cons (pe_bltn (v := .ty "ValueError") (by rfl) hk (by decide +kernel) rfl) pa_nil))))
          (pe_lstB (pa_cons (pe_pinF (X := Cx.kp (cxOf C8.CX0 X.prog X.w X.K X.mg X.base NKp "_law_refused" (defScope s_refk) g cdg X.A X.stack s H C8.E0).nox ((a, oe) :: pn)) T (a := a) (oe := oe) (by exact List.mem_cons_self) hz hf (pv 1)) pa_nil)) (pe_lstB (pa_cons pe_str pa_nil))))))), ?_⟩
  case B =>
    refine ⟨fun pins s' σ H' D I h' => ?_⟩
    obtain ⟨Ech, hW, h1, h2, h3⟩ := h'
    exact (pss_one (ps_expr (act _ pn xe Ech _ _ (takes_lenk tk) hW))).run pins s' σ H' D I ⟨h1, h2, h3⟩
  · refine ⟨fun cls d H' => cls = .ref U ∧ ∃ (dd : Addr) (v : V), d = some dd ∧ H' dd = some (.xd [("value", v)]) ∧ ∀ p H2, p ≠ sysModules → New H' p (.lst [v]) H2 → Q (.ref p) H2, fun cls d σ' H' ⟨ec, dd, v, ed, hv, k⟩ hl => ?_, rfl, hc, ?_⟩
    · subst ec
      subst ed
      refine ⟨true, T.te, fun z => Bool.noConfusion z, fun _ a0 _ => ?_⟩
      refine ⟨.ref a0, set3kb hl, ?_⟩
      refine ⟨.ref a0, set3k hl, _, rfl, iteF ?_⟩
      refine ⟨.ref a0, set3k hl, .ty "ValueError", .type "ValueError", rfl, fun u hu => hu, up, rfl, _, rfl, iteT ?_⟩
      exact ⟨.ref a0, set3k hl, rfl, rfl, dd, v, rfl, hv, by show 1 ≤ sizeLine; decide, fun p H2 ns n2 => k p H2 ns n2⟩
    · exact h
abbrev s_unrk : Stmt := topS 40
theorem sc_unrk : FnScope NKp ["_law_call"] (defScope s_unrk) := ⟨rfl, rfl, rfl, by decide +kernel, rfl, by decide +kernel, by decide +kernel⟩
theorem unrk_gives {X : Cx} {g U fI : Addr} {cdg : Value} {q : Str} (T : VErr X.K X.mg "InvalidRow" "InvalidRow.__init__" U fI) (hi : X.mg "isinstance" = none) (hk : X.mg "ValueError" = none) (up : PySem.W.kitOne X.K (.ref U) (.type "ValueError") = some true) :
    GivesTo X NKp "_law_unread" (defScope s_unrk) g cdg (defBody s_unrk) "_law_call" q (TTkeep U) := by
  intro f c' s H Q tl act hc h
  refine ⟨_, pss_cons (ps_set (i := 1) sc_unrk.nd rfl (Or.inl rfl) pe_non)
    (pss_try_keep (X := (cxOf C8.CX0 X.prog X.w X.K X.mg X.base NKp "_law_unread" (defScope s_unrk) g cdg X.A X.stack s H C8.E0).nox) (c := .ref U) (i := 2) (Wout := fun _ _ _ _ => False)
      (tb := fun W D σ H => ∃ Ech : XK, (∀ cls d σ' H', Ech cls d H' → σ'.length = 3 → W cls d σ' H') ∧ σ[0]? = some (some (.ref f)) ∧ H c' = some (CodeO c' q) ∧ tl Ech H (fun _ H' => D.nx σ H'))
      rfl rfl sc_unrk.nd rfl rfl ⟨(by rfl), (by decide), .inl T.gC⟩ L2.takes0 (fun W pn xe tk _ => ?B)
      (fun a oe cls d pn hz hf => pss_one (ps_set (i := 1) sc_unrk.nd rfl (Or.inl rfl) (pv 2)))
      (pss_cons ps_never (pss_one ps_never))
      (fun a oe cls d pn hz hf => pss_cons (ps_if (pt_cmp (pc_isN (pv 1))) (pss_one ps_never) pss_nil)
        (pss_one (ps_ret (pe_ifExp (pt_val (pe_callB (id := "isinstance") (show CallR _ (.builtin "isinstance") (rIsUp X.K a cls) from call_isPin (X := Cx.kp (cxOf C8.CX0 X.prog X.w X.K X.mg X.base NKp "_law_unread" (defScope s_unrk) g cdg X.A X.stack s H C8.E0).nox ((a, oe) :: pn)) (a := a) (oe := oe) (by exact List.mem_cons_self) hz) (by rfl) hi (by decide +kernel) (pa_cons (pv 1) (pa_cons (pe_bltn (v := .ty "ValueError") (by rfl) hk (by decide +kernel) rfl) pa_nil))))
          (pe_lstB (pa_cons (pe_pinF (X := Cx.kp (cxOf C8.CX0 X.prog X.w X.K X.mg X.base NKp "_law_unread" (defScope s_unrk) g cdg X.A X.stack s H C8.E0).nox ((a, oe) :: pn)) T (a := a) (oe := oe) (by exact List.mem_cons_self) hz hf (pv 1)) pa_nil)) (pe_lstB (pa_cons pe_str pa_nil))))))), ?_⟩
  case B =>
    refine ⟨fun pins s' σ H' D I h' => ?_⟩
    obtain ⟨Ech, hW, h1, h2, h3⟩ := h'
    exact (pss_one (ps_expr (act _ pn xe Ech _ _ (takes_lenk tk) hW))).run pins s' σ H' D I ⟨h1, h2, h3⟩
  · refine ⟨fun cls d H' => cls = .ref U ∧ ∃ (dd : Addr) (v : V), d = some dd ∧ H' dd = some (.xd [("value", v)]) ∧ ∀ p H2, p ≠ sysModules → New H' p (.lst [v]) H2 → Q (.ref p) H2, fun cls d σ' H' ⟨ec, dd, v, ed, hv, k⟩ hl => ?_, rfl, hc, ?_⟩
    · subst ec
      subst ed
      refine ⟨true, T.te, fun z => Bool.noConfusion z, fun _ a0 _ => ?_⟩
      refine ⟨.ref a0, set3kb hl, ?_⟩
      refine ⟨.ref a0, set3k hl, _, rfl, iteF ?_⟩
      refine ⟨.ref a0, set3k hl, .ty "ValueError", .type "ValueError", rfl, fun u hu => hu, up, rfl, _, rfl, iteT ?_⟩
      exact ⟨.ref a0, set3k hl, rfl, rfl, dd, v, rfl, hv, by show 1 ≤ sizeLine; decide, fun p H2 ns n2 => k p H2 ns n2⟩
    · exact h
end My
end
section
set_option Elab.async false
set_option linter.all false
set_option maxRecDepth 100000
set_option maxHeartbeats 4000000
/-! B6: new lists and where they stand. -/
namespace My
open PySem PySem.Spec PyProof.Rows L2
section
variable {X : Cx}
/-- a part of a list, and where it stands -/
def qSlB (K : PySem.W.Frag) : V → Option Int → Option Int → Hp → VK → Prop := fun x lo hi H Q => ∃ a xs, x = .ref a ∧ SqL K H a xs ∧ ∀ p H', p ≠ sysModules → New H p (.lst (cutV xs lo hi)) H' → Q (.ref p) H'
theorem sl_listB : SlR X (qSlB X.K) := by
  intro pins s σ H x v vl vu lo hi sl Q I rx slice pl pu want
  obtain ⟨a, xs, rfl, hx, q⟩ := want
  cases rx
  obtain ⟨its, r, at_, fits⟩ := I.list hx
  have len := r.length
  refine ⟨"list", _, slot_list_getitem.lookup, at_.isList.typeIs, wpAny_getItem_list_slice at_.isList slice pl pu .none (by simp) ?_ (by rw [List.size_toArray]; omega)⟩
  rw [slicePick_cut, ← len]
  have free : H s.heap.objs.size = none := I.hok.fresh (Nat.le_refl _)
  have laid : ObjOk X.prog X.w (upd H s.heap.objs.size (.lst (cutV xs lo hi))) (s.heap.push { cls := .type "list", data := .seq (((its.drop (HT.sIx xs.length 0 lo)).take (HT.sIx xs.length xs.length hi - HT.sIx xs.length 0 lo)).toArray) }) s.heap.objs.size (.lst (cutV xs lo hi)) :=
    ⟨Nat.le_trans (cutV_length xs lo hi) fits, _, 0, (r.drop (HT.sIx xs.length 0 lo)).take _, Heap.get?_push_size _ rfl⟩
  exact ⟨.ref _, _, I.laid (t' := s.toks) (fun b ob z => Heap.get?_push_of_some _ z) (Nat.le_refl _) laid, rfl, q _ _ (Nat.ne_of_gt I.big) (.mk' free)⟩
/-- xs + ys, and where it stands -/
def qCatB : R2 := fun x y H Q => ∃ a b xs ys, x = .ref a ∧ y = .ref b ∧ H a = some (.lst xs) ∧ H b = some (.lst ys) ∧ xs.length + ys.length ≤ sizeLine ∧ ∀ p H', p ≠ sysModules → New H p (.lst (xs ++ ys)) H' → Q (.ref p) H'
theorem op_catB : OpR X (binaryOp .Add) qCatB := by
  intro pins s σ H x y v u Q I rx ry want
  obtain ⟨a, b, xs, ys, rfl, rfl, hA, hB, fits, q⟩ := want
  cases rx
  cases ry
  obtain ⟨z1, its1, n1, r1, l1, e1⟩ := I.lstM hA
  obtain ⟨z2, its2, n2, r2, l2, e2⟩ := I.lstM hB
  apply PySem.P.add_list e1 e2
  rw [show its1.toArray ++ its2.toArray = (its1 ++ its2).toArray by simp]
  exact ⟨.ref _, _, I.lnew (t' := s.toks) (r1.append r2) (by rw [List.length_append]; omega), rfl, q _ _ (Nat.ne_of_gt I.big) (.mk' I.fresh)⟩
/-- x[::-1], x a list, and where it stands -/
def tRevB (K : PySem.W.Frag) (te : TE) : TE := fun σ H Q => te σ H fun v H1 => ∃ (a : Addr) (xs : List V), v = .ref a ∧ SqL K H1 a xs ∧ ∀ p H2, p ≠ sysModules → New H1 p (.lst xs.reverse) H2 → Q (.ref p) H2
theorem pe_revB {e : Expr} {te : TE} {k : Nat} {p1 p2 p3 pos : Pos} (he : PE X e te) : PE X (.Subscript e (.Slice none none (some (.UnaryOp .USub (.Constant (.int 1) k p1) p2)) p3) pos) (tRevB X.K te) := by
  constructor
  intro pins s σ H Q I want
  apply Subscript_
  apply thn (he.run pins s σ H _ I want)
  rintro v s1 ⟨v', H1, I1, r1, a, xs, rfl, hx, q⟩
  cases r1
  refine back_open I1 fun s4 vs I4 ps => ?_
  have I5 : Inv X pins σ H1 { s4 with heap := s4.heap.push { cls := .type "slice", data := .fields #[.none, .none, vs] } } := I4.kept (t' := s4.toks) fun b ob z => Heap.get?_push_of_some _ z
  obtain ⟨its, r, ht, hz⟩ := I5.list hx
  refine tail_any (ops := [.ref a, .ref s4.heap.objs.size]) ht.isList.typeIs slot_list_getitem.lookup ?_ (by with_unfolding_all rfl)
  refine wpAny_getItem_list_slice ht.isList (Heap.IsSliceOf.new _ _ _ _) .none .none ps (by decide) ?_ (by rw [List.size_toArray, ← r.length]; exact hz)
  rw [PySem.W.krv_pick]
  refine ⟨.ref _, _, I5.laid (t' := s4.toks) (o := .lst xs.reverse) (fun b ob z => Heap.get?_push_of_some _ z) (Nat.le_refl _) ?_, rfl, q _ _ (Nat.ne_of_gt I5.big) (.mk' (I5.hok.fresh (Nat.le_refl _)))⟩
  exact ⟨by rw [List.length_reverse]; exact hz, _, 0, r.reverse, Heap.get?_push_size _ rfl⟩
end
end My
end
section
set_option Elab.async false
set_option linter.all false
set_option maxRecDepth 100000
set_option maxHeartbeats 4000000
namespace My
open PySem PySem.Spec PyProof.Rows L2 LamX
/-- a value that can be shown -/
structure Val (K : PySem.W.Frag) (p : Addr) (H : Hp) (v : V) (d : PyData) : Prop where
  rp : Rp K p H true v d
  fit : fit d = true
  dep : d.depth ≤ 5
  shw : d.showable = true
  len : d.shown.length ≤ 20000
  ln : lenD d ≤ 100
/-- a short text of plain characters -/
def Tx (n : Nat) (z : Str) : Prop := z.length ≤ n ∧ ∀ c ∈ z.cps.toList, c < 128
theorem Tx.mono {n m : Nat} {z : Str} (h : Tx n z) (l : n ≤ m) : Tx m z := ⟨Nat.le_trans h.1 l, h.2⟩
theorem Tx.cut {n : Nat} {z : Str} (h : Tx n z) (lo hi : Option Int) : Tx n (cutS z lo hi) := by
  constructor
  · refine Nat.le_trans ?_ h.1
    show ((z.cps.toList.drop (HT.sIx z.length 0 lo)).take (HT.sIx z.length z.length hi - HT.sIx z.length 0 lo)).toArray.size ≤ _
    rw [List.size_toArray, List.length_take, List.length_drop]
    have : z.cps.toList.length = z.length := Array.length_toList
    omega
  · intro c hc
    have hc : c ∈ (z.cps.toList.drop (HT.sIx z.length 0 lo)).take (HT.sIx z.length z.length hi - HT.sIx z.length 0 lo) := hc
    exact h.2 c (List.mem_of_mem_drop (List.mem_of_mem_take hc))
theorem Tx.add {n m : Nat} {a b : Str} (h : Tx n a) (k : Tx m b) : Tx (n + m) (a ++ b) := by
  constructor
  · rw [len_app]
    have := h.1
    have := k.1
    omega
  · intro c hc
    have hc : c ∈ (a.cps ++ b.cps).toList := hc
    rw [Array.toList_append] at hc
    rcases List.mem_append.mp hc with hc | hc
    · exact h.2 c hc
    · exact k.2 c hc
theorem Tx.one {c : Nat} (h : c < 128) : Tx 1 ⟨#[c]⟩ := ⟨Nat.le_refl _, fun x hx => by
  have : x = c := by simpa using hx
  exact this ▸ h⟩
theorem Tx.up {n : Nat} {z : Str} (h : Tx n z) : Tx n (Txt.upper z) := by
  rw [upper_ascii h.2]
  constructor
  · show (z.cps.map up1).size ≤ n
    rw [Array.size_map]
    exact h.1
  · intro c hc
    have hc : c ∈ (z.cps.map up1).toList := hc
    rw [Array.toList_map] at hc
    obtain ⟨x, hx, rfl⟩ := List.mem_map.mp hc
    have := h.2 x hx
    unfold up1
    split <;> omega
theorem Tx.len {n : Nat} {z : Str} (h : Tx n z) (hn : n ≤ 1000) : z.length ≤ sizeLine := Nat.le_trans h.1 (Nat.le_trans hn (by decide))
theorem tx_val {K : PySem.W.Frag} {p : Addr} {H : Hp} {z : Str} (h : Tx 100 z) : Val K p H (.str z) (.str z) := by
  refine ⟨.str _ _, ?_, Nat.zero_le _, rfl, ?_, Nat.zero_le _⟩
  · show decide (z.length ≤ 4000) = true
    exact decide_eq_true (Nat.le_trans h.1 (by decide))
  · refine Nat.le_trans (shown_wt _ ?_) ?_
    · simp only [chr, List.all_eq_true, decide_eq_true_eq]
      exact fun c hc => Nat.lt_trans (h.2 c hc) (by decide)
    · show 10 * z.length + 2 ≤ 20000
      have := h.1
      omega
theorem tx_big {K : PySem.W.Frag} {p : Addr} {H : Hp} {z : Str} (h : Tx 1000 z) : Val K p H (.str z) (.str z) := by
  refine ⟨.str _ _, ?_, Nat.zero_le _, rfl, ?_, Nat.zero_le _⟩
  · show decide (z.length ≤ 4000) = true
    exact decide_eq_true (Nat.le_trans h.1 (by decide))
  · refine Nat.le_trans (shown_wt _ ?_) ?_
    · simp only [chr, List.all_eq_true, decide_eq_true_eq]
      exact fun c hc => Nat.lt_trans (h.2 c hc) (by decide)
    · show 10 * z.length + 2 ≤ 20000
      have := h.1
      omega
section
variable {K : PySem.W.Frag} {p : Addr} {H H1 : Hp}
theorem two_rp {r : Addr} {v1 v2 : V} {d1 d2 : PyData} (hr : H r = some (.tup [v1, v2])) (ne : r ≠ p) (h1 : Rp K p H true v1 d1) (h2 : Rp K p H true v2 d2) : Rp K p H true (.ref r) (.tuple [d1, d2]) := .tup hr ne (.cons h1 (.cons h2 (.nil _)))
/-- what can be shown -/
structure Sho (n : Nat) (d : PyData) : Prop where
  shw : d.showable = true
  len : d.shown.length ≤ n
  dep : d.depth ≤ 20
theorem Val.sho {v : V} {d : PyData} (h : Val K p H v d) : Sho 20000 d := ⟨h.shw, h.len, Nat.le_trans h.dep (by decide)⟩
theorem two_sho {a b : PyData} {n m : Nat} (ha : Sho n a) (hb : Sho m b) (da : a.depth ≤ 10) (db : b.depth ≤ 10) : Sho (n + m + 8) (.tuple [a, b]) := by
  refine ⟨?_, ?_, ?_⟩
  · show (a.showable && (b.showable && true)) = true
    rw [ha.shw, hb.shw]; rfl
  · have := tuple_le [a.shown, b.shown]
    have e : ([a.shown, b.shown].map (·.length)).sum = a.shown.length + b.shown.length := by simp
    rw [e] at this
    show (tupleText [a.shown, b.shown]).length ≤ _
    simp only [List.length_cons, List.length_nil] at this
    have := ha.len
    have := hb.len
    omega
  · show max a.depth (max b.depth 0) + 1 ≤ 20
    omega
end
def qReprH (K : PySem.W.Frag) : List V → Hp → VK → Prop := fun xs H Q => ∃ x d p, xs = [x] ∧ Rp K p H true x d ∧ Sho 1000000 d ∧ Q (.str d.shown) H
theorem call_reprH {X : Cx} (g : X.A.guards = some []) (hu : X.A.units + 64 < cLine) : CallR X (.builtin "repr") (qReprH X.K) := by
  intro pins s σ H xs us Q I r h
  obtain ⟨x, d, p, e, hd, hs, q⟩ := h
  exact call_reprD g hu pins s σ H xs us Q I r ⟨x, d, p, e, hd.loose _, hs.shw, Nat.le_trans hs.len (by decide), Nat.le_trans hs.dep (by decide), q⟩
theorem word_sho (z : Str) (h : Tx 100 z) : Sho 2000 (.str z) := by
  exact ⟨rfl, Nat.le_trans (shown_wt _ (by
    show (z.cps.toList.all fun c => decide (c < 16 ^ 8)) = true
    rw [List.all_eq_true]
    exact fun c hc => decide_eq_true (Nat.lt_trans (h.2 c hc) (by decide)))) (by show 10 * z.length + 2 ≤ 2000; have := h.1; omega), Nat.zero_le _⟩
end My
end
section
set_option Elab.async false
set_option linter.all false
set_option maxRecDepth 100000
set_option maxHeartbeats 2000000
/-! Nrpt: repr(x) of data that may hold dicts whose keys are tuples. -/
namespace My
open PySem PySem.Spec PyProof.Rows L2
def kD : Key → PyData
  | .inl i => .int i
  | .inr z => .str z
/-- the keys of such a dict, as data -/
def tkD (kvs : List (List Key × V)) : List PyData := kvs.map fun e => .tuple (e.1.map kD)
mutual
inductive Rq (K : PySem.W.Frag) (p : Addr) (H : Hp) : V → PyData → Prop
  | rp {v : V} {d : PyData} : Rp K p H true v d → Rq K p H v d
  | dt {a : Addr} {kvs : List (List Key × V)} {vs : List PyData} : H a = some (.dT kvs) → a ≠ p → RpAll K p H true (kvs.map (·.2)) vs → Rq K p H (.ref a) (.dict ((tkD kvs).zip vs))
  | lst {a : Addr} {xs : List V} {ds : List PyData} : H a = some (.lst xs) → a ≠ p → a ≠ sysModules → RqAll K p H xs ds → Rq K p H (.ref a) (.list ds)
  | tup {a : Addr} {xs : List V} {ds : List PyData} : H a = some (.tup xs) → a ≠ p → RqAll K p H xs ds → Rq K p H (.ref a) (.tuple ds)
inductive RqAll (K : PySem.W.Frag) (p : Addr) (H : Hp) : List V → List PyData → Prop
  | nil : RqAll K p H [] []
  | cons {v : V} {vs : List V} {d : PyData} {ds : List PyData} : Rq K p H v d → RqAll K p H vs ds → RqAll K p H (v :: vs) (d :: ds)
end
section
variable {K : PySem.W.Frag} {p : Addr} {H H1 : Hp}
mutual
theorem Rq.but (s : But p H H1) : ∀ {d : PyData} {v : V}, Rq K p H v d → Rq K p H1 v d
  | _, _, .rp h => .rp (h.but s)
  | _, _, .dt h n r => .dt (s _ _ n h) n (RpAll.but s r)
  | _, _, .lst h n m r => .lst (s _ _ n h) n m (RqAll.but s r)
  | _, _, .tup h n r => .tup (s _ _ n h) n (RqAll.but s r)
theorem RqAll.but (s : But p H H1) : ∀ {ds : List PyData} {vs : List V}, RqAll K p H vs ds → RqAll K p H1 vs ds
  | _, _, .nil => .nil
  | _, _, .cons a b => .cons (Rq.but s a) (RqAll.but s b)
end
end
theorem key_reads {h : Heap} {k : Key} {u : Value} (r : RelV (kV k) u) : Reads h u (kD k) [] := by
  cases k with
  | inl i =>
    obtain ⟨t, rfl⟩ := r
    exact Reads.int i t
  | inr z =>
    obtain ⟨t, rfl⟩ := r
    exact Reads.str z t
theorem key_all {h : Heap} : ∀ {ks : List Key} {us : List Value}, Vals (ks.map kV) us → ReadsAll h us (ks.map kD) []
  | [], us, r => by
    cases r
    exact ReadsAll.nil
  | k :: ks, us, r => by
    cases r with
    | cons r1 r2 => exact ReadsAll.cons (key_reads r1) (key_all r2)
theorem zip_tk {kvs : List (List Key × V)} {vs : List PyData} (h : kvs.length = vs.length) : ((tkD kvs).zip vs).map (·.1) = tkD kvs ∧ ((tkD kvs).zip vs).map (·.2) = vs :=
  ⟨zip_fst (by unfold tkD; rw [List.length_map]; exact h), zip_snd (by unfold tkD; rw [List.length_map]; exact h)⟩
section
variable {X : Cx} {pins : List (Addr × Obj)} {σ : L2.St} {p : Addr} {H : Hp} {s : Shared}
theorem tk_reads (I : Inv X pins σ H s) : ∀ {kvs : List (List Key × V)} {xs : List (List Key × Addr × Value)}, Paired (fun (p : List Key × V) (q : List Key × Addr × Value) => p.1 = q.1 ∧ H q.2.1 = some (.tup (p.1.map kV)) ∧ RelV p.2 q.2.2) kvs xs →
    ReadsAll s.heap (xs.map fun q => .ref q.2.1) (tkD kvs) [] ∧ Vals (kvs.map (·.2)) (xs.map fun q => q.2.2)
  | _, _, .nil => ⟨ReadsAll.nil, .nil⟩
  | _, _, .cons ⟨_, e2, rv⟩ t => by
    obtain ⟨a, b⟩ := tk_reads I t
    obtain ⟨its, rt, ⟨o, ho, hc, k, hd⟩, _⟩ := I.tuple (SqT.of e2 : SqT X.K H _ _)
    exact ⟨ReadsAll.cons (Reads.tuple ho hc hd (key_all rt)) a, .cons rv b⟩
mutual
theorem Rq.reads (I : Inv X pins σ H s) : ∀ {d : PyData} {v : V} {u : Value}, Rq X.K p H v d → RelV v u → ∃ as, Reads s.heap u d as ∧ sysModules ∉ as
  | _, _, _, .rp h, r => by
    obtain ⟨as, q1, q2⟩ := Rp.reads I h r
    exact ⟨as, q1, q2 (Bool.true_or _)⟩
  | _, _, _, .dt h n k2, r => by
    cases r
    obtain ⟨_, ns, xs, pr, o, es, ep, ho, hx, hd, hes, _⟩ := I.hok _ _ h
    obtain ⟨ra, va⟩ := tk_reads I pr
    obtain ⟨bs, q3, q4⟩ := RpAll.reads I k2 va
    have len := RpAll.len k2
    rw [List.length_map] at len
    obtain ⟨z1, z2⟩ := zip_tk len
    refine ⟨_, Reads.dict ho hx.1 hd (as := []) (bs := bs) ?_ ?_, ?_⟩
    · rw [z1, hes, List.map_map]
      exact ra
    · rw [z2, hes, List.map_map]
      exact q3
    · rw [List.cons_append, List.nil_append, List.mem_cons]
      rintro (e | m)
      · rw [← e] at ns
        exact absurd ns (by decide)
      · exact q4 rfl m
  | _, _, _, .lst h n m q, r => by
    cases r
    obtain ⟨its, rv, ⟨o, k, ho, hc, _, hd⟩, _⟩ := I.list (SqL.of h : SqL X.K H _ _)
    obtain ⟨as, q1, q2⟩ := RqAll.reads I q rv
    refine ⟨_, Reads.list ho hc hd q1, ?_⟩
    rw [List.mem_cons]
    rintro (z | z)
    · exact m z.symm
    · exact q2 z
  | _, _, _, .tup h n q, r => by
    cases r
    obtain ⟨its, rv, ⟨o, ho, hc, k, hd⟩, _⟩ := I.tuple (SqT.of h : SqT X.K H _ _)
    obtain ⟨as, q1, q2⟩ := RqAll.reads I q rv
    exact ⟨_, Reads.tuple ho hc hd q1, q2⟩
theorem RqAll.reads (I : Inv X pins σ H s) : ∀ {ds : List PyData} {vs : List V} {us : List Value}, RqAll X.K p H vs ds → Vals vs us → ∃ as, ReadsAll s.heap us ds as ∧ sysModules ∉ as
  | _, _, _, .nil, r => by
    cases r
    exact ⟨_, ReadsAll.nil, by simp⟩
  | _, _, _, .cons a b, r => by
    cases r with
    | cons r1 r2 =>
      obtain ⟨as, q1, q2⟩ := Rq.reads I a r1
      obtain ⟨bs, q3, q4⟩ := RqAll.reads I b r2
      exact ⟨_, ReadsAll.cons q1 q3, fun z => (List.mem_append.mp z).elim q2 q4⟩
end
def qReprQ (K : PySem.W.Frag) : List V → Hp → VK → Prop := fun xs H Q => ∃ x d p, xs = [x] ∧ Rq K p H x d ∧ Sho 1000000 d ∧ Q (.str d.shown) H
theorem call_reprQ (g : X.A.guards = some []) (hu : X.A.units + 64 < cLine) : CallR X (.builtin "repr") (qReprQ X.K) := by
  intro pins s σ H xs us Q I r h
  obtain ⟨x, d, p, rfl, hd, hs, q⟩ := h
  obtain ⟨u, rfl, rx⟩ := vals1 r
  have big : ∀ a, u = .ref a → wpAny (model X.prog X.w) X.A (call (.builtin "repr") [u]) (EP X pins σ Q) X.xe s := by
    rintro a rfl
    obtain ⟨as, rd, nos⟩ := Rq.reads I hd rx
    have h4 := hs.dep
    exact repr_of_reads' rd hs.shw (fun _ => nos) g (by omega) (fun _ _ z => z) (fun h' t tk hk => ⟨.str d.shown, H, I.kept (t' := tk) hk, ⟨t, rfl⟩, q⟩) (Nat.le_trans hs.len (by decide))
  cases hd with
  | rp h => exact call_reprH g hu pins s σ H [x] [u] Q I r ⟨x, d, p, rfl, h, hs, q⟩
  | dt _ _ _ => exact big _ rx
  | lst _ _ _ _ => exact big _ rx
  | tup _ _ _ => exact big _ rx
end
end My
end
section
set_option Elab.async false
set_option linter.all false
set_option maxRecDepth 100000
set_option maxHeartbeats 4000000
/-! Nodd: _law_odd of the family with masks: one of its values is a dict whose key is a tuple. -/
namespace My
open PySem PySem.Spec PyProof.Rows L2
abbrev s_oddT : Stmt := topS 36
/-- the odd value that is a dict with a tuple as its key -/
def OddT (p : Addr) (H : Hp) (v : V) : Prop := ∃ a, v = .ref a ∧ a ≠ p ∧ H a = some (.dT [([Sum.inr "0-", Sum.inr "0"], .int 1)])
def OddD (K : PySem.W.Frag) (p : Addr) (H : Hp) (v : V) (d : PyData) : Prop := Rp K p H true v d ∧ fit d = true ∧ d.depth ≤ 4 ∧ d.showable = true ∧ d.shown.length ≤ 200 ∧ lenD d ≤ 100
def sp_oddT (K : PySem.W.Frag) : Sp := fun vs H Q _ => ∃ (p c : Addr) (n : Nat), vs = [.ref p] ∧ PenAt H p c n ∧ n < 2 ^ 60 ∧ ∀ H' v, DrewP H p c (n + 1) H' → ((∃ d, OddD K p H' v d) ∨ OddT p H' v) → Q v H'
section
variable {P : Program} {w : World} {K : PySem.W.Frag} {mg : Str → Option Value} {base : Heap}
theorem sc_oddT : FnScope ["_law_pen_here", "_law_some"] ["_law_pen_here"] (defScope s_oddT) := ⟨rfl, rfl, rfl, by decide +kernel, rfl, by decide +kernel, by decide +kernel⟩
theorem ok_oddT {f fP : Addr} {fd fdP : FuncData} (F : Fun K "_law_odd" "_law_odd" s_oddT f fd) (D : Def K mg "_law_pick" fP fdP ["_law_pen_here", "_law_some"]) (G : FnOk P w K mg base CX0 2 fP fdP ["_law_pen_here", "_law_some"] (sp_pick K)) :
    FnOk P w K mg base CX0 3 f fd ["_law_pen_here"] (sp_oddT K) := by
  refine F.ok sc_oddT (fun vs H Q E h => ?_) (fun cdv A outer s H vs Q E hr h => ?_)
  · obtain ⟨p, c, n, rfl, _⟩ := h
    rfl
  · obtain ⟨p, c, n, rfl, hP, hn, k⟩ := h
    have hu := hu_of hr
    refine ⟨_, pss_cons (ps_set (i := 1) sc_oddT.nd rfl (Or.inl rfl) (pe_lst' (pa_cons pe_non (pa_cons pe_bl (pa_cons pe_bl (pa_cons pe_int (pa_cons pe_int (pa_cons (pe_un un_neg pe_int) (pa_cons (pe_op op_pow pe_int pe_int)
        (pa_cons pe_str (pa_cons pe_str (pa_cons pe_str (pa_cons pe_str (pa_cons pe_str (pa_cons pe_str (pa_cons pe_str (pa_cons pe_str (pa_cons (pe_tup' pa_nil) (pa_cons (pe_lstB pa_nil) (pa_cons pe_dnew' (pa_cons (pe_tup' (pa_cons pe_str pa_nil)) pa_nil)))))))))))))))))))))
      (pss_one (ps_ret (pe_call G hr rfl D.mgf D.kp D.bd .nil pass0 (pa_cons (pv 0) (pa_cons (pe_op op_cat' (pv 1) (pe_lst' (pa_cons (pe_lstB (pa_cons pe_str pa_nil)) (pa_cons (pe_tup' (pa_cons pe_str (pa_cons pe_str pa_nil))) (pa_cons (pe_disp (pps_cons pe_str pe_int pps_nil) (by rfl) (by rfl) (fun z => by cases z) (by decide))
        (pa_cons (pe_disp1T hu (pps_cons (pe_tup' (pa_cons pe_str (pa_cons pe_str pa_nil))) pe_int pps_nil) (by rfl) (by rfl) (fun z => by cases z) (by decide)) (pa_cons (pe_lstB (pa_cons (pe_tup' (pa_cons pe_str (pa_cons pe_int pa_nil))) pa_nil)) (pa_cons (pe_tup' (pa_cons pe_non (pa_cons pe_non pa_nil))) (pa_cons pe_str (pa_cons pe_str pa_nil)))))))))) pa_nil))))), ?_⟩
    have pw : ∀ e : Int, 0 ≤ e → e ≤ 1000000 → CPow 10 e := fun e h1 h2 => ⟨h1, h2, by decide⟩
    refine ⟨1, rfl, _, _, rfl, rfl, pw 60 (by decide) (by decide), by show 0 ≤ sizeLine; decide, fun q1 H1 n1 => ⟨by show 0 ≤ sizeLine; decide, fun q2 H2 b2 n2 => fun q3 H3 n3 => ⟨by show 1 ≤ sizeLine; decide, fun q4 H4 n4 => ⟨by show 19 ≤ sizeLine; decide, fun a H5 n5 => ?_⟩⟩⟩⟩
    refine ⟨_, rfl, _, rfl, by show 1 ≤ sizeLine; decide, fun q5 H6 b5 n6 => ⟨by show 2 ≤ sizeLine; decide, fun q6 H7 n7 => fun q7 hq7 => ⟨upd_same, [(.inr "0", .int 1)], rfl, by decide, ?_⟩⟩⟩
    have n8 : New H7 q7 (.dK [(.inr "0", .int 1)]) (upd (upd H7 q7 (.dK [])) q7 (.dK (mergeK [] [(.inr "0", .int 1)]))) := ⟨hq7, upd_same, fun b hb => by rw [upd_ne hb, upd_ne hb]⟩
    generalize upd (upd H7 q7 (HO.dK [])) q7 (HO.dK (mergeK [] [(Sum.inr (PySem.Str.ofString "0"), V.int 1)])) = H8 at n8 ⊢
    intro q8 hq8
    have n9 : New H8 q8 (.dT []) (upd H8 q8 (.dT [])) := .mk' hq8
    generalize upd H8 q8 (HO.dT []) = H9 at n9 ⊢
    refine ⟨by show 2 ≤ sizeLine; decide, fun q9 H10 n10 => ⟨n10.same _ _ n9.here, [Sum.inr "0-", Sum.inr "0"], q9, .int 1, rfl, n10.here, ?_⟩⟩
    have w11 : Wr H10 q8 (.dT [([Sum.inr "0-", Sum.inr "0"], .int 1)]) (upd H10 q8 (.dT [([Sum.inr "0-", Sum.inr "0"], .int 1)])) := .mk'
    generalize upd H10 q8 (HO.dT [([Sum.inr "0-", Sum.inr "0"], V.int 1)]) = H11 at w11 ⊢
    have s811 : Same H8 H11 := fun b o e => by
      have nb : b ≠ q8 := ne_of_none e hq8
      exact (w11.els b nb).trans (n10.same _ _ (n9.same _ _ e))
    refine ⟨by show 2 ≤ sizeLine; decide, fun q10 H12 n12 => ⟨by show 1 ≤ sizeLine; decide, fun q11 H13 b11 n13 => ⟨by show 2 ≤ sizeLine; decide, fun q12 H14 n14 => ⟨by show 8 ≤ sizeLine; decide, fun b H15 n15 => ?_⟩⟩⟩⟩
    have t1 : Same H H1 := n1.same
    have t2 := t1.trans n2.same
    have t3 := t2.trans n3.same
    have t4 := t3.trans n4.same
    have t5 := t4.trans n5.same
    have t6 := t5.trans n6.same
    have t7 := t6.trans n7.same
    have t8 := t7.trans n8.same
    have t11 := t8.trans s811
    have t12 := t11.trans n12.same
    have t13 := t12.trans n13.same
    have t14 := t13.trans n14.same
    have t15 := t14.trans n15.same
    have s515 : Same H5 H15 := ((((((n6.same.trans n7.same).trans n8.same).trans s811).trans n12.same).trans n13.same).trans n14.same).trans n15.same
    refine ⟨a, b, _, _, rfl, rfl, s515 _ _ n5.here, n15.here, by show 27 ≤ sizeLine; decide, fun e H16 n16 => ?_⟩
    have t16 := t15.trans n16.same
    have nep : ∀ {q : Addr} {G : Hp}, Same H G → G q = none → q ≠ p := fun s f z => (hP.same s).ne f z.symm
    refine ⟨p, c, e, _, n, rfl, hP.same t16, hn, SqL.of n16.here, nep t15 n16.free, by show 0 < 27; decide, by show 27 ≤ 1000000; decide, fun H17 v d17 hv => ?_⟩
    have dr : DrewP H p c (n + 1) H17 := ⟨(But.of t16).trans d17.but, d17.pen⟩
    have back : ∀ {q : Addr} {o : HO} {G : Hp}, q ≠ p → G q = some o → Same G H16 → H17 q = some o := fun hq hg s => d17.but _ _ hq (s _ _ hg)
    have u15 : Same H15 H16 := n16.same
    have u14 := n15.same.trans u15
    have u13 := n14.same.trans u14
    have u12 := n13.same.trans u13
    have u11 := n12.same.trans u12
    have u8 := s811.trans u11
    have u7 := n8.same.trans u8
    have u6 := n7.same.trans u7
    have u5 := n6.same.trans u6
    have u4 := n5.same.trans u5
    have u3 := n4.same.trans u4
    have u2 := n3.same.trans u3
    have u1 := n2.same.trans u2
    have i1 := back (nep (Same.refl H) n1.free) n1.here u1
    have i2 := back (nep t1 n2.free) n2.here u2
    have i3 := back (nep t2 n3.free) n3.here u3
    have i4 := back (nep t3 n4.free) n4.here u4
    have i5 := back (nep t5 n6.free) n6.here u6
    have i6 := back (nep t6 n7.free) n7.here u7
    have i7 := back (nep t7 n8.free) n8.here u8
    have i8 := back (nep t8 n9.free) w11.here u11
    have i10 := back (nep t11 n12.free) n12.here u12
    have i11 := back (nep t12 n13.free) n13.here u13
    have i12 := back (nep t13 n14.free) n14.here u14
    have fine : ∀ (v : V) (d : PyData), Rp K p H17 true v d → (fit d && decide (d.depth ≤ 4) && d.showable && decide (d.shown.length ≤ 200) && decide (lenD d ≤ 100)) = true → Q v H17 := fun v d hd ho => by
      simp only [Bool.and_eq_true, decide_eq_true_eq] at ho
      exact k H17 v dr (.inl ⟨d, hd, ho.1.1.1.1, ho.1.1.1.2, ho.1.1.2, ho.1.2, ho.2⟩)
    rcases List.mem_cons.mp hv with rfl | hv
    · exact fine _ _ (.non _) (by decide +kernel)
    rcases List.mem_cons.mp hv with rfl | hv
    · exact fine _ _ (.bl _ _) (by decide +kernel)
    rcases List.mem_cons.mp hv with rfl | hv
    · exact fine _ _ (.bl _ _) (by decide +kernel)
    iterate 4
      rcases List.mem_cons.mp hv with rfl | hv
      · exact fine _ _ (.int _ _) (by decide +kernel)
    iterate 8
      rcases List.mem_cons.mp hv with rfl | hv
      · exact fine _ _ (.str _ _) (by decide +kernel)
    rcases List.mem_cons.mp hv with rfl | hv
    · exact fine _ (.tuple []) (.tup i1 (nep (Same.refl H) n1.free) (.nil _)) (by decide +kernel)
    rcases List.mem_cons.mp hv with rfl | hv
    · exact fine _ (.list []) (.lst i2 (nep t1 n2.free) (fun _ => b2) (.nil _)) (by decide +kernel)
    rcases List.mem_cons.mp hv with rfl | hv
    · exact fine _ (.dict (([] : List PyData).zip [])) (.dct i3 (nep t2 n3.free) (.nil _) (.nil _) rfl) (by decide +kernel)
    rcases List.mem_cons.mp hv with rfl | hv
    · exact fine _ (.tuple [.str "a"]) (.tup i4 (nep t3 n4.free) (.cons (.str _ _) (.nil _))) (by decide +kernel)
    rcases List.mem_cons.mp hv with rfl | hv
    · exact fine _ (.list [.str "a"]) (.lst i5 (nep t5 n6.free) (fun _ => b5) (.cons (.str _ _) (.nil _))) (by decide +kernel)
    rcases List.mem_cons.mp hv with rfl | hv
    · exact fine _ (.tuple [.str "0", .str "0"]) (.tup i6 (nep t6 n7.free) (.cons (.str _ _) (.cons (.str _ _) (.nil _)))) (by decide +kernel)
    rcases List.mem_cons.mp hv with rfl | hv
    · exact fine _ (.dict ([PyData.str "0"].zip [PyData.int 1])) (.dct i7 (nep t7 n8.free) (.cons (.str _ _) (.nil _)) (.cons (.int _ _) (.nil _)) rfl) (by decide +kernel)
    rcases List.mem_cons.mp hv with rfl | hv
    · exact k H17 _ dr (.inr ⟨q8, rfl, nep t8 n9.free, i8⟩)
    rcases List.mem_cons.mp hv with rfl | hv
    · exact fine _ (.list [.tuple [.str "0-", .int 1]]) (.lst i11 (nep t12 n13.free) (fun _ => b11) (.cons (.tup i10 (nep t11 n12.free) (.cons (.str _ _) (.cons (.int _ _) (.nil _)))) (.nil _))) (by decide +kernel)
    rcases List.mem_cons.mp hv with rfl | hv
    · exact fine _ (.tuple [.none, .none]) (.tup i12 (nep t13 n14.free) (.cons (.non _) (.cons (.non _) (.nil _)))) (by decide +kernel)
    iterate 2
      rcases List.mem_cons.mp hv with rfl | hv
      · exact fine _ _ (.str _ _) (by decide +kernel)
    cases hv
end
end My
end
section
set_option Elab.async false
set_option linter.all false
set_option maxRecDepth 100000
set_option maxHeartbeats 4000000
namespace My
open PySem PySem.Spec PyProof.Rows L2
def sp_pickS : Sp := fun vs H Q _ => ∃ (p c : Addr) (z : Str) (n : Nat), vs = [.ref p, .str z] ∧ PenAt H p c n ∧ n < 2 ^ 60 ∧ 0 < z.length ∧ z.length ≤ 1000 ∧ ∀ H' x, DrewP H p c (n + 1) H' → x ∈ z.cps.toList → Q (sg x) H'
section
variable {P : Program} {w : World} {K : PySem.W.Frag} {mg : Str → Option Value} {base : Heap}
theorem ok_pickS {f fD : Addr} {fd fdD : FuncData} (F : Fun K "_law_pick" "_law_pick" s_pick f fd) (T : TDraw mg) (D : Def K mg "_law_draw" fD fdD ["_law_pen_here", "_law_many"]) (G : FnOk P w K mg base CX0 1 fD fdD ["_law_pen_here", "_law_many"] sp_draw) :
    FnOk P w K mg base CX0 2 f fd ["_law_pen_here", "_law_some"] sp_pickS := by
  refine F.ok sc_pick (fun vs H Q E h => ?_) (fun cdv A outer s H vs Q E hr h => ?_)
  · obtain ⟨p, c, z, n, rfl, _⟩ := h
    rfl
  · obtain ⟨p, c, z, n, rfl, hP, hn, h0, h1, k⟩ := h
    have hz : z.length ≤ sizeLine := Nat.le_trans h1 (by decide)
    refine ⟨_, pss_one (ps_ret (pe_ix ix_str (pv 1) (pe_call G hr rfl D.mgf D.kp D.bd .nil pass0 (pa_cons (pv 0) (pa_cons (pe_callB call_len_str (by rfl) T.len PySem.boot_len (pa_cons (pv 1) pa_nil)) pa_nil))) (fun _ _ => rfl))), ?_⟩
    refine ⟨_, rfl, _, rfl, _, rfl, z, rfl, hz, p, c, _, n, rfl, hP, hn, by omega, by omega, fun H' r hD r0 r1 => ?_⟩
    obtain ⟨j, rfl⟩ : ∃ j : Nat, r = j := ⟨_, (Int.toNat_of_nonneg r0).symm⟩
    have zl : z.cps.toList.length = z.length := Array.length_toList
    have hj : j < z.cps.toList.length := by omega
    exact ⟨z, _, z.cps.toList[j], rfl, rfl, hz, atI_nat (by simp [hj]), k _ _ hD (List.getElem_mem hj)⟩
end
end My
end
section
set_option Elab.async false
set_option linter.all false
set_option maxRecDepth 100000
set_option maxHeartbeats 4000000
/-! Yext: what stays where tables grow: the pen, fonts; what stays of tables where only the pen changes; range(n) as a value. -/
namespace My
open PySem PySem.Spec PyProof.Rows L2 LamX
theorem pairs_ext {H H1 : Hp} (s : ExtN H H1) : ∀ {ps : List (Nat × Nat)} {ys : List V}, PairsAt H ps ys → PairsAt H1 ps ys
  | _, _, .nil => .nil
  | _, _, .cons ⟨q, e, h⟩ t => .cons ⟨q, e, s _ _ h fun _ z => by cases z⟩ (pairs_ext s t)
theorem font_ext {H H1 : Hp} {C a : Addr} {S : Str} {ps : List (Nat × Nat)} (s : ExtN H H1) (h : FontAt H C a S ps) : FontAt H1 C a S ps := by
  obtain ⟨dx, r, ys, h1, h2, h3⟩ := h.at_
  exact ⟨dx, r, ys, s _ _ h1 (fun _ z => by cases z), s _ _ h2 (fun _ z => by cases z), pairs_ext s h3⟩
theorem pen_ext {H H1 : Hp} {p c : Addr} {n : Nat} (s : ExtN H H1) (h : PenAt H p c n) : PenAt H1 p c n := by
  obtain ⟨cs, u, z, h1, h2, h3, h4, h5⟩ := h
  exact ⟨cs, u, z, s _ _ h1 (fun _ z => by cases z), s _ _ h2 (fun _ z => by cases z), h3, h4, h5⟩
theorem tabs_but {H H1 : Hp} {p c : Addr} {n : Nat} {T : List (Addr × Str)} (h : PenAt H p c n) (b : But p H H1) (t : Tabs T H) : Tabs T H1 := by
  intro e he
  obtain ⟨ps, h1, h2, h3⟩ := t e he
  obtain ⟨cs, u, z, hp, _⟩ := h
  refine ⟨ps, b _ _ (ne_of h1 hp (by intro z; cases z)) h1, h2, fun pos cv hc => ?_⟩
  obtain ⟨c', e1, e2⟩ := h3 pos cv hc
  exact ⟨c', e1, b _ _ (fun z => by rw [z, hp] at e2; have := Option.some.inj e2; unfold CodeO at this; cases this) e2⟩
/-- range(n) as a value -/
theorem cr_range1 {X : Cx} : CallR X (.type "range") (fun vs H Q => ∃ j, vs = [V.int j] ∧ ∀ p, H p = none → Q (.ref p) (upd H p (.rng 0 j))) := by
  intro pins s σ H vs us Q I r h
  obtain ⟨j, rfl, q⟩ := h
  obtain ⟨u1, rfl, ri⟩ := vals1 r
  obtain ⟨t, rfl⟩ := ri
  apply call_range_1
  refine ⟨.ref s.heap.objs.size, _, I.laid (t' := s.toks + 1 + 1) (fun b o e => Heap.get?_push_of_some _ e) (Nat.le_refl _) ?_, rfl, q _ (I.hok.fresh (Nat.le_refl _))⟩
  exact ⟨s.toks, t, s.toks + 1, Heap.get?_push_size _ rfl⟩
end My
end
section
set_option Elab.async false
set_option linter.all false
set_option maxRecDepth 100000
set_option maxHeartbeats 4000000
namespace My
open PySem PySem.Spec PyProof.Rows L2 LamX
abbrev s_law : Stmt := topS 42
abbrev outLoop : Stmt := nth (defBody s_law) 1
abbrev lawSt (i : Nat) : Stmt := nth (forBody outLoop) i
abbrev lamQ : Str := (envOfC "law" (defScope s_law) 0 0 .none).qual ++ "<lambda>"
def sp_law (K : PySem.W.Frag) (PL : Addr) : Sp := fun vs H Q _ => ∃ (a : Addr) (ns : List Int), vs = [.ref a] ∧ SqL K H a (ns.map V.int) ∧ ns.length ≤ 63 ∧ Tabs [(PL, lamQ)] H ∧ ∀ H', Q (.bl true) H'
end My
end
section
set_option Elab.async false
set_option linter.all false
set_option maxRecDepth 100000
set_option maxHeartbeats 4000000
/-! A1D: draws of great numbers. -/
namespace My
open PySem PySem.Spec PyProof.Rows L2
/-- a number from 0 to m - 1, m at most B, in at most d draws -/
def sp_drawB (B : Int) (d : Nat) : Sp := fun vs H Q _ => ∃ (p c : Addr) (m : Int) (n : Nat), vs = [.ref p, .int m] ∧ PenAt H p c n ∧ n + d < 2 ^ 60 ∧ 0 < m ∧ m ≤ B ∧ ∀ H' r, DrewP H p c (n + d) H' → 0 ≤ r → r < m → Q (.int r) H'
section
variable {P : Program} {w : World} {K : PySem.W.Frag} {mg : Str → Option Value} {base : Heap}
theorem ok_drawS {f : Addr} {fd : FuncData} {B B' : Int} {d j : Nat} (F : Fun K "_law_draw" "_law_draw" s_draw f fd) (T : TDraw mg) (hB : B ≤ 2 ^ 190) (hB' : B' ≤ 2 ^ 190) (hs : ∀ m : Int, 60000000 < m → m ≤ B' → 0 < m / 60000000 + 1 ∧ m / 60000000 + 1 ≤ B)
    (D : Def K mg "_law_draw" f fd ["_law_pen_here", "_law_many"]) (G : FnOk P w K mg base CX0 j f fd ["_law_pen_here", "_law_many"] (sp_drawB B d)) :
    FnOk P w K mg base CX0 (j + 1) f fd ["_law_pen_here", "_law_many"] (sp_drawB B' (d + 1)) := by
  refine F.ok sc_draw (fun vs H Q E h => ?_) (fun cdv A outer s H vs Q E hr h => ?_)
  · obtain ⟨a, c, m, n, rfl, _⟩ := h
    rfl
  · obtain ⟨p, c, m, n, rfl, hP, hn, hm0, hm1, k⟩ := h
    have hu : (A.deeper (envOfC "_law_draw" (defScope s_draw) s.heap.objs.size f cdv)).units + 1 < cLine := by have := hr.un; omega
    refine ⟨_, pss_cons (ps_if (pt_cmpR op_gt (pe_dget hu (pv 0) pe_str (fun _ _ => rfl)) pe_int (nomark _))
        (pss_cons (ps_set (i := 2) sc_draw.nd rfl (Or.inl rfl) (pe_op op_modN (pe_callTy call_int1 (by rfl) T.int (by decide +kernel) (pa_cons (pe_dget hu (pv 0) pe_str (fun _ _ => rfl)) pa_nil)) (pv 1)))
        (pss_cons (ps_dput hu (pv 0) pe_str (pe_op op_fdivW (pe_dget hu (pv 0) pe_str (fun _ _ => rfl)) (pv 1)) rfl)
        (pss_one (ps_ret (pv 2))))) pss_nil)
      (pss_cons (ps_set (i := 3) sc_draw.nd rfl (Or.inl rfl) (pe_dget hu (pv 0) pe_str (fun _ _ => rfl)))
      (pss_cons (ps_dput hu (pv 0) pe_str (pe_op op_add (pv 3) pe_int) rfl)
      (pss_cons (ps_set (i := 4) sc_draw.nd rfl (Or.inl rfl) (pe_op op_add (pe_op op_mul pe_int (pv 3)) pe_int))
      (pss_cons (ps_if (pt_cmpR (op_neNil hr.units0) (pe_dget hu (pv 0) pe_str (fun _ _ => rfl)) (pe_lst' pa_nil) (nomark _))
        (pss_one (ps_set (i := 4) sc_draw.nd rfl (Or.inl rfl) (pe_ix ix_list (pe_dget hu (pv 0) pe_str (fun _ _ => rfl)) (pe_op op_modN (pe_callTy call_int1 (by rfl) T.int (by decide +kernel) (pa_cons (pv 3) pa_nil))
          (pe_callB call_len_seq (by rfl) T.len PySem.boot_len (pa_cons (pe_dget hu (pv 0) pe_str (fun _ _ => rfl)) pa_nil))) (fun _ _ => rfl)))) pss_nil)
      (pss_cons (ps_if (PW.pt (pw_and (pt_cmpR op_lt (pv 3) (pe_callB call_len_seq (by rfl) T.len PySem.boot_len (pa_cons (pe_dget hu (pv 0) pe_str (fun _ _ => rfl)) pa_nil)) (nomark _))
          (pw_and1 (pt_cmpR op_ge (pe_callB call_abs (by rfl) T.abs (by decide +kernel) (pa_cons (pv 4) pa_nil)) (pe_op op_pow pe_int pe_int) (nomark _)))))
        (pss_cons (ps_dput hu (pv 0) pe_str (pe_op op_fdivW (pe_op op_sub (pe_callB call_abs (by rfl) T.abs (by decide +kernel) (pa_cons (pv 4) pa_nil)) (pe_op op_pow pe_int pe_int)) (pv 1)) rfl)
        (pss_one (ps_ret (pe_op op_modN (pe_op op_sub (pe_callB call_abs (by rfl) T.abs (by decide +kernel) (pa_cons (pv 4) pa_nil)) (pe_op op_pow pe_int pe_int)) (pv 1))))) pss_nil)
      (pss_cons (ps_set (i := 5) sc_draw.nd rfl (Or.inl rfl) (pe_op op_add (pe_op op_mulW (pe_op op_modN (pe_callTy call_int1 (by rfl) T.int (by decide +kernel) (pa_cons (pv 4) pa_nil)) pe_int) pe_int) (pe_op op_mulW (pe_op op_mulW pe_int (pv 3)) (pv 3))))
      (pss_cons (ps_set (i := 5) sc_draw.nd rfl (Or.inl rfl) (pe_op op_modN (pe_callTy call_int1 (by rfl) T.int (by decide +kernel) (pa_cons (pe_op op_add (pe_op op_add (pv 5) (pe_op op_mulW pe_int (pv 3))) pe_int) pa_nil)) pe_int))
      (pss_cons (ps_set (i := 5) sc_draw.nd rfl (Or.inl rfl) (pe_op op_modN (pe_callTy call_int1 (by rfl) T.int (by decide +kernel) (pa_cons (pe_op op_add (pe_op op_add (pe_op op_add (pe_op op_mulW (pv 5) (pv 5)) (pe_op op_mulW pe_int (pv 5))) (pe_op op_mulW pe_int (pv 3))) pe_int) pa_nil)) pe_int))
      (pss_cons (ps_set (i := 5) sc_draw.nd rfl (Or.inl rfl) (pe_op op_fdivW (pe_op op_modN (pe_callTy call_int1 (by rfl) T.int (by decide +kernel) (pa_cons (pe_op op_mulW (pv 5) (pe_op op_add (pv 5) pe_int)) pa_nil)) pe_int) pe_int))
      (pss_cons (ps_if (pt_cmpR op_gt (pv 1) pe_int (nomark _)) (pss_one (ps_set (i := 5) sc_draw.nd rfl (Or.inl rfl) (pe_op op_add (pv 5) (pe_op op_mulW pe_int (pe_call G hr rfl D.mgf D.kp D.bd .nil pass0 (pa_cons (pv 0) (pa_cons (pe_op op_add (pe_op op_fdivW (pv 1) pe_int) pe_int) pa_nil))))))) pss_nil)
      (pss_one (ps_ret (pe_op op_modN (pe_callTy call_int1 (by rfl) T.int (by decide +kernel) (pa_cons (pv 5) pa_nil)) (pv 1)))))))))))))), ?_⟩
    obtain ⟨cs, u, l, h1, h2, hu0, hun, hc⟩ := hP
    have hdiv : CDivW 0 m := wide_div hm0 (b := 200) (by omega) (by decide) (by decide)
    refine ⟨_, rfl, p, _, rfl, dget_left h1, _, _, rfl, rfl, _, rfl, ite2 (fun hl => ?_) (fun hl => ?_)⟩
    · refine ⟨_, rfl, p, _, rfl, dget_left h1, .inl ⟨_, rfl, _, rfl, _, _, rfl, rfl, (by omega), ?_⟩⟩
      refine ⟨_, rfl, p, _, rfl, dget_left h1, _, rfl, _, _, rfl, rfl, hdiv, _, rfl, p, _, rfl, dput_left h1, ?_⟩
      refine ⟨_, rfl, k _ _ ⟨Wr.mk'.but, cs, u, _, upd_same, ?_, hu0, by omega, hc⟩ (fmod_bounds _ hm0).1 (fmod_bounds _ hm0).2⟩
      rw [upd_ne (ne_of h2 h1 (by intro z; cases z))]
      exact h2
    · refine ⟨_, rfl, p, _, rfl, dget_used h1, ?_⟩
      refine ⟨_, rfl, _, _, rfl, rfl, _, rfl, p, _, rfl, dput_used h1, ?_⟩
      have hpc : c ≠ p := ne_of h2 h1 (by intro z; cases z)
      have w1 : Wr H p (.dK (penK c (u + 1) l)) (upd H p (.dK (penK c (u + 1) l))) := .mk'
      generalize upd H p (HO.dK (penK c (u + 1) l)) = H1 at w1 ⊢
      have g2 : H1 c = some (.lst (cs.map V.int)) := (w1.els c hpc).trans h2
      have hu62 : 0 ≤ u ∧ u < 2 ^ 60 := ⟨hu0, by omega⟩
      refine ⟨_, rfl, _, _, rfl, rfl, .inl (by decide), _, _, rfl, rfl, ?_⟩
      refine ⟨_, rfl, p, _, rfl, dget_cells w1.here, by decide, fun q H2 n2 => ⟨c, q, _, rfl, rfl, SqL.of (n2.same _ _ g2), n2.here, _, rfl, ?_⟩⟩
      have i1 := n2.same _ _ w1.here
      have i2 := n2.same _ _ g2
      have hD : ∀ H3, Same H1 H3 → DrewP H p c (n + 1) H3 := fun H3 s3 => ⟨w1.but.trans (.of s3), cs, u + 1, l, s3 _ _ w1.here, s3 _ _ g2, by omega, by omega, hc⟩
      have sq : Same H1 H2 := n2.same
      have hcl : (cs.map V.int).length = cs.length := List.length_map _
      have hle : ∀ z : Int, 0 ≤ z.fmod m ∧ z.fmod m < m := fun z => fmod_bounds z hm0
      have hD1 : ∀ H3, Same H1 H3 → DrewP H p c (n + (d + 1)) H3 := fun H3 s3 => (hD H3 s3).mono (by omega)
      refine ite2 (fun hb => ?_) (fun hb => ?_)
      · have hpos : 0 < cs.length := by
          cases cs with
          | nil => simp at hb
          | cons _ _ => simp
        obtain ⟨h0, h9⟩ := fmod_bounds u (m := ((cs.map V.int).length : Int)) (by rw [hcl]; omega)
        obtain ⟨j, hj⟩ : ∃ j : Nat, u.fmod ((cs.map V.int).length : Int) = j := ⟨_, (Int.toNat_of_nonneg h0).symm⟩
        have hjl : j < cs.length := by rw [hj, hcl] at h9; omega
        refine ⟨_, rfl, p, _, rfl, dget_cells i1, _, rfl, .inl ⟨_, rfl, _, rfl, p, _, rfl, dget_cells i1, c, _, rfl, .inl (SqL.of i2), _, _, rfl, rfl, (by rw [hcl]; omega), c, _, _, V.int cs[j], rfl, rfl, SqL.of i2, ?_, ?_⟩⟩
        · rw [hj, atI_nat]
          simp [hjl]
        generalize cs[j] = cell
        clear hj h0 h9 hjl hpos
        revert cell
        intro cell
        have pw : CPow 10 18 := ⟨by decide, by decide, by decide⟩
        have last : ∀ (b : Int) (H3 : Hp), Same H1 H3 → True := fun _ _ _ => trivial
        refine ⟨_, rfl, _, rfl, p, _, rfl, dget_cells i1, c, _, rfl, .inl (SqL.of i2), _, _, rfl, rfl, _, rfl, ?_⟩
        refine ite2 (fun hlt => ?_) (fun hlt => ?_)
        · refine ⟨_, rfl, _, rfl, _, _, rfl, rfl, pw, _, _, rfl, rfl, _, rfl, ?_⟩
          refine ite2 (fun hge => ?_) (fun hge => ?_)
          · refine ⟨_, rfl, _, rfl, _, _, rfl, rfl, pw, _, _, rfl, rfl, _, rfl, _, _, rfl, rfl, hdiv, _, rfl, p, _, rfl, dput_left i1, ?_⟩
            refine ⟨_, rfl, _, rfl, _, _, rfl, rfl, pw, _, _, rfl, rfl, _, rfl, _, _, rfl, rfl, (by omega), ?_⟩
            refine k _ _ ⟨(hD _ sq).but.trans Wr.mk'.but, cs, u + 1, _, upd_same, ?_, by omega, by omega, hc⟩ (hle _).1 (hle _).2
            rw [upd_ne hpc]
            exact i2
          · refine ⟨_, rfl, .inl ⟨_, rfl, _, _, rfl, rfl, (show (4294967231 : Int) ≠ 0 by decide), _, _, rfl, rfl, ?_, _, rfl, _, _, rfl, rfl, ?_, _, rfl, _, _, rfl, rfl, ?_, _, _, rfl, rfl, ?_⟩⟩
            · have := fmod_bounds cell (m := 4294967231) (by decide)
              exact cmul200 (by omega) (by decide)
            · exact cmul200 (by decide) (by omega)
            · exact cmul200 (by omega) (by omega)
            dsimp only
            generalize cell.fmod 4294967231 * 1103515 + 40009 * u * u = b1
            refine ⟨_, rfl, _, rfl, _, _, rfl, rfl, ?_, _, _, rfl, rfl, _, _, rfl, rfl, .inl ⟨_, rfl, _, _, rfl, rfl, (by intro z; cases z), ?_⟩⟩
            · exact cmul200 (by decide) (by omega)
            obtain ⟨g1, g3⟩ := fmod_bounds (b1 + 176461 * u + 29) (m := 4294967197) (by decide)
            dsimp only
            generalize (b1 + 176461 * u + 29).fmod 4294967197 = b2 at g1 g3 ⊢
            refine ⟨_, rfl, _, rfl, _, _, rfl, rfl, ?_, _, rfl, _, _, rfl, rfl, ?_, _, _, rfl, rfl, _, rfl, _, _, rfl, rfl, ?_, _, _, rfl, rfl, _, _, rfl, rfl, .inl ⟨_, rfl, _, _, rfl, rfl, (by intro z; cases z), ?_⟩⟩
            · exact cmul200 (by omega) (by omega)
            · exact cmul200 (by decide) (by omega)
            · exact cmul200 (by decide) (by omega)
            obtain ⟨g4, g5⟩ := fmod_bounds (b2 * b2 + 16769023 * b2 + 7 * u + 3) (m := 4294967189) (by decide)
            dsimp only
            generalize (b2 * b2 + 16769023 * b2 + 7 * u + 3).fmod 4294967189 = b3 at g4 g5 ⊢
            refine ⟨_, rfl, _, rfl, _, _, rfl, rfl, _, _, rfl, rfl, ?_, .inl ⟨_, rfl, _, _, rfl, rfl, (by intro z; cases z), _, _, rfl, rfl, ?_, ?_⟩⟩
            · exact cmul200 (by omega) (by omega)
            · exact wide_div (by decide) (b := 30) (by decide) (by decide) (by decide)
            refine ⟨_, rfl, _, _, rfl, rfl, _, rfl, ?_⟩
            refine ite2 (fun hgt => ?_) (fun _ => ?_)
            · have hm := hs m (of_decide_eq_true hgt) hm1
              refine ⟨_, rfl, _, rfl, _, rfl, _, _, rfl, rfl, wide_div (by decide) (b := 30) (by decide) (by decide) (by decide), _, _, rfl, rfl, p, c, _, n + 1, rfl, (hD _ sq).pen, by omega, hm.1, hm.2, fun H4 r d4 r0 r1 => ?_⟩
              refine ⟨_, _, rfl, rfl, cmul200 (by decide) (by omega), _, _, rfl, rfl, ?_⟩
              refine ⟨_, rfl, .inl ⟨_, rfl, _, rfl, _, _, rfl, rfl, (by omega), ?_⟩⟩
              exact k _ _ (((hD _ sq).trans d4).mono (by omega)) (hle _).1 (hle _).2
            refine ⟨_, rfl, .inl ⟨_, rfl, _, rfl, _, _, rfl, rfl, (by omega), ?_⟩⟩
            exact k _ _ (hD1 _ sq) (hle _).1 (hle _).2
        · refine iteF ?_
          refine ⟨_, rfl, .inl ⟨_, rfl, _, _, rfl, rfl, (show (4294967231 : Int) ≠ 0 by decide), _, _, rfl, rfl, ?_, _, rfl, _, _, rfl, rfl, ?_, _, rfl, _, _, rfl, rfl, ?_, _, _, rfl, rfl, ?_⟩⟩
          · have := fmod_bounds cell (m := 4294967231) (by decide)
            exact cmul200 (by omega) (by decide)
          · exact cmul200 (by decide) (by omega)
          · exact cmul200 (by omega) (by omega)
          dsimp only
          generalize cell.fmod 4294967231 * 1103515 + 40009 * u * u = b1
          refine ⟨_, rfl, _, rfl, _, _, rfl, rfl, ?_, _, _, rfl, rfl, _, _, rfl, rfl, .inl ⟨_, rfl, _, _, rfl, rfl, (by intro z; cases z), ?_⟩⟩
          · exact cmul200 (by decide) (by omega)
          obtain ⟨g1, g3⟩ := fmod_bounds (b1 + 176461 * u + 29) (m := 4294967197) (by decide)
          dsimp only
          generalize (b1 + 176461 * u + 29).fmod 4294967197 = b2 at g1 g3 ⊢
          refine ⟨_, rfl, _, rfl, _, _, rfl, rfl, ?_, _, rfl, _, _, rfl, rfl, ?_, _, _, rfl, rfl, _, rfl, _, _, rfl, rfl, ?_, _, _, rfl, rfl, _, _, rfl, rfl, .inl ⟨_, rfl, _, _, rfl, rfl, (by intro z; cases z), ?_⟩⟩
          · exact cmul200 (by omega) (by omega)
          · exact cmul200 (by decide) (by omega)
          · exact cmul200 (by decide) (by omega)
          obtain ⟨g4, g5⟩ := fmod_bounds (b2 * b2 + 16769023 * b2 + 7 * u + 3) (m := 4294967189) (by decide)
          dsimp only
          generalize (b2 * b2 + 16769023 * b2 + 7 * u + 3).fmod 4294967189 = b3 at g4 g5 ⊢
          refine ⟨_, rfl, _, rfl, _, _, rfl, rfl, _, _, rfl, rfl, ?_, .inl ⟨_, rfl, _, _, rfl, rfl, (by intro z; cases z), _, _, rfl, rfl, ?_, ?_⟩⟩
          · exact cmul200 (by omega) (by omega)
          · exact wide_div (by decide) (b := 30) (by decide) (by decide) (by decide)
          refine ⟨_, rfl, _, _, rfl, rfl, _, rfl, ?_⟩
          refine ite2 (fun hgt => ?_) (fun _ => ?_)
          · have hm := hs m (of_decide_eq_true hgt) hm1
            refine ⟨_, rfl, _, rfl, _, rfl, _, _, rfl, rfl, wide_div (by decide) (b := 30) (by decide) (by decide) (by decide), _, _, rfl, rfl, p, c, _, n + 1, rfl, (hD _ sq).pen, by omega, hm.1, hm.2, fun H4 r d4 r0 r1 => ?_⟩
            refine ⟨_, _, rfl, rfl, cmul200 (by decide) (by omega), _, _, rfl, rfl, ?_⟩
            refine ⟨_, rfl, .inl ⟨_, rfl, _, rfl, _, _, rfl, rfl, (by omega), ?_⟩⟩
            exact k _ _ (((hD _ sq).trans d4).mono (by omega)) (hle _).1 (hle _).2
          refine ⟨_, rfl, .inl ⟨_, rfl, _, rfl, _, _, rfl, rfl, (by omega), ?_⟩⟩
          exact k _ _ (hD1 _ sq) (hle _).1 (hle _).2
      · dsimp only
        generalize 37 * u + 11 = cell
        revert cell
        intro cell
        have pw : CPow 10 18 := ⟨by decide, by decide, by decide⟩
        have last : ∀ (b : Int) (H3 : Hp), Same H1 H3 → True := fun _ _ _ => trivial
        refine ⟨_, rfl, _, rfl, p, _, rfl, dget_cells i1, c, _, rfl, .inl (SqL.of i2), _, _, rfl, rfl, _, rfl, ?_⟩
        refine ite2 (fun hlt => ?_) (fun hlt => ?_)
        · refine ⟨_, rfl, _, rfl, _, _, rfl, rfl, pw, _, _, rfl, rfl, _, rfl, ?_⟩
          refine ite2 (fun hge => ?_) (fun hge => ?_)
          · refine ⟨_, rfl, _, rfl, _, _, rfl, rfl, pw, _, _, rfl, rfl, _, rfl, _, _, rfl, rfl, hdiv, _, rfl, p, _, rfl, dput_left i1, ?_⟩
            refine ⟨_, rfl, _, rfl, _, _, rfl, rfl, pw, _, _, rfl, rfl, _, rfl, _, _, rfl, rfl, (by omega), ?_⟩
            refine k _ _ ⟨(hD _ sq).but.trans Wr.mk'.but, cs, u + 1, _, upd_same, ?_, by omega, by omega, hc⟩ (hle _).1 (hle _).2
            rw [upd_ne hpc]
            exact i2
          · refine ⟨_, rfl, .inl ⟨_, rfl, _, _, rfl, rfl, (show (4294967231 : Int) ≠ 0 by decide), _, _, rfl, rfl, ?_, _, rfl, _, _, rfl, rfl, ?_, _, rfl, _, _, rfl, rfl, ?_, _, _, rfl, rfl, ?_⟩⟩
            · have := fmod_bounds cell (m := 4294967231) (by decide)
              exact cmul200 (by omega) (by decide)
            · exact cmul200 (by decide) (by omega)
            · exact cmul200 (by omega) (by omega)
            dsimp only
            generalize cell.fmod 4294967231 * 1103515 + 40009 * u * u = b1
            refine ⟨_, rfl, _, rfl, _, _, rfl, rfl, ?_, _, _, rfl, rfl, _, _, rfl, rfl, .inl ⟨_, rfl, _, _, rfl, rfl, (by intro z; cases z), ?_⟩⟩
            · exact cmul200 (by decide) (by omega)
            obtain ⟨g1, g3⟩ := fmod_bounds (b1 + 176461 * u + 29) (m := 4294967197) (by decide)
            dsimp only
            generalize (b1 + 176461 * u + 29).fmod 4294967197 = b2 at g1 g3 ⊢
            refine ⟨_, rfl, _, rfl, _, _, rfl, rfl, ?_, _, rfl, _, _, rfl, rfl, ?_, _, _, rfl, rfl, _, rfl, _, _, rfl, rfl, ?_, _, _, rfl, rfl, _, _, rfl, rfl, .inl ⟨_, rfl, _, _, rfl, rfl, (by intro z; cases z), ?_⟩⟩
            · exact cmul200 (by omega) (by omega)
            · exact cmul200 (by decide) (by omega)
            · exact cmul200 (by decide) (by omega)
            obtain ⟨g4, g5⟩ := fmod_bounds (b2 * b2 + 16769023 * b2 + 7 * u + 3) (m := 4294967189) (by decide)
            dsimp only
            generalize (b2 * b2 + 16769023 * b2 + 7 * u + 3).fmod 4294967189 = b3 at g4 g5 ⊢
            refine ⟨_, rfl, _, rfl, _, _, rfl, rfl, _, _, rfl, rfl, ?_, .inl ⟨_, rfl, _, _, rfl, rfl, (by intro z; cases z), _, _, rfl, rfl, ?_, ?_⟩⟩
            · exact cmul200 (by omega) (by omega)
            · exact wide_div (by decide) (b := 30) (by decide) (by decide) (by decide)
            refine ⟨_, rfl, _, _, rfl, rfl, _, rfl, ?_⟩
            refine ite2 (fun hgt => ?_) (fun _ => ?_)
            · have hm := hs m (of_decide_eq_true hgt) hm1
              refine ⟨_, rfl, _, rfl, _, rfl, _, _, rfl, rfl, wide_div (by decide) (b := 30) (by decide) (by decide) (by decide), _, _, rfl, rfl, p, c, _, n + 1, rfl, (hD _ sq).pen, by omega, hm.1, hm.2, fun H4 r d4 r0 r1 => ?_⟩
              refine ⟨_, _, rfl, rfl, cmul200 (by decide) (by omega), _, _, rfl, rfl, ?_⟩
              refine ⟨_, rfl, .inl ⟨_, rfl, _, rfl, _, _, rfl, rfl, (by omega), ?_⟩⟩
              exact k _ _ (((hD _ sq).trans d4).mono (by omega)) (hle _).1 (hle _).2
            refine ⟨_, rfl, .inl ⟨_, rfl, _, rfl, _, _, rfl, rfl, (by omega), ?_⟩⟩
            exact k _ _ (hD1 _ sq) (hle _).1 (hle _).2
        · refine iteF ?_
          refine ⟨_, rfl, .inl ⟨_, rfl, _, _, rfl, rfl, (show (4294967231 : Int) ≠ 0 by decide), _, _, rfl, rfl, ?_, _, rfl, _, _, rfl, rfl, ?_, _, rfl, _, _, rfl, rfl, ?_, _, _, rfl, rfl, ?_⟩⟩
          · have := fmod_bounds cell (m := 4294967231) (by decide)
            exact cmul200 (by omega) (by decide)
          · exact cmul200 (by decide) (by omega)
          · exact cmul200 (by omega) (by omega)
          dsimp only
          generalize cell.fmod 4294967231 * 1103515 + 40009 * u * u = b1
          refine ⟨_, rfl, _, rfl, _, _, rfl, rfl, ?_, _, _, rfl, rfl, _, _, rfl, rfl, .inl ⟨_, rfl, _, _, rfl, rfl, (by intro z; cases z), ?_⟩⟩
          · exact cmul200 (by decide) (by omega)
          obtain ⟨g1, g3⟩ := fmod_bounds (b1 + 176461 * u + 29) (m := 4294967197) (by decide)
          dsimp only
          generalize (b1 + 176461 * u + 29).fmod 4294967197 = b2 at g1 g3 ⊢
          refine ⟨_, rfl, _, rfl, _, _, rfl, rfl, ?_, _, rfl, _, _, rfl, rfl, ?_, _, _, rfl, rfl, _, rfl, _, _, rfl, rfl, ?_, _, _, rfl, rfl, _, _, rfl, rfl, .inl ⟨_, rfl, _, _, rfl, rfl, (by intro z; cases z), ?_⟩⟩
          · exact cmul200 (by omega) (by omega)
          · exact cmul200 (by decide) (by omega)
          · exact cmul200 (by decide) (by omega)
          obtain ⟨g4, g5⟩ := fmod_bounds (b2 * b2 + 16769023 * b2 + 7 * u + 3) (m := 4294967189) (by decide)
          dsimp only
          generalize (b2 * b2 + 16769023 * b2 + 7 * u + 3).fmod 4294967189 = b3 at g4 g5 ⊢
          refine ⟨_, rfl, _, rfl, _, _, rfl, rfl, _, _, rfl, rfl, ?_, .inl ⟨_, rfl, _, _, rfl, rfl, (by intro z; cases z), _, _, rfl, rfl, ?_, ?_⟩⟩
          · exact cmul200 (by omega) (by omega)
          · exact wide_div (by decide) (b := 30) (by decide) (by decide) (by decide)
          refine ⟨_, rfl, _, _, rfl, rfl, _, rfl, ?_⟩
          refine ite2 (fun hgt => ?_) (fun _ => ?_)
          · have hm := hs m (of_decide_eq_true hgt) hm1
            refine ⟨_, rfl, _, rfl, _, rfl, _, _, rfl, rfl, wide_div (by decide) (b := 30) (by decide) (by decide) (by decide), _, _, rfl, rfl, p, c, _, n + 1, rfl, (hD _ sq).pen, by omega, hm.1, hm.2, fun H4 r d4 r0 r1 => ?_⟩
            refine ⟨_, _, rfl, rfl, cmul200 (by decide) (by omega), _, _, rfl, rfl, ?_⟩
            refine ⟨_, rfl, .inl ⟨_, rfl, _, rfl, _, _, rfl, rfl, (by omega), ?_⟩⟩
            exact k _ _ (((hD _ sq).trans d4).mono (by omega)) (hle _).1 (hle _).2
          refine ⟨_, rfl, .inl ⟨_, rfl, _, rfl, _, _, rfl, rfl, (by omega), ?_⟩⟩
          exact k _ _ (hD1 _ sq) (hle _).1 (hle _).2
end
end My
end
section
set_option Elab.async false
set_option linter.all false
set_option maxRecDepth 100000
set_option maxHeartbeats 4000000
/-! A1D4: a law's draws of great numbers, up to 5 * 10 ** 30. -/
namespace My
open PySem PySem.Spec PyProof.Rows L2
section
variable {P : Program} {w : World} {K : PySem.W.Frag} {mg : Str → Option Value} {base : Heap}
theorem ok_drawB1 {f : Addr} {fd : FuncData} (F : Fun K "_law_draw" "_law_draw" s_draw f fd) (T : TDraw mg) : FnOk P w K mg base CX0 1 f fd ["_law_pen_here", "_law_many"] (sp_drawB 60000000 1) :=
  (ok_draw F T).imp fun vs H Q E h => by
    obtain ⟨p, c, m, n, rfl, hP, hn, h0, h1, k⟩ := h
    exact ⟨p, c, m, n, rfl, hP, by omega, h0, h1, k⟩
theorem up_B {B B' : Int} (h : B' ≤ 60000000 * (B - 1)) : ∀ m : Int, 60000000 < m → m ≤ B' → 0 < m / 60000000 + 1 ∧ m / 60000000 + 1 ≤ B := fun m h1 h2 => by omega
/-- up to 5 * 10 ** 30 -/
theorem ok_drawB4 {f : Addr} {fd : FuncData} (F : Fun K "_law_draw" "_law_draw" s_draw f fd) (T : TDraw mg) (D : Def K mg "_law_draw" f fd ["_law_pen_here", "_law_many"]) : FnOk P w K mg base CX0 4 f fd ["_law_pen_here", "_law_many"] (sp_drawB 5000000000000000000000000000000 4) := by
  have g1 : FnOk P w K mg base CX0 1 f fd ["_law_pen_here", "_law_many"] (sp_drawB 60000000 1) := ok_drawB1 F T
  have g2 := ok_drawS (B' := 3000000000000000) F T (by decide) (by decide) (up_B (by decide)) D g1
  have g3 := ok_drawS (B' := 100000000000000000000000) F T (by decide) (by decide) (up_B (by decide)) D g2
  exact ok_drawS (B' := 5000000000000000000000000000000) F T (by decide) (by decide) (up_B (by decide)) D g3
end
end My
end
section
set_option Elab.async false
set_option linter.all false
set_option maxRecDepth 100000
set_option maxHeartbeats 4000000
/-! B13: numbers and dicts from signs to numbers, shown. -/
namespace My
open PySem PySem.Spec PyProof.Rows L2
/-- a number that can be shown -/
def Num (i : Int) : Prop := i.natAbs < 10 ^ 300
theorem num_shown {i : Int} (h : Num i) : (PyData.int i).shown.length ≤ 301 := by
  have := int_text_length_le10 (a := i) (k := 300) (by decide) h
  show (PySem.Str.ofString (toString i)).length ≤ 301
  rw [PySem.ofString_length]
  exact this
theorem num_log {i : Int} (h : Num i) : i.natAbs.log2 < 1920 := by
  by_cases z : i.natAbs = 0
  · rw [z]; decide
  · rw [Nat.log2_lt z]
    exact Nat.lt_of_lt_of_le h (by decide +kernel)
theorem num_showable {i : Int} (h : Num i) : (PyData.int i).showable = true := decide_eq_true (num_log h)
theorem num_sho {i : Int} (h : Num i) : Sho 301 (.int i) := ⟨num_showable h, num_shown h, Nat.zero_le _⟩
theorem num_small {i : Int} (h : i.natAbs < 10 ^ 100) : Num i := Nat.lt_of_lt_of_le h (Nat.pow_le_pow_right (show 0 < 10 by decide) (show 100 ≤ 300 by decide))
theorem num_nat {n : Nat} (h : n ≤ 1000000) : Num (n : Int) := num_small (by
  show n < 10 ^ 100
  exact Nat.lt_of_le_of_lt h (by decide +kernel))
/-- a dict from signs to numbers -/
def dictD (cs : List (Nat × Int)) : PyData := .dict ((cs.map fun e => PyData.str ⟨#[e.1]⟩).zip (cs.map fun e => PyData.int e.2))
theorem dictD_cons (e : Nat × Int) (cs : List (Nat × Int)) : ((e :: cs).map fun e => PyData.str ⟨#[e.1]⟩).zip ((e :: cs).map fun e => PyData.int e.2) = (PyData.str ⟨#[e.1]⟩, PyData.int e.2) :: ((cs.map fun e => PyData.str ⟨#[e.1]⟩).zip (cs.map fun e => PyData.int e.2)) := rfl
theorem dict_le (ts : List Str) : (dictText ts).length ≤ (ts.map (·.length)).sum + ts.length * 2 + 2 := by
  have := StrLaws.join_length_le ", " ts
  have e : (PySem.Str.ofString ", ").length = 2 := by decide
  rw [e] at this
  show (("{" : Str) ++ Str.join ", " ts ++ "}").length ≤ _
  rw [len_app, len_app]
  have e1 : ("{" : Str).length = 1 := by decide
  have e2 : ("}" : Str).length = 1 := by decide
  omega
theorem sign_sho {c : Nat} (h : c < 128) : Sho 12 (.str ⟨#[c]⟩) := by
  refine ⟨rfl, Nat.le_trans (shown_wt _ ?_) (by show 10 * 1 + 2 ≤ 12; decide), Nat.zero_le _⟩
  show ((⟨#[c]⟩ : Str).cps.toList.all fun c => decide (c < 16 ^ 8)) = true
  rw [List.all_eq_true]
  intro x hx
  have : x = c := by simpa using hx
  subst this
  exact decide_eq_true (Nat.lt_trans h (by decide))
theorem kv_sho : ∀ {cs : List (Nat × Int)}, (∀ e ∈ cs, e.1 < 128 ∧ Num e.2) → PyData.showableKv ((cs.map fun e => PyData.str ⟨#[e.1]⟩).zip (cs.map fun e => PyData.int e.2)) = true ∧
    ((PyData.shownKv ((cs.map fun e => PyData.str ⟨#[e.1]⟩).zip (cs.map fun e => PyData.int e.2))).map (·.length)).sum ≤ 315 * cs.length ∧ (PyData.shownKv ((cs.map fun e => PyData.str ⟨#[e.1]⟩).zip (cs.map fun e => PyData.int e.2))).length = cs.length
  | [], _ => ⟨rfl, Nat.le_refl _, rfl⟩
  | e :: cs, h => by
    obtain ⟨h1, h2, h3⟩ := kv_sho (cs := cs) fun x hx => h x (List.mem_cons_of_mem _ hx)
    obtain ⟨e1, e2⟩ := h e List.mem_cons_self
    rw [dictD_cons]
    refine ⟨?_, ?_, ?_⟩
    · show (_ && _ && PyData.showableKv _) = true
      rw [h1, num_showable e2]
      rfl
    · show ((((PyData.str ⟨#[e.1]⟩).shown ++ ": " ++ (PyData.int e.2).shown) :: PyData.shownKv ((cs.map fun e => PyData.str ⟨#[e.1]⟩).zip (cs.map fun e => PyData.int e.2))).map (fun x : Str => x.length)).sum ≤ _
      rw [List.map_cons, List.sum_cons, List.length_cons, len_app, len_app]
      have a := (sign_sho e1).len
      have b := num_shown e2
      have c : (PySem.Str.ofString ": ").length = 2 := by decide
      rw [c]
      omega
    · show (PyData.shownKv _).length + 1 = cs.length + 1
      rw [h3]
theorem dict_sho {cs : List (Nat × Int)} (hl : cs.length ≤ 100) (h : ∀ e ∈ cs, e.1 < 128 ∧ Num e.2) : Sho 32000 (dictD cs) := by
  obtain ⟨h1, h2, h3⟩ := kv_sho h
  refine ⟨h1, ?_, ?_⟩
  · refine Nat.le_trans (dict_le _) ?_
    rw [h3]
    omega
  · have key : ∀ cs : List (Nat × Int), (dictD cs).depth ≤ 1 := by
      intro cs
      induction cs with
      | nil => decide
      | cons e cs ih =>
        have q : (dictD (e :: cs)).depth = max (max 0 0) ((dictD cs).depth - 1) + 1 := rfl
        rw [q]
        omega
    exact Nat.le_trans (key cs) (by decide)
section
variable {K : PySem.W.Frag} {p : Addr} {H : Hp}
theorem rp_keys {st : Bool} : ∀ cs : List (Nat × Int), RpAll K p H st ((toC cs).map fun e => kV e.1) (cs.map fun e => PyData.str ⟨#[e.1]⟩)
  | [] => .nil _
  | e :: cs => .cons (.str _ _) (rp_keys cs)
theorem rp_vals {st : Bool} : ∀ cs : List (Nat × Int), RpAll K p H st ((toC cs).map (·.2)) (cs.map fun e => PyData.int e.2)
  | [] => .nil _
  | e :: cs => .cons (.int _ _) (rp_vals cs)
theorem rp_dict {d : Addr} {cs : List (Nat × Int)} (h : H d = some (.dK (toC cs))) (ne : d ≠ p) (st : Bool) : Rp K p H st (.ref d) (dictD cs) :=
  .dct h ne (rp_keys cs) (rp_vals cs) (by rw [List.length_map, List.length_map])
end
end My
end
section
set_option Elab.async false
set_option linter.all false
set_option maxRecDepth 100000
set_option maxHeartbeats 4000000
namespace My
open PySem PySem.Spec PyProof.Rows L2 LamX
abbrev LN : List Str := ["_law_script", "_law_pen_here", "_law_turn", "_law_font_here", "_law_base", "_law_power", "_law_k", "_law_numbers", "_law_number", "_law_row_here", "_law_great", "_law_is_in_here", "_law_told", "_law_house", "_law_odd_here"]
theorem sc_law : FnScope LN ["_law_script"] (defScope s_law) := ⟨rfl, rfl, rfl, by decide +kernel, rfl, by decide +kernel, by decide +kernel⟩
abbrev LX (P : Program) (w : World) (K : PySem.W.Frag) (mg : Str → Option Value) (base : Heap) (f : Addr) (cdv : Value) (A : Around) (outer : List Env) (s : Shared) (H : Hp) (E : XK) : Cx :=
  (cxOf CX0 P w K mg base LN "law" (defScope s_law) f cdv A outer s H E).nox
abbrev LR (k : Nat) (f : Addr) (cdv : Value) (A : Around) (s : Shared) : Prop := Room k (A.deeper (envOfC "law" (defScope s_law) s.heap.objs.size f cdv))
abbrev sl (o0 o1 o2 o3 o4 o5 o6 o7 o8 o9 o10 o11 o12 o13 o14 : Option V) : L2.St := [o0, o1, o2, o3, o4, o5, o6, o7, o8, o9, o10, o11, o12, o13, o14]
/-- the font that a law draws -/
structure Pf (H : Hp) (t d : Addr) (S : Str) (hs : List (Nat × Nat)) : Prop where
  at_ : H t = some (.tup [.str S, .ref d])
  dt : H d = some (.dK (toK hs))
  ok : Font2 S hs 2 10
theorem toK_pen {c : Addr} {u l : Int} {hs : List (Nat × Nat)} : penK c u l ≠ toK hs := fun h => by
  have := congrArg (fun l : List (Key × V) => l.map (·.2)) h
  cases hs with
  | nil => simp [toK] at this
  | cons e r => simp [toK] at this
theorem PenAt.neH {H : Hp} {p c d : Addr} {n : Nat} {hs : List (Nat × Nat)} (hP : PenAt H p c n) (h : H d = some (.dK (toK hs))) : d ≠ p := fun e => by
  obtain ⟨cs, u, l, h1, _⟩ := hP
  rw [e, h1] at h
  injection h with h
  injection h with h
  exact toK_pen h
theorem Pf.pen {H H1 : Hp} {p c t d : Addr} {n : Nat} {S : Str} {hs : List (Nat × Nat)} (hP : PenAt H p c n) (b : But p H H1) (h : Pf H t d S hs) : Pf H1 t d S hs := ⟨b _ _ (hP.neT h.at_) h.at_, b _ _ (hP.neH h.dt) h.dt, h.ok⟩
theorem Pf.same {H H1 : Hp} {t d : Addr} {S : Str} {hs : List (Nat × Nat)} (s : Same H H1) (h : Pf H t d S hs) : Pf H1 t d S hs := ⟨s _ _ h.at_, s _ _ h.dt, h.ok⟩
theorem FontAt.penB {H H1 : Hp} {C a p c : Addr} {n : Nat} {S : Str} {ps : List (Nat × Nat)} (hP : PenAt H p c n) (b : But p H H1) (h : FontAt H C a S ps) : FontAt H1 C a S ps := by
  obtain ⟨dx, r, ys, h1, h2, h3⟩ := h.at_
  refine ⟨dx, r, ys, b _ _ ?_ h1, b _ _ (hP.neT h2) h2, Paired.map (fun e y hy => by
    obtain ⟨q, e1, e2⟩ := hy
    exact ⟨q, e1, b _ _ (hP.neT e2) e2⟩) h3⟩
  obtain ⟨cs, u, l, e1, _⟩ := hP
  exact ne_of h1 e1 (by intro z; cases z)
theorem Pf.ext {H H1 : Hp} {t d : Addr} {S : Str} {hs : List (Nat × Nat)} (s : ExtN H H1) (h : Pf H t d S hs) : Pf H1 t d S hs := ⟨s _ _ h.at_ (fun _ z => by cases z), s _ _ h.dt (fun _ z => by cases z), h.ok⟩
abbrev B5e30 : Int := 5000000000000000000000000000000
/-- numbers up to 10 ** 30 -/
def NumsP (H : Hp) (a : Addr) (l : List Nat) : Prop := H a = some (.lst (l.map fun n => V.int ((n : Nat) : Int))) ∧ l.length ≤ 100 ∧ ∀ n ∈ l, 1 ≤ n ∧ n ≤ 10 ^ 30
/-- what a turn of the law has made -/
structure Wn (C : Addr) (H : Hp) (t d h : Addr) (S : Str) (hs tps : List (Nat × Nat)) : Prop where
  F : Pf H t d S hs
  ft : FontAt H C h S tps
theorem Wn.pen {C p c : Addr} {n : Nat} {H H1 : Hp} {t d h : Addr} {S : Str} {hs tps : List (Nat × Nat)} (hP : PenAt H p c n) (q : But p H H1) (x : Wn C H t d h S hs tps) : Wn C H1 t d h S hs tps := ⟨x.F.pen hP q, x.ft.penB hP q⟩
theorem Wn.ext {C : Addr} {H H1 : Hp} {t d h : Addr} {S : Str} {hs tps : List (Nat × Nat)} (q : ExtN H H1) (x : Wn C H t d h S hs tps) : Wn C H1 t d h S hs tps := ⟨x.F.ext q, font_ext q x.ft⟩
theorem pow25 {b m : Nat} (h : b ≤ 10) (hm : m ≤ 24) : b ^ m ≤ 10 ^ 24 := Nat.le_trans (Nat.pow_le_pow_left h m) (Nat.pow_le_pow_right (by decide) hm)
section
variable {P : Program} {w : World} {K : PySem.W.Frag} {mg : Str → Option Value} {base : Heap} {f : Addr} {cdv : Value} {A0 : Around} {outer : List Env} {s : Shared} {H0 : Hp} {E : XK}
def q0 : TS := fun D σ H => ∃ (o0 o3 o4 o5 o6 o7 o8 o9 o10 o11 o12 o13 o14 : Option V) (p c : Addr) (n i : Nat), σ = sl o0 (some (.ref p)) (some (.int ((i : Nat) : Int))) o3 o4 o5 o6 o7 o8 o9 o10 o11 o12 o13 o14 ∧ PenAt H p c n ∧ n < 2 ^ 46 ∧ ∀ H' t d S hs, DrewP H p c (n + 60) H' → Pf H' t d S hs → D.nx (sl o0 (some (.ref p)) (some (.int ((i : Nat) : Int))) (some (.ref t)) o4 o5 o6 o7 o8 o9 o10 o11 o12 o13 o14) H'
theorem st0 {fB : Addr} {fdB : FuncData} (DB : Def K mg "_law_font" fB fdB ["_law_pen_here", "_law_fewest", "_law_most"]) (GB : FnOk P w K mg base CX0 3 fB fdB ["_law_pen_here", "_law_fewest", "_law_most"] sp_font2) (hr : LR 12 f cdv A0 s) : PS (LX P w K mg base f cdv A0 outer s H0 E) (lawSt 0) q0 := by
  have r3 : Room 3 _ := hr.mono (by decide)
  refine PS.weak (ps_set (i := 3) sc_law.nd rfl (Or.inl rfl) (pe_call (E := E0) GB r3 rfl DB.mgf DB.kp DB.bd .nil pass0 (pa_cons (pv 1) (pa_cons pe_int (pa_cons pe_int pa_nil))))) ?_
  rintro D σ H ⟨o0, o3, o4, o5, o6, o7, o8, o9, o10, o11, o12, o13, o14, p, c, n, i, rfl, hP, hn, k⟩
  exact ⟨_, rfl, p, c, 2, 10, n, rfl, hP, by omega, by decide, by decide, by decide, fun H1 t d S hs d1 _ _ h1 h2 hF => k H1 t d S hs d1 ⟨h1, h2, hF.lo, Nat.le_trans hF.hi (by decide), hF.nd, hF.ab, hF.hd, hF.hl⟩⟩
def q1 (C : Addr) : TS := fun D σ H => ∃ (o0 o4 o5 o6 o7 o8 o9 o10 o11 o12 o13 o14 : Option V) (p c t d : Addr) (n i : Nat) (S : Str) (hs : List (Nat × Nat)), σ = sl o0 (some (.ref p)) (some (.int ((i : Nat) : Int))) (some (.ref t)) o4 o5 o6 o7 o8 o9 o10 o11 o12 o13 o14 ∧ PenAt H p c n ∧ n < 2 ^ 46 ∧ Pf H t d S hs ∧ ∀ H' h tps, DrewP H p c (n + 20) H' → FontAt H' C h S tps → D.nx (sl o0 (some (.ref p)) (some (.int ((i : Nat) : Int))) (some (.ref t)) (some (.int ((S.length : Nat) : Int))) o5 o6 o7 o8 o9 o10 o11 o12 (some (.ref h)) o14) H'
theorem st1 {C : Addr} (T : TB mg) {fM : Addr} {fdM : FuncData} (DM : Def K mg "_law_made_font" fM fdM ["_law_pen_here", "_law_font_here"]) (GM : FnOk P w K mg base CX0 6 fM fdM ["_law_pen_here", "_law_font_here"] (sp_made2 C)) (hr : LR 12 f cdv A0 s) : PS (LX P w K mg base f cdv A0 outer s H0 E) (lawSt 1) (q1 C) := by
  have r6 : Room 6 _ := hr.mono (by decide)
  have CL := @call_len_str (LX P w K mg base f cdv A0 outer s H0 E)
  refine PS.weak (ps_asg (pe_tup' (pa_cons (pe_call (E := E0) GM r6 rfl DM.mgf DM.kp DM.bd .nil pass0 (pa_cons (pv 1) (pa_cons (pv 3) pa_nil))) (pa_cons (pe_callB (id := "len") CL (by rfl) T.len PySem.boot_len (pa_cons (pe_ix ix_tup (pv 3) pe_int (fun _ _ => rfl)) pa_nil)) pa_nil))) (pg_tup rfl (pgs_cons (pg_name (i := 13) sc_law.nd rfl (Or.inr rfl)) (pgs_cons (pg_name (i := 4) sc_law.nd rfl (Or.inl rfl)) pgs_nil)))) ?_
  rintro D σ H ⟨o0, o4, o5, o6, o7, o8, o9, o10, o11, o12, o13, o14, p, c, t, d, n, i, S, hs, rfl, hP, hn, hF, k⟩
  refine ⟨_, rfl, _, rfl, p, c, t, d, n, S, hs, rfl, hP, by omega, hF.at_, hF.dt, hF.ok, fun H1 a tps b1 P1 ft _ => ?_⟩
  have F1 := hF.pen hP b1
  refine ⟨_, rfl, t, _, _, _, rfl, rfl, SqT.of F1.at_, at0 _ _, S, rfl, Nat.le_trans hF.ok.hi (by decide), by show 2 ≤ sizeLine; decide, fun q9 H9 n9 => ⟨q9, _, rfl, SqT.of n9.here, rfl, _, _, rfl, _, _, rfl, rfl, ?_⟩⟩
  exact k H9 a tps ⟨b1.trans (.of n9.same), P1.same n9.same⟩ (ft.same n9.same)
def q2 : TS := fun D σ H => ∃ (o0 o5 o6 o7 o8 o9 o10 o11 o12 o14 : Option V) (p t h : Addr) (i : Nat) (S : Str), σ = sl o0 (some (.ref p)) (some (.int ((i : Nat) : Int))) (some (.ref t)) (some (.int ((S.length : Nat) : Int))) o5 o6 o7 o8 o9 o10 o11 o12 (some (.ref h)) o14 ∧ True ∧ D.nx (sl o0 (some (.ref p)) (some (.int ((i : Nat) : Int))) (some (.ref t)) (some (.int ((S.length : Nat) : Int))) (some (.int ((1 : Nat) : Int))) o6 o7 o8 o9 o10 o11 o12 (some (.ref h)) o14) H
theorem st2 (hr : LR 12 f cdv A0 s) : PS (LX P w K mg base f cdv A0 outer s H0 E) (lawSt 2) q2 := by
  refine PS.weak (ps_set (i := 5) sc_law.nd rfl (Or.inl rfl) pe_int) ?_
  rintro D σ H ⟨o0, o5, o6, o7, o8, o9, o10, o11, o12, o14, p, t, h, i, S, rfl, _, k⟩
  exact k
def q3 : TS := fun D σ H => ∃ (o0 o6 o7 o8 o9 o10 o11 o12 o14 : Option V) (p c t h : Addr) (n i : Nat) (S : Str), σ = sl o0 (some (.ref p)) (some (.int ((i : Nat) : Int))) (some (.ref t)) (some (.int ((S.length : Nat) : Int))) (some (.int ((1 : Nat) : Int))) o6 o7 o8 o9 o10 o11 o12 (some (.ref h)) o14 ∧ PenAt H p c n ∧ n < 2 ^ 46 ∧ 2 ≤ S.length ∧ S.length ≤ 10 ∧ ∀ H' (m : Nat) (z6 : Option V), DrewP H p c (n + 10) H' → m ≤ 24 → D.nx (sl o0 (some (.ref p)) (some (.int ((i : Nat) : Int))) (some (.ref t)) (some (.int ((S.length : Nat) : Int))) (some (.int ((S.length ^ m : Nat) : Int))) z6 o7 o8 o9 o10 o11 o12 (some (.ref h)) o14) H'
theorem st3 (T : TB mg) {fD : Addr} {fdD : FuncData} (DD : Def K mg "_law_draw" fD fdD ["_law_pen_here", "_law_many"]) (GD : FnOk P w K mg base CX0 1 fD fdD ["_law_pen_here", "_law_many"] sp_draw) (hr : LR 12 f cdv A0 s) : PS (LX P w K mg base f cdv A0 outer s H0 E) (lawSt 3) q3 := by
  have r1 : Room 1 _ := hr.mono (by decide)
  refine PS.weak (ps_for PassesOwn.never rfl (pi_range1 rfl T.range (pa_cons (pe_call (E := E0) GD r1 rfl DD.mgf DD.kp DD.bd .nil pass0 (pa_cons (pv 1) (pa_cons pe_int pa_nil))) pa_nil)) (pg_name (i := 6) sc_law.nd rfl (Or.inl rfl))
    (pss_one (ps_set (i := 5) sc_law.nd rfl (Or.inl rfl) (pe_op op_mulW (pv 5) (pv 4))))) ?_
  rintro D σ H ⟨o0, o6, o7, o8, o9, o10, o11, o12, o14, p, c, t, h, n, i, S, rfl, hP, hn, S2, S10, k⟩
  refine ⟨_, rfl, p, c, 25, n, rfl, hP, by omega, by decide, by decide, fun H1 x d1 x0 x1 => ?_⟩
  obtain ⟨m, rfl⟩ : ∃ m : Nat, x = m := ⟨x.toNat, (Int.toNat_of_nonneg x0).symm⟩
  refine ⟨((m : Nat) : Int), rfl, by omega, by omega, ?_⟩
  refine for_it (walk_range (lo := 0) (n := ((m : Nat) : Int).toNat)) (fun j σ' H' => ∃ y6 : Option V, σ' = sl o0 (some (.ref p)) (some (.int ((i : Nat) : Int))) (some (.ref t)) (some (.int ((S.length : Nat) : Int))) (some (.int ((S.length ^ j : Nat) : Int))) y6 o7 o8 o9 o10 o11 o12 (some (.ref h)) o14 ∧ H' = H1)
    ⟨_, rfl, rfl⟩ (fun _ _ _ _ _ => trivial) ?_ ?_
  · rintro j x' σ' Ha Hb hj ⟨y6, rfl, rfl⟩ ⟨rfl, rfl⟩
    rw [Int.toNat_natCast] at hj
    have b1 := pow25 S10 (show j ≤ 24 by omega)
    have wm : CMulW ((S.length ^ j : Nat) : Int) (S.length : Int) := wide_mul (a := 100) (b := 30) (by rw [Int.natAbs_natCast]; exact Nat.lt_of_le_of_lt b1 (by decide)) (by rw [Int.natAbs_natCast]; exact Nat.lt_of_le_of_lt S10 (by decide)) (by decide) (by decide) (by decide)
    refine ⟨_, rfl, _, rfl, _, _, rfl, rfl, wm, some (V.int ((0 : Int) + (j : Nat))), ?_, rfl⟩
    dsimp only
    rw [← Int.natCast_mul, ← Nat.pow_succ]
    rfl
  · rintro σ' Hc ⟨y6, rfl, rfl⟩
    rw [Int.toNat_natCast]
    exact k _ m y6 ⟨d1.but, d1.pen.mono (by omega)⟩ (by omega)
def q4 : TS := fun D σ H => ∃ (o0 o6 o7 o8 o9 o10 o11 o12 o14 : Option V) (p c t h : Addr) (n i m pw : Nat) (S : Str), σ = sl o0 (some (.ref p)) (some (.int ((i : Nat) : Int))) (some (.ref t)) (some (.int ((S.length : Nat) : Int))) (some (.int ((pw : Nat) : Int))) o6 o7 o8 o9 o10 o11 o12 (some (.ref h)) o14 ∧ PenAt H p c n ∧ n < 2 ^ 46 ∧ 2 ≤ S.length ∧ S.length ≤ 10 ∧ 1 ≤ pw ∧ pw ≤ 10 ^ 24 ∧ ∀ H' nl l, DrewP H p c (n + 10) H' → NumsP H' nl l → D.nx (sl o0 (some (.ref p)) (some (.int ((i : Nat) : Int))) (some (.ref t)) (some (.int ((S.length : Nat) : Int))) (some (.int ((pw : Nat) : Int))) o6 (some (.ref nl)) o8 o9 o10 o11 o12 (some (.ref h)) o14) H'
theorem st4 (tm : mg "max" = none) {fD : Addr} {fdD : FuncData} (DD : Def K mg "_law_draw" fD fdD ["_law_pen_here", "_law_many"]) (GD : FnOk P w K mg base CX0 1 fD fdD ["_law_pen_here", "_law_many"] sp_draw) (GB4 : FnOk P w K mg base CX0 4 fD fdD ["_law_pen_here", "_law_many"] (sp_drawB 5000000000000000000000000000000 4)) (hr : LR 12 f cdv A0 s) : PS (LX P w K mg base f cdv A0 outer s H0 E) (lawSt 4) q4 := by
  have r4 : Room 4 _ := hr.mono (by decide)
  refine PS.weak (ps_set (i := 7) sc_law.nd rfl (Or.inl rfl) (pe_lst' (pa_cons pe_int (pa_cons (pe_op op_sub (pv 4) pe_int) (pa_cons (pv 4) (pa_cons (pe_op op_add (pv 4) pe_int) (pa_cons (pv 5) (pa_cons (pe_callB (id := "max") (call_max2 rfl) (by rfl) tm (by decide +kernel) (pa_cons pe_int (pa_cons (pe_op op_sub (pv 5) pe_int) pa_nil))) (pa_cons (pe_op op_add pe_int (pe_call (E := E0) GB4 r4 rfl DD.mgf DD.kp DD.bd .nil pass0 (pa_cons (pv 1) (pa_cons (pe_op op_pow pe_int pe_int) pa_nil)))) (pa_cons (pe_op op_pow pe_int pe_int) pa_nil)))))))))) ?_
  rintro D σ H ⟨o0, o6, o7, o8, o9, o10, o11, o12, o14, p, c, t, h, n, i, m, pw, S, rfl, hP, hn, S2, S10, p1, p2, k⟩
  have c30 : CPow 10 30 := ⟨by decide, by decide, by decide⟩
  refine ⟨_, rfl, _, _, rfl, rfl, _, rfl, _, rfl, _, _, rfl, rfl, _, rfl, _, rfl, _, _, rfl, rfl, _, _, rfl, ?_⟩
  refine ⟨_, rfl, _, _, rfl, rfl, c30, p, c, 10 ^ 30, n, rfl, hP, by omega, by decide, by decide, fun H1 x d1 x0 x1 => ?_⟩
  obtain ⟨y, rfl⟩ : ∃ y : Nat, x = y := ⟨x.toNat, (Int.toNat_of_nonneg x0).symm⟩
  refine ⟨_, _, rfl, rfl, _, _, rfl, rfl, c30, by show 8 ≤ sizeLine; decide, fun nl H2 n2 => ?_⟩
  refine k H2 nl [1, S.length - 1, S.length, S.length + 1, pw, max 1 (pw - 1), 1 + y, 10 ^ 30] ⟨d1.but.trans (.of n2.same), (d1.pen.same n2.same).mono (by omega)⟩ ⟨?_, by show 8 ≤ 100; decide, ?_⟩
  · have e1 : (S.length : Int) - 1 = ((S.length - 1 : Nat) : Int) := by omega
    have e2 : (S.length : Int) + 1 = ((S.length + 1 : Nat) : Int) := by omega
    have e3 : (if 1 < ((pw : Nat) : Int) - 1 then ((pw : Nat) : Int) - 1 else 1) = ((max 1 (pw - 1) : Nat) : Int) := by split <;> omega
    have e4 : 1 + ((y : Nat) : Int) = ((1 + y : Nat) : Int) := by omega
    have e5 : (10 : Int) ^ (30 : Int).toNat = ((10 ^ 30 : Nat) : Int) := by decide
    rw [n2.here]
    show some (HO.lst [V.int 1, V.int ((S.length : Int) - 1), V.int (S.length : Int), V.int ((S.length : Int) + 1), V.int ((pw : Nat) : Int), V.int (if 1 < ((pw : Nat) : Int) - 1 then ((pw : Nat) : Int) - 1 else 1), V.int (1 + ((y : Nat) : Int)), V.int ((10 : Int) ^ (30 : Int).toNat)]) = some (HO.lst [V.int ((1 : Nat) : Int), V.int ((S.length - 1 : Nat) : Int), V.int (S.length : Int), V.int ((S.length + 1 : Nat) : Int), V.int ((pw : Nat) : Int), V.int ((max 1 (pw - 1) : Nat) : Int), V.int ((1 + y : Nat) : Int), V.int ((10 ^ 30 : Nat) : Int)])
    rw [e1, e2, e3, e4, e5]
    rfl
  · have y30 : y < 10 ^ 30 := by
      have : ((y : Nat) : Int) < 10 ^ 30 := x1
      omega
    have p30 : (10 : Nat) ^ 24 ≤ 10 ^ 30 := by decide
    have s30 : S.length + 1 ≤ 10 ^ 30 := Nat.le_trans (show S.length + 1 ≤ 11 by omega) (by decide)
    generalize (10 : Nat) ^ 30 = B at *
    intro n hn
    simp only [List.mem_cons, List.not_mem_nil, or_false] at hn
    rcases hn with rfl | rfl | rfl | rfl | rfl | rfl | rfl | rfl <;> omega
end
end My
end
section
set_option Elab.async false
set_option linter.all false
set_option maxRecDepth 100000
set_option maxHeartbeats 4000000
namespace My
open PySem PySem.Spec PyProof.Rows L2 LamX
theorem txt_sho {z : Str} (h : ∀ c ∈ z.cps.toList, c < 16 ^ 8) (hl : z.length ≤ 150) : Sho 2000 (.str z) := by
  refine ⟨rfl, ?_, Nat.zero_le _⟩
  have := shown_wt (.str z) (List.all_eq_true.mpr fun c hc => decide_eq_true (h c hc))
  show (PyData.str z).shown.length ≤ 2000
  have e : wt (.str z) = 10 * z.length + 2 := rfl
  omega
theorem pf_low {H : Hp} {t d : Addr} {S : Str} {hs : List (Nat × Nat)} (h : Pf H t d S hs) : ∀ c ∈ S.cps.toList, c < 128 := fun c hc => alpha_low c (h.ok.ab c hc)
/-- the row of a number that is drawn -/
structure RowZ (S z : Str) : Prop where
  nu : numerD S (.str z) = true
  lo : 1 ≤ z.length
  hi : z.length ≤ 60
theorem numer_mem {S z : Str} (h : numerD S (.str z) = true) : ∀ c ∈ z.cps.toList, c ∈ S.cps.toList := fun c hc => by
  have h : (rowD S (.str z) && (decide (z.cps.toList ≠ []) && decide (z.cps.toList.head? ≠ S.cps.toList.head?))) = true := h
  rw [Bool.and_eq_true] at h
  exact of_decide_eq_true (List.all_eq_true.mp (show (z.cps.toList.all fun c => decide (c ∈ S.cps.toList)) = true from h.1) c hc)
theorem numer_of {S : Str} {l : List Nat} (h : ∀ c ∈ l, c ∈ S.cps.toList) {c : Nat} {r : List Nat} (e : l = c :: r) (ne : some c ≠ S.cps.toList.head?) : numerD S (.str (mkS l)) = true := by
  show (l.all (fun c => decide (c ∈ S.cps.toList)) && (decide (l ≠ []) && decide (l.head? ≠ S.cps.toList.head?))) = true
  have e1 : l.all (fun c => decide (c ∈ S.cps.toList)) = true := List.all_eq_true.mpr fun c hc => decide_eq_true (h c hc)
  rw [e1, decide_eq_true (show l ≠ [] from fun z => by rw [e] at z; cases z), decide_eq_true (show l.head? ≠ S.cps.toList.head? by rw [e]; exact ne)]
  rfl
theorem numer_head {S z : Str} (h : numerD S (.str z) = true) : ∃ c r, z.cps.toList = c :: r ∧ some c ≠ S.cps.toList.head? := by
  have h : (rowD S (.str z) && (decide (z.cps.toList ≠ []) && decide (z.cps.toList.head? ≠ S.cps.toList.head?))) = true := h
  rw [Bool.and_eq_true, Bool.and_eq_true, decide_eq_true_eq, decide_eq_true_eq] at h
  cases e : z.cps.toList with
  | nil => exact absurd e h.2.1
  | cons c r =>
    refine ⟨c, r, rfl, ?_⟩
    have := h.2.2
    rw [e] at this
    exact this
theorem RowZ.app {S z : Str} {c : Nat} (h : RowZ S z) (hc : c ∈ S.cps.toList) (hl : z.length < 60) : RowZ S (z ++ ⟨#[c]⟩) := by
  obtain ⟨c0, r, e, ne⟩ := numer_head h.nu
  have ez : z ++ (⟨#[c]⟩ : Str) = mkS (z.cps.toList ++ [c]) := by
    obtain ⟨⟨l⟩⟩ := z
    show (⟨(l.toArray ++ #[c])⟩ : Str) = ⟨(l ++ [c]).toArray⟩
    simp
  have zl : z.cps.toList.length = z.length := Array.length_toList
  rw [ez]
  refine ⟨numer_of (fun x hx => ?_) (c := c0) (r := r ++ [c]) (by rw [e]; rfl) ne, ?_, ?_⟩
  · rcases List.mem_append.mp hx with hx | hx
    · exact numer_mem h.nu x hx
    · rw [List.mem_singleton.mp hx]
      exact hc
  · rw [mkS_len, List.length_append]
    show 1 ≤ z.cps.toList.length + 1
    omega
  · rw [mkS_len, List.length_append]
    show z.cps.toList.length + 1 ≤ 60
    omega
theorem great_row {S z : Str} (h : RowZ S z) : numerD S (.str (cutS (mkS (repS 4000 z.cps.toList)) none (some ((4000 : Nat) : Int)))) = true ∧ (cutS (mkS (repS 4000 z.cps.toList)) none (some ((4000 : Nat) : Int))).length ≤ 4000 := by
  obtain ⟨c0, r, e, ne⟩ := numer_head h.nu
  have ec := cut_to (mkS (repS 4000 z.cps.toList)) 4000
  have e0 : (mkS (repS 4000 z.cps.toList)).cps.toList = repS 4000 z.cps.toList := rfl
  rw [e0] at ec
  generalize cutS (mkS (repS 4000 z.cps.toList)) none (some ((4000 : Nat) : Int)) = G at ec
  have eG : G = mkS G.cps.toList := (mkS_self G).symm
  have ex : ∃ m, (4000 : Nat) = m + 1 := ⟨3999, rfl⟩
  refine ⟨?_, ?_⟩
  · rw [eG, ec]
    obtain ⟨m, em⟩ := ex
    have er : repS 4000 z.cps.toList = c0 :: (r ++ repS m z.cps.toList) := by
      rw [em]
      unfold repS
      rw [List.replicate_succ, List.flatten_cons, e]
      rfl
    refine numer_of (fun x hx => ?_) (c := c0) (r := (r ++ repS m z.cps.toList).take m) (by rw [er, em]; rfl) ne
    have hx := List.mem_of_mem_take hx
    unfold repS at hx
    obtain ⟨l, hl, hx⟩ := List.mem_flatten.mp hx
    rw [List.eq_of_mem_replicate hl] at hx
    exact numer_mem h.nu x hx
  · have gl : G.cps.toList.length = G.length := Array.length_toList
    rw [← gl, ec]
    exact List.length_take_le _ _
theorem valR_num {S z : Str} (h : RowZ S z) (S2 : 2 ≤ S.length) (S10 : S.length ≤ 10) : Num ((valR S.length S.cps.toList 0 z.cps.toList : Nat) : Int) := by
  have zl : z.cps.toList.length = z.length := Array.length_toList
  have Sl : S.cps.toList.length = S.length := Array.length_toList
  have q := valR_lt (b := S.length) (S := S.cps.toList) (by omega) (by omega) z.cps.toList 0 0 (numer_mem h.nu) (by rw [Nat.pow_zero]; exact Nat.zero_lt_one)
  have h60 : 0 + z.cps.toList.length ≤ 60 := by have := h.hi; omega
  refine num_small ?_
  rw [Int.natAbs_natCast]
  refine Nat.lt_of_lt_of_le q (Nat.le_trans (Nat.pow_le_pow_left S10 _) (Nat.le_trans (Nat.pow_le_pow_right (by decide) h60) ?_))
  exact Nat.pow_le_pow_right (by decide) (by decide)
section
variable {P : Program} {w : World} {K : PySem.W.Frag} {mg : Str → Option Value} {base : Heap} {f : Addr} {cdv : Value} {A0 : Around} {outer : List Env} {s : Shared} {H0 : Hp} {E : XK}
def q5 (C : Addr) : TS := fun D σ H => ∃ (o0 o6 o8 o9 o10 o11 o12 o14 : Option V) (p c t d h nl : Addr) (n i m pw : Nat) (S : Str) (hs tps : List (Nat × Nat)) (l : List Nat), σ = sl o0 (some (.ref p)) (some (.int ((i : Nat) : Int))) (some (.ref t)) (some (.int ((S.length : Nat) : Int))) (some (.int ((pw : Nat) : Int))) o6 (some (.ref nl)) o8 o9 o10 o11 o12 (some (.ref h)) o14 ∧ PenAt H p c n ∧ n < 2 ^ 46 ∧ Wn C H t d h S hs tps ∧ NumsP H nl l ∧ ∀ H' y8 y9, DrewP H p c (n + 20) H' → D.nx (sl o0 (some (.ref p)) (some (.int ((i : Nat) : Int))) (some (.ref t)) (some (.int ((S.length : Nat) : Int))) (some (.int ((pw : Nat) : Int))) o6 (some (.ref nl)) y8 y9 o10 o11 o12 (some (.ref h)) o14) H'
theorem st5 {C : Addr} (T : TB mg) {fD : Addr} {fdD : FuncData} (DD : Def K mg "_law_draw" fD fdD ["_law_pen_here", "_law_many"]) (GD : FnOk P w K mg base CX0 1 fD fdD ["_law_pen_here", "_law_many"] sp_draw) {fW : Addr} {fdW : FuncData} (DW : Def K mg "written" fW fdW ["font", "number"]) (GW : FnOk P w K mg base CX0 4 fW fdW ["font", "number"] (sp_writ C)) {fL : Addr} {fdL : FuncData} (DL : Def K mg "_law_row" fL fdL ["_law_font_here", "_law_number"]) (GL : FnOk P w K mg base CX0 1 fL fdL ["_law_font_here", "_law_number"] (sp_lrow K)) {fN : Addr} {fdN : FuncData} (DN : Def K mg "number_of" fN fdN ["font", "row"]) (GN : FnOk P w K mg base CX0 4 fN fdN ["font", "row"] (sp_numof C)) (gd : (A0.deeper (envOfC "law" (defScope s_law) s.heap.objs.size f cdv)).guards = some []) (hr : LR 12 f cdv A0 s) : PS (LX P w K mg base f cdv A0 outer s H0 E) (lawSt 5) (q5 C) := by
  have r1 : Room 1 _ := hr.mono (by decide)
  have r4 : Room 4 _ := hr.mono (by decide)
  have hu64 : (A0.deeper (envOfC "law" (defScope s_law) s.heap.objs.size f cdv)).units + 64 < cLine := by have := hr.un; omega
  refine PS.weak (ps_for PassesOwn.never rfl (pi_list (pe_op op_cat' (pv 7) (by exact (pe_lc (own := [("_law_k", 6)]) (g := gName 6) (tt := tYes) rfl sc_law.nd (pi_range1 rfl T.range (pa_cons pe_int pa_nil)) (blkOk_by (own := [("_law_k", 6)]) (N := LN) (sc := defScope s_law) (by decide +kernel))
      (fun _ _ _ _ _ => pg_name (i := 6) sc_law.nd rfl (Or.inl rfl)) (fun _ _ _ _ _ => pts_nil) (fun _ _ _ _ _ => pe_op op_add pe_int (pe_call (E := E0) GD r1 rfl DD.mgf DD.kp DD.bd .nil pass0 (pa_cons (pv 1) (pa_cons pe_int pa_nil)))))))) (pg_name (i := 8) sc_law.nd rfl (Or.inl rfl))
    (pss_cons (ps_set (i := 9) sc_law.nd rfl (Or.inl rfl) (pe_call (E := E0) GW r4 rfl DW.mgf DW.kp DW.bd .nil pass0 (pa_cons (pv 13) (pa_cons (pv 8) pa_nil))))
    (pss_one (ps_if (PW.pt (pw_or (pt_cmpR op_ne (pe_callB (id := "repr") (call_reprQ gd hu64) (by rfl) T.repr (by decide +kernel) (pa_cons (pv 9) pa_nil)) (pe_callB (id := "repr") (call_reprQ gd hu64) (by rfl) T.repr (by decide +kernel) (pa_cons (pe_call (E := E0) GL r1 rfl DL.mgf DL.kp DL.bd .nil pass0 (pa_cons (pv 3) (pa_cons (pv 8) pa_nil))) pa_nil)) (nomark _)) (pw_or1 (pt_cmpR op_ne (pe_callB (id := "repr") (call_reprQ gd hu64) (by rfl) T.repr (by decide +kernel) (pa_cons (pe_call (E := E0) GN r4 rfl DN.mgf DN.kp DN.bd .nil pass0 (pa_cons (pv 13) (pa_cons (pv 9) pa_nil))) pa_nil)) (pe_callB (id := "repr") (call_reprQ gd hu64) (by rfl) T.repr (by decide +kernel) (pa_cons (pv 8) pa_nil)) (nomark _))))) (pss_one (ps_ret pe_bl)) pss_nil)))) ?_
  rintro D σ H ⟨o0, o6, o8, o9, o10, o11, o12, o14, p, c, t, d, h, nl, n, i, m, pw, S, hs, tps, l, rfl, hP, hn, hW, hN, k⟩
  have S10 := hW.F.ok.hi
  have S2 := hW.F.ok.lo
  have nd := hW.F.ok.nd
  obtain ⟨n1, n2, n3⟩ := hN
  have nlp : nl ≠ p := hP.neL n1
  refine ⟨_, rfl, 4, rfl, by decide, by decide, fun D1 hD1 => ?_⟩
  refine lc_drawn (Z := fun i x => x = .int ((0 : Int) + (i : Nat))) (walk_range (lo := 0) (n := 4)) (p := p) (c := c) (n0 := n) (m := 1) (G := fun _ => True) (fun _ y _ => ∃ z : Nat, y = .int ((z : Nat) : Int) ∧ 1 ≤ z ∧ z ≤ 1000) (fun _ _ _ _ _ h => h) hP hD1 (by decide) (fun x => rfl) (fun _ _ => trivial) ?_ ?_
  · intro j x H' C' hj hB hPj hDn hx hC
    refine ⟨_, rfl, p, c, 1000, n + 1 * j, rfl, hPj, by omega, by decide, by decide, fun H3 r d3 z0 z1 => ?_⟩
    obtain ⟨z, rfl⟩ : ∃ z : Nat, r = z := ⟨_, (Int.toNat_of_nonneg z0).symm⟩
    refine ⟨_, _, rfl, rfl, hC H3 _ (d3.mono (by omega)) ⟨1 + z, ?_, by omega, by omega⟩⟩
    exact congrArg V.int (show (1 : Int) + (z : Int) = ((1 + z : Nat) : Int) by omega)
  intro H1 ys hB hPn hD1' hl hR
  obtain ⟨l2, rfl, hl2⟩ : ∃ l2 : List Nat, ys = l2.map (fun n => V.int ((n : Nat) : Int)) ∧ ∀ n ∈ l2, 1 ≤ n ∧ n ≤ 1000 := by
    have : ∀ ys : List V, (∀ y ∈ ys, ∃ z : Nat, y = .int ((z : Nat) : Int) ∧ 1 ≤ z ∧ z ≤ 1000) → ∃ l2 : List Nat, ys = l2.map (fun n => V.int ((n : Nat) : Int)) ∧ ∀ n ∈ l2, 1 ≤ n ∧ n ≤ 1000 := by
      intro ys h
      induction ys with
      | nil => exact ⟨[], rfl, fun _ h => by cases h⟩
      | cons y ys ih =>
        obtain ⟨z, rfl, hz⟩ := h y List.mem_cons_self
        obtain ⟨l, rfl, h2⟩ := ih fun y hy => h y (List.mem_cons_of_mem _ hy)
        exact ⟨z :: l, rfl, fun n hn => by
          rcases List.mem_cons.mp hn with rfl | hn
          · exact hz
          · exact h2 n hn⟩
    refine this ys fun y hy => ?_
    obtain ⟨j, hj⟩ := List.mem_iff_getElem?.mp hy
    exact hR j y hj
  rw [List.length_map] at hl
  have nl1 := hB _ _ nlp n1
  refine ⟨nl, D1, _, _, rfl, rfl, nl1, hD1', ?_, fun q9 H2 m2 => ?_⟩
  · rw [List.length_map, List.length_map]
    exact Nat.le_trans (show l.length + l2.length ≤ 200 by omega) (by decide)
  have eqA : (l.map fun n => V.int ((n : Nat) : Int)) ++ (l2.map fun n => V.int ((n : Nat) : Int)) = (l ++ l2).map fun n => V.int ((n : Nat) : Int) := by rw [List.map_append]
  rw [eqA] at m2
  have W2 := (hW.pen hP hB).ext (ExtN.of m2.same)
  have P2 := hPn.same m2.same
  have all : ∀ n ∈ l ++ l2, 1 ≤ n ∧ n ≤ 10 ^ 30 := fun n hn => by
    rcases List.mem_append.mp hn with hn | hn
    · exact n3 n hn
    · have := hl2 n hn
      exact ⟨this.1, Nat.le_trans this.2 (by decide)⟩
  refine ⟨q9, rfl, ⟨_, SqL.of m2.here⟩, ?_⟩
  refine for_it (walk_list (xs := (l ++ l2).map fun n => V.int ((n : Nat) : Int))) (fun j σ' H' => ∃ y8 y9 : Option V, σ' = sl o0 (some (.ref p)) (some (.int ((i : Nat) : Int))) (some (.ref t)) (some (.int ((S.length : Nat) : Int))) (some (.int ((pw : Nat) : Int))) o6 (some (.ref nl)) y8 y9 o10 o11 o12 (some (.ref h)) o14 ∧ Same H2 H')
    ⟨_, _, rfl, Same.refl _⟩ (fun _ _ _ _ z => by obtain ⟨_, _, _, sm⟩ := z; exact SqL.of (sm _ _ m2.here)) ?_ ?_
  · rintro j x σ' Ha Hb hj ⟨y8, y9, rfl, sa⟩ ⟨rfl, hx⟩
    obtain ⟨e, he, rfl⟩ : ∃ e, (l ++ l2)[j]? = some e ∧ x = V.int ((e : Nat) : Int) := by
      rw [List.getElem?_map] at hx
      cases q : (l ++ l2)[j]? with
      | none => rw [q] at hx; cases hx
      | some e => rw [q] at hx; exact ⟨e, rfl, (Option.some.inj hx).symm⟩
    obtain ⟨e1, e30⟩ := all e (List.mem_of_getElem? he)
    obtain ⟨e', rfl⟩ : ∃ e', e = e' + 1 := ⟨e - 1, by omega⟩
    have Wa := W2.ext (ExtN.of sa)
    refine ⟨_, rfl, _, rfl, h, S, tps, e', rfl, Wa.ft, S2, S10, e30, fun H3 r s3 hr3 => ?_⟩
    have W3 := Wa.ext (ExtN.of s3)
    have low : ∀ c ∈ r, c < 128 := fun c hc => pf_low hW.F c (hr3.mem (by omega) c hc)
    have sho : Sho 1000000 (.str (mkS r)) := by
      have := txt_sho (z := mkS r) (fun c hc => Nat.lt_trans (low c hc) (by decide)) (by rw [mkS_len]; exact Nat.le_trans hr3.len (by decide))
      exact ⟨this.shw, Nat.le_trans this.len (by decide), this.dep⟩
    have nsho : Sho 1000000 (.int ((e' + 1 : Nat) : Int)) := by
      have := num_sho (num_small (i := ((e' + 1 : Nat) : Int)) (by rw [Int.natAbs_natCast]; exact Nat.lt_of_le_of_lt e30 (Nat.pow_lt_pow_right (by decide) (by decide))))
      exact ⟨this.shw, Nat.le_trans this.len (by decide), this.dep⟩
    refine ⟨_, rfl, _, _, 0, rfl, .rp (.str _ _), sho, _, rfl, _, rfl, t, d, S, e' + 1, rfl, SqT.of W3.F.at_, S2, S10, Nat.le_trans e30 (by decide), fun r' hr' => ?_⟩
    obtain rfl := row_uniq S2 hr3 hr'
    refine ⟨_, _, 0, rfl, .rp (.str _ _), sho, rfl, _, rfl, iteNS rfl ?_⟩
    have rl := hr3.len
    refine ⟨_, rfl, _, rfl, h, S, mkS r, tps, rfl, W3.ft, S2, S10, nd, by rw [mkS_len]; omega, row_numer nd S2 e1 hr3, fun H4 s4 => ?_⟩
    have ev : valR S.length S.cps.toList 0 (mkS r).cps.toList = e' + 1 := row_val nd S2 hr3
    rw [ev]
    exact ⟨_, _, 0, rfl, .rp (.int _ _), nsho, _, rfl, _, _, 0, rfl, .rp (.int _ _), nsho, rfl, _, rfl, iteNS rfl ⟨_, _, rfl, (sa.trans s3).trans s4⟩⟩
  · rintro σ' Hc ⟨y8, y9, rfl, sc⟩
    exact k Hc y8 y9 ⟨(hB.trans (.of m2.same)).trans (.of sc), (P2.same sc).mono (by omega)⟩
end
end My
end
section
set_option Elab.async false
set_option linter.all false
set_option maxRecDepth 100000
set_option maxHeartbeats 4000000
namespace My
open PySem PySem.Spec PyProof.Rows L2 LamX
section
variable {P : Program} {w : World} {K : PySem.W.Frag} {mg : Str → Option Value} {base : Heap} {f : Addr} {cdv : Value} {A0 : Around} {outer : List Env} {s : Shared} {H0 : Hp} {E : XK}
def q6 (C : Addr) : TS := fun D σ H => ∃ (o0 o5 o6 o7 o8 o9 o10 o11 o12 o14 : Option V) (p c t d h : Addr) (n i : Nat) (S : Str) (hs tps : List (Nat × Nat)), σ = sl o0 (some (.ref p)) (some (.int ((i : Nat) : Int))) (some (.ref t)) (some (.int ((S.length : Nat) : Int))) o5 o6 o7 o8 o9 o10 o11 o12 (some (.ref h)) o14 ∧ PenAt H p c n ∧ n < 2 ^ 46 ∧ Wn C H t d h S hs tps ∧ ∀ H' z, DrewP H p c (n + 10) H' → RowZ S z → z.length = 1 → D.nx (sl o0 (some (.ref p)) (some (.int ((i : Nat) : Int))) (some (.ref t)) (some (.int ((S.length : Nat) : Int))) o5 o6 o7 o8 (some (.str z)) o10 o11 o12 (some (.ref h)) o14) H'
theorem st6 {C : Addr} {fD : Addr} {fdD : FuncData} (DD : Def K mg "_law_draw" fD fdD ["_law_pen_here", "_law_many"]) (GD : FnOk P w K mg base CX0 1 fD fdD ["_law_pen_here", "_law_many"] sp_draw) (hr : LR 12 f cdv A0 s) : PS (LX P w K mg base f cdv A0 outer s H0 E) (lawSt 6) (q6 C) := by
  have r1 : Room 1 _ := hr.mono (by decide)
  refine PS.weak (ps_set (i := 9) sc_law.nd rfl (Or.inl rfl) (pe_ix ix_str (pe_ix ix_tup (pv 3) pe_int (fun _ _ => rfl)) (pe_op op_add pe_int (pe_call (E := E0) GD r1 rfl DD.mgf DD.kp DD.bd .nil pass0 (pa_cons (pv 1) (pa_cons (pe_op op_sub (pv 4) pe_int) pa_nil)))) (fun _ _ => rfl))) ?_
  rintro D σ H ⟨o0, o5, o6, o7, o8, o9, o10, o11, o12, o14, p, c, t, d, h, n, i, S, hs, tps, rfl, hP, hn, hW, k⟩
  have S10 := hW.F.ok.hi
  have S2 := hW.F.ok.lo
  have nd := hW.F.ok.nd
  refine ⟨_, rfl, t, _, _, _, rfl, rfl, SqT.of hW.F.at_, at0 _ _, _, rfl, _, rfl, _, _, rfl, rfl, p, c, ((S.length : Nat) : Int) - 1, n, rfl, hP, by omega, by omega, by omega, fun H1 x d1 x0 x1 => ?_⟩
  obtain ⟨y, rfl⟩ : ∃ y : Nat, x = y := ⟨x.toNat, (Int.toNat_of_nonneg x0).symm⟩
  have yb : y + 1 < S.length := by omega
  have at_ : atI S.cps.toList (1 + ((y : Nat) : Int)) = some (sgAt S (y + 1)) := by
    rw [show (1 + ((y : Nat) : Int)) = ((y + 1 : Nat) : Int) by omega]
    exact atI_nat (sgAt_at yb)
  refine ⟨_, _, rfl, rfl, S, _, _, rfl, rfl, Nat.le_trans S10 (by decide), at_, ?_⟩
  refine k H1 ⟨#[sgAt S (y + 1)]⟩ ⟨d1.but, d1.pen.mono (by omega)⟩ ⟨?_, Nat.le_refl _, by show 1 ≤ 60; decide⟩ rfl
  refine numer_of (l := [sgAt S (y + 1)]) (fun c hc => ?_) (c := sgAt S (y + 1)) (r := []) rfl (fun e => ?_)
  · rw [List.mem_singleton.mp hc]
    exact List.mem_of_getElem? (sgAt_at yb)
  · rw [head_sg (by omega)] at e
    have := sg_inj nd yb (by omega) (Option.some.inj e)
    omega
def q7 (C : Addr) : TS := fun D σ H => ∃ (o0 o5 o6 o7 o8 o10 o11 o12 o14 : Option V) (p c t d h : Addr) (n i : Nat) (S : Str) (hs tps : List (Nat × Nat)) (z : Str), σ = sl o0 (some (.ref p)) (some (.int ((i : Nat) : Int))) (some (.ref t)) (some (.int ((S.length : Nat) : Int))) o5 o6 o7 o8 (some (.str z)) o10 o11 o12 (some (.ref h)) o14 ∧ PenAt H p c n ∧ n < 2 ^ 46 ∧ Wn C H t d h S hs tps ∧ RowZ S z ∧ z.length = 1 ∧ ∀ H' z z6, DrewP H p c (n + 100) H' → RowZ S z → D.nx (sl o0 (some (.ref p)) (some (.int ((i : Nat) : Int))) (some (.ref t)) (some (.int ((S.length : Nat) : Int))) o5 z6 o7 o8 (some (.str z)) o10 o11 o12 (some (.ref h)) o14) H'
theorem st7 {C : Addr} (T : TB mg) {fD : Addr} {fdD : FuncData} (DD : Def K mg "_law_draw" fD fdD ["_law_pen_here", "_law_many"]) (GD : FnOk P w K mg base CX0 1 fD fdD ["_law_pen_here", "_law_many"] sp_draw) {fQ : Addr} {fdQ : FuncData} (DQ : Def K mg "_law_pick" fQ fdQ ["_law_pen_here", "_law_some"]) (GQ : FnOk P w K mg base CX0 2 fQ fdQ ["_law_pen_here", "_law_some"] sp_pickS) (hr : LR 12 f cdv A0 s) : PS (LX P w K mg base f cdv A0 outer s H0 E) (lawSt 7) (q7 C) := by
  have r1 : Room 1 _ := hr.mono (by decide)
  have r2 : Room 2 _ := hr.mono (by decide)
  refine PS.weak (ps_for PassesOwn.never rfl (pi_range1 rfl T.range (pa_cons (pe_call (E := E0) GD r1 rfl DD.mgf DD.kp DD.bd .nil pass0 (pa_cons (pv 1) (pa_cons pe_int pa_nil))) pa_nil)) (pg_name (i := 6) sc_law.nd rfl (Or.inl rfl))
    (pss_one (ps_set (i := 9) sc_law.nd rfl (Or.inl rfl) (pe_op op_add_str (pv 9) (pe_call (E := E0) GQ r2 rfl DQ.mgf DQ.kp DQ.bd .nil pass0 (pa_cons (pv 1) (pa_cons (pe_ix ix_tup (pv 3) pe_int (fun _ _ => rfl)) pa_nil))))))) ?_
  rintro D σ H ⟨o0, o5, o6, o7, o8, o10, o11, o12, o14, p, c, t, d, h, n, i, S, hs, tps, z, rfl, hP, hn, hW, hz, h1, k⟩
  have S10 := hW.F.ok.hi
  have S2 := hW.F.ok.lo
  refine ⟨_, rfl, p, c, 60, n, rfl, hP, by omega, by decide, by decide, fun H1 x d1 x0 x1 => ?_⟩
  obtain ⟨m, rfl⟩ : ∃ m : Nat, x = m := ⟨x.toNat, (Int.toNat_of_nonneg x0).symm⟩
  refine ⟨((m : Nat) : Int), rfl, by omega, by omega, ?_⟩
  refine for_it (walk_range (lo := 0) (n := ((m : Nat) : Int).toNat)) (fun j σ' H' => ∃ (y6 : Option V) (y : Str), σ' = sl o0 (some (.ref p)) (some (.int ((i : Nat) : Int))) (some (.ref t)) (some (.int ((S.length : Nat) : Int))) o5 y6 o7 o8 (some (.str y)) o10 o11 o12 (some (.ref h)) o14 ∧ But p H H' ∧ PenAt H' p c (n + 1 + j) ∧ RowZ S y ∧ y.length = 1 + j)
    ⟨_, z, rfl, d1.but, d1.pen, hz, by omega⟩ (fun _ _ _ _ _ => trivial) ?_ ?_
  · rintro j x' σ' Ha Hb hj ⟨y6, y, rfl, ba, Pa, hy, yl⟩ ⟨rfl, rfl⟩
    rw [Int.toNat_natCast] at hj
    have Wa := hW.pen hP ba
    refine ⟨_, rfl, _, rfl, _, rfl, t, _, _, _, rfl, rfl, SqT.of Wa.F.at_, at0 _ _, p, c, S, n + 1 + j, rfl, Pa, by omega, by omega, by omega, fun H2 e d2 he => ?_⟩
    refine ⟨_, _, rfl, rfl, ?_, ?_⟩
    · show y.length + 1 ≤ sizeLine
      exact Nat.le_trans (show y.length + 1 ≤ 100 by omega) (by decide)
    · exact ⟨_, y ++ ⟨#[e]⟩, rfl, ba.trans d2.but, d2.pen.mono (by omega), hy.app he (by omega), by
        show (y.cps ++ #[e]).size = _
        rw [Array.size_append]
        show y.length + 1 = _
        omega⟩
  · rintro σ' Hc ⟨y6, y, rfl, bc, Pc, hy, _⟩
    rw [Int.toNat_natCast] at Pc
    exact k Hc y y6 ⟨bc, Pc.mono (by omega)⟩ hy
def q8 (C : Addr) : TS := fun D σ H => ∃ (o0 o5 o6 o7 o8 o10 o11 o12 o14 : Option V) (p c t d h : Addr) (n i : Nat) (S : Str) (hs tps : List (Nat × Nat)) (z : Str), σ = sl o0 (some (.ref p)) (some (.int ((i : Nat) : Int))) (some (.ref t)) (some (.int ((S.length : Nat) : Int))) o5 o6 o7 o8 (some (.str z)) o10 o11 o12 (some (.ref h)) o14 ∧ Wn C H t d h S hs tps ∧ RowZ S z ∧ ∀ H', Same H H' → D.nx (sl o0 (some (.ref p)) (some (.int ((i : Nat) : Int))) (some (.ref t)) (some (.int ((S.length : Nat) : Int))) o5 o6 o7 o8 (some (.str z)) o10 o11 o12 (some (.ref h)) o14) H'
theorem st8 {C : Addr} (T : TB mg) {fN : Addr} {fdN : FuncData} (DN : Def K mg "number_of" fN fdN ["font", "row"]) (GN : FnOk P w K mg base CX0 4 fN fdN ["font", "row"] (sp_numof C)) {fV : Addr} {fdV : FuncData} (DV : Def K mg "_law_value" fV fdV ["_law_font_here", "_law_row_here"]) (GV : FnOk P w K mg base CX0 1 fV fdV ["_law_font_here", "_law_row_here"] (sp_lval K)) (gd : (A0.deeper (envOfC "law" (defScope s_law) s.heap.objs.size f cdv)).guards = some []) (hr : LR 12 f cdv A0 s) : PS (LX P w K mg base f cdv A0 outer s H0 E) (lawSt 8) (q8 C) := by
  have r1 : Room 1 _ := hr.mono (by decide)
  have r4 : Room 4 _ := hr.mono (by decide)
  have hu64 : (A0.deeper (envOfC "law" (defScope s_law) s.heap.objs.size f cdv)).units + 64 < cLine := by have := hr.un; omega
  refine PS.weak (ps_if (pt_cmpR op_ne (pe_callB (id := "repr") (call_reprQ gd hu64) (by rfl) T.repr (by decide +kernel) (pa_cons (pe_call (E := E0) GN r4 rfl DN.mgf DN.kp DN.bd .nil pass0 (pa_cons (pv 13) (pa_cons (pv 9) pa_nil))) pa_nil)) (pe_callB (id := "repr") (call_reprQ gd hu64) (by rfl) T.repr (by decide +kernel) (pa_cons (pe_call (E := E0) GV r1 rfl DV.mgf DV.kp DV.bd .nil pass0 (pa_cons (pv 3) (pa_cons (pv 9) pa_nil))) pa_nil)) (nomark _)) (pss_one (ps_ret pe_bl)) pss_nil) ?_
  rintro D σ H ⟨o0, o5, o6, o7, o8, o10, o11, o12, o14, p, c, t, d, h, n, i, S, hs, tps, z, rfl, hW, hz, k⟩
  have S10 := hW.F.ok.hi
  have S2 := hW.F.ok.lo
  have nd := hW.F.ok.nd
  have nsho : Sho 1000000 (.int ((valR S.length S.cps.toList 0 z.cps.toList : Nat) : Int)) := by
    have := num_sho (valR_num hz S2 S10)
    exact ⟨this.shw, Nat.le_trans this.len (by decide), this.dep⟩
  have h60 := hz.hi
  refine ⟨_, rfl, _, rfl, h, S, z, tps, rfl, hW.ft, S2, S10, nd, by omega, hz.nu, fun H1 s1 => ?_⟩
  have W1 := hW.ext (ExtN.of s1)
  refine ⟨_, _, 0, rfl, .rp (.int _ _), nsho, _, rfl, _, rfl, t, d, S, z, rfl, SqT.of W1.F.at_, S2, S10, by omega, numer_mem hz.nu, ?_⟩
  exact ⟨_, _, 0, rfl, .rp (.int _ _), nsho, rfl, _, rfl, iteNS rfl (k H1 s1)⟩
def q9 : TS := fun D σ H => ∃ (o0 o5 o6 o7 o8 o10 o11 o12 o14 : Option V) (p t h : Addr) (i : Nat) (S z : Str), σ = sl o0 (some (.ref p)) (some (.int ((i : Nat) : Int))) (some (.ref t)) (some (.int ((S.length : Nat) : Int))) o5 o6 o7 o8 (some (.str z)) o10 o11 o12 (some (.ref h)) o14 ∧ RowZ S z ∧ ∀ gz, (i = 5 → numerD S (.str gz) = true ∧ gz.length ≤ 4000) → D.nx (sl o0 (some (.ref p)) (some (.int ((i : Nat) : Int))) (some (.ref t)) (some (.int ((S.length : Nat) : Int))) o5 o6 o7 o8 (some (.str z)) (some (.str gz)) o11 o12 (some (.ref h)) o14) H
theorem st9 (T : TB mg) (hr : LR 12 f cdv A0 s) : PS (LX P w K mg base f cdv A0 outer s H0 E) (lawSt 9) q9 := by
  refine PS.weak (ps_set (i := 10) sc_law.nd rfl (Or.inl rfl) (pe_slice sl_str (pe_op (op_strN 4000 (by decide) (by decide)) (pv 9) pe_int) po_none (po_some (pe_op op_mul pe_int (pe_callTy call_int1 (by rfl) T.int (by decide +kernel) (pa_cons (pe_cmpR op_eq (pv 2) pe_int (nomark _)) pa_nil)))))) ?_
  rintro D σ H ⟨o0, o5, o6, o7, o8, o10, o11, o12, o14, p, t, h, i, S, z, rfl, hz, k⟩
  have h60 := hz.hi
  have zl : z.cps.toList.length = z.length := Array.length_toList
  have gr := great_row hz
  refine ⟨_, rfl, z, rfl, rfl, hz.lo, by omega, ?_⟩
  refine ⟨_, rfl, rfl, .inr ⟨_, rfl, _, _, rfl, rfl, .inl ⟨by decide, by decide⟩, _, rfl, _, rfl, ?_, ?_⟩⟩
  · rw [mkS_len, repS_len, zl]
    exact Nat.le_trans (Nat.mul_le_mul (Nat.le_refl 4000) h60) (by decide)
  · refine k _ fun i5 => ?_
    subst i5
    exact gr
def q10 (C : Addr) : TS := fun D σ H => ∃ (o0 o5 o6 o7 o8 o11 o12 o14 : Option V) (p c t d h : Addr) (n i : Nat) (S : Str) (hs tps : List (Nat × Nat)) (z gz : Str), σ = sl o0 (some (.ref p)) (some (.int ((i : Nat) : Int))) (some (.ref t)) (some (.int ((S.length : Nat) : Int))) o5 o6 o7 o8 (some (.str z)) (some (.str gz)) o11 o12 (some (.ref h)) o14 ∧ Wn C H t d h S hs tps ∧ (i = 5 → numerD S (.str gz) = true ∧ gz.length ≤ 4000) ∧ ∀ H', Same H H' → D.nx (sl o0 (some (.ref p)) (some (.int ((i : Nat) : Int))) (some (.ref t)) (some (.int ((S.length : Nat) : Int))) o5 o6 o7 o8 (some (.str z)) (some (.str gz)) o11 o12 (some (.ref h)) o14) H'
theorem st10 {C : Addr} {fN : Addr} {fdN : FuncData} (DN : Def K mg "number_of" fN fdN ["font", "row"]) (GN : FnOk P w K mg base CX0 4 fN fdN ["font", "row"] (sp_numof C)) {fV : Addr} {fdV : FuncData} (DV : Def K mg "_law_value" fV fdV ["_law_font_here", "_law_row_here"]) (GV : FnOk P w K mg base CX0 1 fV fdV ["_law_font_here", "_law_row_here"] (sp_lval K)) (hr : LR 12 f cdv A0 s) : PS (LX P w K mg base f cdv A0 outer s H0 E) (lawSt 10) (q10 C) := by
  have r1 : Room 1 _ := hr.mono (by decide)
  have r4 : Room 4 _ := hr.mono (by decide)
  refine PS.weak (ps_if (PW.pt (pw_and (pt_cmpR op_eq (pv 2) pe_int (nomark _)) (pw_and1 (pt_cmpR op_ne (pe_call (E := E0) GN r4 rfl DN.mgf DN.kp DN.bd .nil pass0 (pa_cons (pv 13) (pa_cons (pv 10) pa_nil))) (pe_call (E := E0) GV r1 rfl DV.mgf DV.kp DV.bd .nil pass0 (pa_cons (pv 3) (pa_cons (pv 10) pa_nil))) (nomark _))))) (pss_one (ps_ret pe_bl)) pss_nil) ?_
  rintro D σ H ⟨o0, o5, o6, o7, o8, o11, o12, o14, p, c, t, d, h, n, i, S, hs, tps, z, gz, rfl, hW, hz, k⟩
  have S10 := hW.F.ok.hi
  have S2 := hW.F.ok.lo
  have nd := hW.F.ok.nd
  refine ⟨_, rfl, rfl, _, rfl, ?_⟩
  by_cases q : i = 5
  · obtain ⟨nu, len⟩ := hz q
    have e : decide (V.int ((i : Nat) : Int) = V.int 5) = true := decide_eq_true (by rw [q]; rfl)
    rw [e]
    refine iteT ⟨_, rfl, _, rfl, h, S, gz, tps, rfl, hW.ft, S2, S10, nd, len, nu, fun H1 s1 => ?_⟩
    have W1 := hW.ext (ExtN.of s1)
    exact ⟨_, rfl, _, rfl, t, d, S, gz, rfl, SqT.of W1.F.at_, S2, S10, len, numer_mem nu, rfl, _, rfl, iteNS rfl (k H1 s1)⟩
  · have e : decide (V.int ((i : Nat) : Int) = V.int 5) = false := decide_eq_false fun z => q (by injection z with z; omega)
    rw [e]
    exact iteF (iteF (k H (Same.refl H)))
end
end My
end
section
set_option Elab.async false
set_option linter.all false
set_option maxRecDepth 100000
set_option maxHeartbeats 2000000
/-! Blsb: list(text), and that it does not stand at sys.modules' place. -/
namespace My
open PySem PySem.Spec PyProof.Rows L2
def qListSB : List V → Hp → VK → Prop := fun xs H Q => ∃ z, xs = [.str z] ∧ z.length ≤ sizeLine ∧ ∀ l H', l ≠ sysModules → New H l (.lst (signs z)) H' → Q (.ref l) H'
theorem call_listSB {X : Cx} (hh : X.A.handled = none) : CallR X (.type "list") qListSB := by
  intro pins s σ H xs us Q I r h
  obtain ⟨z, rfl, hz, q⟩ := h
  obtain ⟨u, rfl, t, rfl⟩ := vals1 r
  refine call_list_str hh z t (fun h' tk acc' c' hk hS hacc => ?_) hz
  have free := I.hok.fresh (Nat.le_refl s.heap.objs.size)
  have laid : ObjOk X.prog X.w (upd H s.heap.objs.size (.lst (signs z))) h' s.heap.objs.size (.lst (signs z)) := ⟨by rw [signs_len]; exact hz, acc'.toList, c', vals_signs hacc, by simpa using hS⟩
  exact ⟨.ref s.heap.objs.size, _, I.laid (t' := tk) hk (Nat.le_refl _) laid, rfl, q _ _ (Nat.ne_of_gt I.big) (.mk' free)⟩
end My
end
section
set_option Elab.async false
set_option linter.all false
set_option maxRecDepth 100000
set_option maxHeartbeats 4000000
namespace My
open PySem PySem.Spec PyProof.Rows L2 LamX
theorem list1_sho {d : PyData} (h : Sho 2000 d) (h10 : d.depth ≤ 10) : Sho 1000000 (.list [d]) := by
  refine ⟨?_, ?_, ?_⟩
  · show (d.showable && true) = true
    rw [h.shw]
    rfl
  · have := list_le [d.shown]
    have e : ([d.shown].map (·.length)).sum = d.shown.length := by simp
    have l := h.len
    rw [e] at this
    show (listText [d.shown]).length ≤ 1000000
    have e2 : [d.shown].length = 1 := rfl
    omega
  · show max d.depth 0 + 1 ≤ 20
    omega
/-- a value that is refused, as far as it is known -/
def ItV (K : PySem.W.Frag) (p : Addr) (H : Hp) (v : V) : Prop := (∃ d, Rp K p H true v d ∧ Sho 2000 d ∧ d.depth ≤ 10 ∧ fit d = true) ∨ OddT p H v
theorem ItV.ext {K : PySem.W.Frag} {p : Addr} {H H1 : Hp} {v : V} (s : ExtN H H1) (h : ItV K p H v) : ItV K p H1 v := by
  rcases h with ⟨d, h1, h2⟩ | ⟨a, e, n, h⟩
  · exact .inl ⟨d, h1.ext s, h2⟩
  · exact .inr ⟨a, e, n, s _ _ h (fun _ z => by cases z)⟩
theorem ItV.odd {K : PySem.W.Frag} {p : Addr} {H : Hp} {v : V} (h : (∃ d, OddD K p H v d) ∨ OddT p H v) : ItV K p H v := h.imp (fun ⟨d, h1, h2, h3, h4, h5, h6⟩ => ⟨d, h1, ⟨h4, Nat.le_trans h5 (by decide), Nat.le_trans h3 (by decide)⟩, Nat.le_trans h3 (by decide), h2⟩) id
/-- what is asked of it -/
theorem ItV.told {K : PySem.W.Frag} {p : Addr} {H : Hp} {v : V} (h : ItV K p H v) : ∃ d e, Sho 1000000 (.list [e]) ∧ ∀ H', ExtN H H' → KnD K H' v d ∧ Rq K p H' v e := by
  rcases h with ⟨d, h1, h2, h3, _⟩ | ⟨a, rfl, n, h⟩
  · exact ⟨d, d, list1_sho h2 h3, fun H' s => ⟨(h1.ext s).kn, .rp (h1.ext s)⟩⟩
  · refine ⟨.dict [], .dict ((tkD [([Sum.inr "0-", Sum.inr "0"], V.int 1)]).zip [.int 1]), list1_sho ⟨by decide +kernel, by decide +kernel, by decide +kernel⟩ (by decide +kernel), fun H' s => ?_⟩
    have h' := s _ _ h (fun _ z => by cases z)
    exact ⟨⟨.base (.dT h'), fun i e => by cases e⟩, .dt h' n (.cons (.int _ _) (.nil _))⟩
theorem p30 : (10 : Int) ^ (30 : Int).toNat = big30 := by decide +kernel
section
variable {P : Program} {w : World} {K : PySem.W.Frag} {mg : Str → Option Value} {base : Heap} {f : Addr} {cL : Addr} {A0 : Around} {outer : List Env} {s : Shared} {H0 : Hp} {E : XK}
def q11 (C PL : Addr) : TS := fun D σ H => ∃ (o0 o5 o6 o7 o8 o11 o12 o14 : Option V) (p c t d h : Addr) (n i : Nat) (S z gz : Str) (hs tps : List (Nat × Nat)), σ = sl o0 (some (.ref p)) (some (.int ((i : Nat) : Int))) (some (.ref t)) (some (.int ((S.length : Nat) : Int))) o5 o6 o7 o8 (some (.str z)) (some (.str gz)) o11 o12 (some (.ref h)) o14 ∧ PenAt H p c n ∧ n < 2 ^ 46 ∧ Wn C H t d h S hs tps ∧ RowZ S z ∧ Tabs [(PL, lamQ)] H ∧ ∀ H' y11 y12 y14, (∃ M, DrewP H p c (n + 10) M ∧ ExtN M H') → Tabs [(PL, lamQ)] H' → D.nx (sl o0 (some (.ref p)) (some (.int ((i : Nat) : Int))) (some (.ref t)) (some (.int ((S.length : Nat) : Int))) o5 o6 o7 o8 (some (.str z)) (some (.str gz)) y11 y12 (some (.ref h)) y14) H'
theorem st11 {C PL IN fIN : Addr} (T : TB mg) (hk : mg "ValueError" = none) (TE : VErr K mg "InvalidNumber" "InvalidNumber.__init__" IN fIN) (up : PySem.W.kitOne K (.ref IN) (.type "ValueError") = some true) (tb : TabB base mg cL PL)
    {fM : Addr} {fdM : FuncData} (FM : Fun K "_law_refused" "_law_refused" s_refk fM fdM) (DM : Def K mg "_law_refused" fM fdM ["_law_call"]) {fX : Addr} {fdX : FuncData} (DX : Def K mg "written" fX fdX ["font", "number"]) (GX : FnOk P w K mg base (L2.CX P w) 4 fX fdX ["font", "number"] (sp_writX K IN)) {fI : Addr} {fdI : FuncData} (DI : Def K mg "_law_is_in" fI fdI ["_law_thing", "_law_low", "_law_high"]) (GI : FnOk P w K mg base CX0 1 fI fdI ["_law_thing", "_law_low", "_law_high"] (sp_lisinK K)) {fO : Addr} {fdO : FuncData} (DO : Def K mg "_law_odd" fO fdO ["_law_pen_here"]) (GO : FnOk P w K mg base CX0 3 fO fdO ["_law_pen_here"] (sp_oddT K)) (gd : (A0.deeper (envOfC "law" (defScope s_law) s.heap.objs.size f (.ref cL))).guards = some []) (hr : LR 12 f (.ref cL) A0 s) : PS (LX P w K mg base f (.ref cL) A0 outer s H0 E) (lawSt 11) (q11 C PL) := by
  have r1 : Room 1 _ := hr.mono (by decide)
  have r3 : Room 3 _ := hr.mono (by decide)
  have r6 : Room 6 _ := hr.mono (by decide)
  have hu64 : (A0.deeper (envOfC "law" (defScope s_law) s.heap.objs.size f (.ref cL))).units + 64 < cLine := by have := hr.un; omega
  obtain ⟨ocM, odM, kVM, docM, pmM, anM, cdM, ctM, oslM, rfl, lkM, hcM⟩ := FM.ex
  refine PS.weak (ps_for PassesOwn.never rfl (pi_tup (pe_tup' (pa_cons pe_int (pa_cons (pe_un un_neg pe_int) (pa_cons (pe_op op_add (pe_op op_pow pe_int pe_int) pe_int) (pa_cons pe_bl (pa_cons pe_non (pa_cons (pv 9) (pa_cons (pe_tup' (pa_cons pe_int pa_nil)) (pa_cons (pe_call (E := E0) GO r3 rfl DO.mgf DO.kp DO.bd .nil pass0 (pa_cons (pv 1) pa_nil)) pa_nil)))))))))) (pg_name (i := 14) sc_law.nd rfl (Or.inr rfl))
    (pss_cons (ps_set (i := 11) sc_law.nd rfl (Or.inl rfl) (pe_call (E := E0) GI r1 rfl DI.mgf DI.kp DI.bd .nil pass0 (pa_cons (pv 14) (pa_cons pe_int (pa_cons (pe_op op_pow pe_int pe_int) pa_nil)))))
    (pss_cons (ps_set (i := 12) sc_law.nd rfl (Or.inl rfl) (pe_ifExp (pt_val (pv 11)) pe_non (pe_lamcall (T := [(PL, lamQ)]) (k := 4) (by rfl) DM.mgf DM.kp lkM hcM DM.bd sc_refk rfl (Or.inl rfl) (refk_gives TE T.isi hk up) tb rfl (List.mem_singleton.mpr rfl)
          (fun e he _ => by rw [List.mem_singleton.mp he]; rfl) r6 (lamS_by (by show lamSB (defScope s_law) _ = true; decide +kernel)) rfl (fun _ _ _ _ _ => rfl) (fun A' outer' s' H' E' f' c' hr' => pe_call (E := E') GX hr' (by rfl) DX.mgf DX.kp DX.bd .nil (passes_call (takes_of rfl rfl rfl rfl) (fun _ _ _ _ h => h)) (pa_cons (pv 13) (pa_cons (pv 14) pa_nil))))))
    (pss_one (ps_if (PW.pt (pw_and (pt_not (pt_val (pv 11))) (pw_and1 (pt_cmpR op_ne (pe_callB (id := "repr") (call_reprQ gd hu64) (by rfl) T.repr (by decide +kernel) (pa_cons (pv 12) pa_nil)) (pe_callB (id := "repr") (call_reprQ gd hu64) (by rfl) T.repr (by decide +kernel) (pa_cons (pe_lstB (pa_cons (pv 14) pa_nil)) pa_nil)) (nomark _))))) (pss_one (ps_ret pe_bl)) pss_nil))))) ?_
  rintro D σ H ⟨o0, o5, o6, o7, o8, o11, o12, o14, p, c, t, d, h, n, i, S, z, gz, hs, tps, rfl, hP, hn, hW, hz, hT, k⟩
  have S10 := hW.F.ok.hi
  have S2 := hW.F.ok.lo
  have c30 : CPow 10 30 := ⟨by decide, by decide, by decide⟩
  have h60 := hz.hi
  refine ⟨_, rfl, _, _, rfl, rfl, c30, _, _, rfl, rfl, _, rfl, by show 1 ≤ sizeLine; decide, fun q1 H1 n1 => ?_⟩
  have P1 := hP.same n1.same
  have np1 : q1 ≠ p := fun e => hP.ne n1.free e.symm
  refine ⟨_, rfl, p, c, n, rfl, P1, by omega, fun H2 v d2 hv => ?_⟩
  have hq1 := d2.but _ _ np1 n1.here
  have bH : But p H H2 := (But.of n1.same).trans d2.but
  have T2 : Tabs [(PL, lamQ)] H2 := tabs_but hP bH hT
  refine ⟨by show 8 ≤ sizeLine; decide, fun q2 H3 n3 => ⟨q2, rfl, ⟨_, SqT.of n3.here⟩, ?_⟩⟩
  have T3 : Tabs [(PL, lamQ)] H3 := LamX.Tabs.ext T2 n3.same
  have P3 := d2.pen.same n3.same
  have zlow : ∀ c ∈ z.cps.toList, c < 16 ^ 8 := fun c hc => Nat.lt_trans (pf_low hW.F c (numer_mem hz.nu c hc)) (by decide)
  have isho : ∀ i : Int, i.natAbs < 10 ^ 100 → Sho 2000 (.int i) := fun i h => by
    have := num_sho (num_small h)
    exact ⟨this.shw, Nat.le_trans this.len (by decide), this.dep⟩
  rw [p30] at *
  have items : ∀ x ∈ [V.int 0, V.int (-1), V.int (big30 + 1), V.bl true, V.non, V.str z, V.ref q1, v], ItV K p H3 x := by
    intro x hx
    rcases List.mem_cons.mp hx with rfl | hx
    · exact .inl ⟨_, .int _ _, isho _ (by decide), Nat.zero_le _, rfl⟩
    rcases List.mem_cons.mp hx with rfl | hx
    · exact .inl ⟨_, .int _ _, isho _ (by decide), Nat.zero_le _, rfl⟩
    rcases List.mem_cons.mp hx with rfl | hx
    · exact .inl ⟨_, .int _ _, isho _ (by decide +kernel), Nat.zero_le _, rfl⟩
    rcases List.mem_cons.mp hx with rfl | hx
    · exact .inl ⟨_, .bl _ _, ⟨rfl, by decide +kernel, by decide⟩, Nat.zero_le _, rfl⟩
    rcases List.mem_cons.mp hx with rfl | hx
    · exact .inl ⟨_, .non _, ⟨rfl, by decide +kernel, by decide⟩, Nat.zero_le _, rfl⟩
    rcases List.mem_cons.mp hx with rfl | hx
    · exact .inl ⟨_, .str _ _, txt_sho zlow (by omega), Nat.zero_le _, decide_eq_true (show z.length ≤ 4000 by omega)⟩
    rcases List.mem_cons.mp hx with rfl | hx
    · exact .inl ⟨.tuple [.int 1], .tup (n3.same _ _ hq1) np1 (.cons (.int _ _) (.nil _)), ⟨by decide +kernel, by decide +kernel, by decide +kernel⟩, by decide +kernel, by decide +kernel⟩
    rcases List.mem_cons.mp hx with rfl | hx
    · exact (ItV.odd hv).ext (ExtN.of n3.same)
    · cases hx
  generalize [V.int 0, V.int (-1), V.int (big30 + 1), V.bl true, V.non, V.str z, V.ref q1, v] = xs at items n3 ⊢
  refine for_it (walk_tup (xs := xs)) (fun j σ' H' => ∃ y11 y12 y14 : Option V, σ' = sl o0 (some (.ref p)) (some (.int ((i : Nat) : Int))) (some (.ref t)) (some (.int ((S.length : Nat) : Int))) o5 o6 o7 o8 (some (.str z)) (some (.str gz)) y11 y12 (some (.ref h)) y14 ∧ ExtN H3 H' ∧ Tabs [(PL, lamQ)] H')
    ⟨_, _, _, rfl, ExtN.refl _, T3⟩ (fun _ _ _ _ z => by obtain ⟨_, _, _, _, e, _⟩ := z; exact SqT.of (e _ _ n3.here (fun _ z => by cases z))) ?_ ?_
  · rintro j x σ' Ha Hb hj ⟨y11, y12, y14, rfl, xa, Ta⟩ ⟨rfl, hx⟩
    have iv := items x (List.mem_of_getElem? hx)
    obtain ⟨d, e, sho, kr⟩ := (iv.ext xa).told
    refine ⟨_, rfl, _, _, rfl, rfl, c30, x, d, 1, _, rfl, (kr Hb (ExtN.refl _)).1, ?_⟩
    rw [p30]
    cases hb : numD 1 (some big30) d with
    | true =>
      refine ⟨_, rfl, _, rfl, iteT ⟨_, rfl, _, rfl, iteF (iteF ⟨_, _, _, rfl, xa, Ta⟩)⟩⟩
    | false =>
      refine ⟨_, rfl, _, rfl, iteF ⟨Ta, fun H4 x4 T4 => ?_⟩⟩
      have kn4 := (kr H4 x4).1
      refine ⟨_, rfl, _, rfl, .ref h, x, d, rfl, kn4, hb, fun H5 dd s5 hdd hd5 => ⟨rfl, dd, x, rfl, hd5, fun q6 H6 ns6 n6 => ?_⟩⟩
      have x6 : ExtN Hb H6 := x4.trans ((ExtN.of s5).trans (ExtN.of n6.same))
      have T6 : Tabs [(PL, lamQ)] H6 := LamX.Tabs.ext T4 (s5.trans n6.same)
      have P6 := pen_ext ((xa.trans x4).trans (ExtN.of s5)) P3
      have np6 : q6 ≠ p := fun e => P6.ne n6.free e.symm
      have P66 := P6.same n6.same
      have rq6 := (kr H6 x6).2
      refine ⟨_, rfl, _, rfl, iteT ⟨_, rfl, _, .list [e], p, rfl, .lst n6.here np6 ns6 (.cons rq6 .nil), sho, _, rfl, by show 1 ≤ sizeLine; decide, fun q7 H7 ns7 n7 => ?_⟩⟩
      have np7 : q7 ≠ p := fun e => P66.ne n7.free e.symm
      have x7 := x6.trans (ExtN.of n7.same)
      refine ⟨_, .list [e], p, rfl, .lst n7.here np7 ns7 (.cons (kr H7 x7).2 .nil), sho, rfl, _, rfl, ?_⟩
      exact iteNS rfl ⟨_, _, _, rfl, xa.trans x7, LamX.Tabs.ext T6 n7.same⟩
  · rintro σ' Hc ⟨y11, y12, y14, rfl, xc, Tc⟩
    exact k Hc y11 y12 y14 ⟨H3, ⟨bH.trans (.of n3.same), P3.mono (by omega)⟩, xc⟩ Tc
end
end My
end
section
set_option Elab.async false
set_option linter.all false
set_option maxRecDepth 100000
set_option maxHeartbeats 4000000
namespace My
open PySem PySem.Spec PyProof.Rows L2 LamX
def sgD (c : Nat) : PyData := .str ⟨#[c]⟩
theorem sgs_rp {K : PySem.W.Frag} {p : Addr} {H : Hp} {st : Bool} : ∀ l : List Nat, RpAll K p H st (l.map fun c => V.str ⟨#[c]⟩) (l.map sgD)
  | [] => .nil _
  | c :: l => .cons (.str _ _) (sgs_rp l)
theorem sgs_data : ∀ l : List Nat, (∀ c ∈ l, c < 16 ^ 8) → chrAll (l.map sgD) = true ∧ PyData.showableAll (l.map sgD) = true ∧ PyData.depthAll (l.map sgD) ≤ 0 ∧ wtAll (l.map sgD) ≤ 20 * l.length
  | [], _ => ⟨rfl, rfl, Nat.le_refl _, Nat.le_refl _⟩
  | c :: l, h => by
    obtain ⟨h1, h2, h3, h4⟩ := sgs_data l fun x hx => h x (List.mem_cons_of_mem _ hx)
    have hc : chr (sgD c) = true := List.all_eq_true.mpr fun x hx => by
      rw [List.mem_singleton.mp hx]
      exact decide_eq_true (h c List.mem_cons_self)
    refine ⟨?_, ?_, ?_, ?_⟩
    · show (chr (sgD c) && chrAll (l.map sgD)) = true
      rw [hc, h1]
      rfl
    · show (true && PyData.showableAll (l.map sgD)) = true
      rw [h2]
      rfl
    · show max 0 (PyData.depthAll (l.map sgD)) ≤ 0
      omega
    · rw [List.map_cons, List.length_cons]
      have e : wt (sgD c) = 12 := rfl
      simp only [wtAll, e]
      omega
/-- a value that is no row of a number -/
def ItR (K : PySem.W.Frag) (p : Addr) (S : Str) (H : Hp) (v : V) : Prop := ∃ d, Rp K p H true v d ∧ Sho 2000 d ∧ d.depth ≤ 10 ∧ textFits 4000 d ∧ numerD S d = false
theorem head_bad {S z : Str} {c : Nat} {r : List Nat} (e : z.cps.toList = c :: r) (h : S.cps.toList.head? = some c) : numerD S (.str z) = false := by
  refine Bool.eq_false_iff.mpr fun q => ?_
  obtain ⟨c', r', e', ne⟩ := numer_head q
  rw [e] at e'
  injection e' with e1 e2
  subst e1
  exact ne h.symm
theorem mem_bad {S z : Str} {c : Nat} (h : c ∈ z.cps.toList) (n : c ∉ S.cps.toList) : numerD S (.str z) = false :=
  Bool.eq_false_iff.mpr fun q => n (numer_mem q c h)
theorem alpha_nob : (45 : Nat) ∉ alphabet.cps.toList := by decide +kernel
theorem alpha_noA : (65 : Nat) ∉ alphabet.cps.toList := by decide +kernel
theorem app_list (x y : Str) : (x ++ y).cps.toList = x.cps.toList ++ y.cps.toList := by
  show (x.cps ++ y.cps).toList = _
  exact Array.toList_append
section
variable {P : Program} {w : World} {K : PySem.W.Frag} {mg : Str → Option Value} {base : Heap} {f : Addr} {cL : Addr} {A0 : Around} {outer : List Env} {s : Shared} {H0 : Hp} {E : XK}
def q12 (C PL : Addr) : TS := fun D σ H => ∃ (o0 o5 o6 o7 o8 o11 o12 o14 : Option V) (p c t d h : Addr) (n i : Nat) (S z gz : Str) (hs tps : List (Nat × Nat)), σ = sl o0 (some (.ref p)) (some (.int ((i : Nat) : Int))) (some (.ref t)) (some (.int ((S.length : Nat) : Int))) o5 o6 o7 o8 (some (.str z)) (some (.str gz)) o11 o12 (some (.ref h)) o14 ∧ PenAt H p c n ∧ Wn C H t d h S hs tps ∧ RowZ S z ∧ Tabs [(PL, lamQ)] H ∧ ∀ H' y14, ExtN H H' → Tabs [(PL, lamQ)] H' → D.nx (sl o0 (some (.ref p)) (some (.int ((i : Nat) : Int))) (some (.ref t)) (some (.int ((S.length : Nat) : Int))) o5 o6 o7 o8 (some (.str z)) (some (.str gz)) o11 o12 (some (.ref h)) y14) H'
theorem st12 {C PL IR fIR : Addr} (T : TB mg) (hk : mg "ValueError" = none) (TE : VErr K mg "InvalidRow" "InvalidRow.__init__" IR fIR) (up : PySem.W.kitOne K (.ref IR) (.type "ValueError") = some true) (tb : TabB base mg cL PL)
    {fM : Addr} {fdM : FuncData} (FM : Fun K "_law_unread" "_law_unread" s_unrk fM fdM) (DM : Def K mg "_law_unread" fM fdM ["_law_call"]) {fX : Addr} {fdX : FuncData} (DX : Def K mg "number_of" fX fdX ["font", "row"]) (GX : FnOk P w K mg base (L2.CX P w) 4 fX fdX ["font", "row"] (sp_numofX K C IR)) (gd : (A0.deeper (envOfC "law" (defScope s_law) s.heap.objs.size f (.ref cL))).guards = some []) (hr : LR 12 f (.ref cL) A0 s) : PS (LX P w K mg base f (.ref cL) A0 outer s H0 E) (lawSt 12) (q12 C PL) := by
  have r6 : Room 6 _ := hr.mono (by decide)
  have hu64 : (A0.deeper (envOfC "law" (defScope s_law) s.heap.objs.size f (.ref cL))).units + 64 < cLine := by have := hr.un; omega
  obtain ⟨ocM, odM, kVM, docM, pmM, anM, cdM, ctM, oslM, rfl, lkM, hcM⟩ := FM.ex
  refine PS.weak (ps_for PassesOwn.never rfl (pi_tup (pe_tup' (pa_cons pe_str (pa_cons (pe_ix ix_str (pe_ix ix_tup (pv 3) pe_int (fun _ _ => rfl)) pe_int (fun _ _ => rfl)) (pa_cons (pe_op op_add_str (pe_ix ix_str (pe_ix ix_tup (pv 3) pe_int (fun _ _ => rfl)) pe_int (fun _ _ => rfl)) (pv 9)) (pa_cons (pe_op op_add_str (pv 9) pe_str) (pa_cons pe_str (pa_cons pe_non (pa_cons pe_int (pa_cons (pe_tup' (pa_cons (pv 9) pa_nil)) (pa_cons (pe_callTy (call_listSB hr.hd) (by rfl) T.list (by decide +kernel) (pa_cons (pv 9) pa_nil)) pa_nil))))))))))) (pg_name (i := 14) sc_law.nd rfl (Or.inr rfl))
    (pss_one (ps_if (pt_cmpR op_ne (pe_callB (id := "repr") (call_reprQ gd hu64) (by rfl) T.repr (by decide +kernel) (pa_cons (pe_lamcall (T := [(PL, lamQ)]) (k := 4) (by rfl) DM.mgf DM.kp lkM hcM DM.bd sc_unrk rfl (Or.inl rfl) (unrk_gives TE T.isi hk up) tb rfl (List.mem_singleton.mpr rfl)
          (fun e he _ => by rw [List.mem_singleton.mp he]; rfl) r6 (lamS_by (by show lamSB (defScope s_law) _ = true; decide +kernel)) rfl (fun _ _ _ _ _ => rfl) (fun A' outer' s' H' E' f' c' hr' => pe_call (E := E') GX hr' (by rfl) DX.mgf DX.kp DX.bd .nil (passes_call (takes_of rfl rfl rfl rfl) (fun _ _ _ _ h => h)) (pa_cons (pv 13) (pa_cons (pv 14) pa_nil)))) pa_nil)) (pe_callB (id := "repr") (call_reprQ gd hu64) (by rfl) T.repr (by decide +kernel) (pa_cons (pe_lstB (pa_cons (pv 14) pa_nil)) pa_nil)) (nomark _)) (pss_one (ps_ret pe_bl)) pss_nil))) ?_
  rintro D σ H ⟨o0, o5, o6, o7, o8, o11, o12, o14, p, c, t, d, h, n, i, S, z, gz, hs, tps, rfl, hP, hW, hz, hT, k⟩
  have S10 := hW.F.ok.hi
  have S2 := hW.F.ok.lo
  have h60 := hz.hi
  have Sl : S.length ≤ sizeLine := Nat.le_trans S10 (by decide)
  have low : ∀ c ∈ z.cps.toList, c < 16 ^ 8 := fun c hc => Nat.lt_trans (pf_low hW.F c (numer_mem hz.nu c hc)) (by decide)
  have low0 : sgAt S 0 < 16 ^ 8 := Nat.lt_trans (pf_low hW.F _ (List.mem_of_getElem? (sgAt_at (by omega)))) (by decide)
  have zl : z.cps.toList.length = z.length := Array.length_toList
  have a0 : atI S.cps.toList 0 = some (sgAt S 0) := atI_nat (j := 0) (sgAt_at (show 0 < S.length by omega))
  have hd0 : S.cps.toList.head? = some (sgAt S 0) := head_sg (by omega)
  have lA : ((⟨#[sgAt S 0]⟩ : Str) ++ z).length = 1 + z.length := by rw [len_app]; rfl
  have lB : (z ++ ("-" : Str)).length = z.length + 1 := by rw [len_app]; rfl
  refine ⟨_, rfl, t, _, _, _, rfl, rfl, SqT.of hW.F.at_, at0 _ _, S, _, _, rfl, rfl, Sl, a0, ?_⟩
  refine ⟨_, rfl, t, _, _, _, rfl, rfl, SqT.of hW.F.at_, at0 _ _, S, _, _, rfl, rfl, Sl, a0, _, rfl, _, _, rfl, rfl, ?_, ?_⟩
  · rw [← len_app, lA]
    exact Nat.le_trans (show 1 + z.length ≤ 100 by omega) (by decide)
  refine ⟨_, rfl, _, _, rfl, rfl, ?_, ?_⟩
  · rw [← len_app, lB]
    exact Nat.le_trans (show z.length + 1 ≤ 100 by omega) (by decide)
  refine ⟨_, rfl, by show 1 ≤ sizeLine; decide, fun q1 H1 n1 => ?_⟩
  have P1 := hP.same n1.same
  have np1 : q1 ≠ p := fun e => hP.ne n1.free e.symm
  refine ⟨_, rfl, z, rfl, Nat.le_trans (show z.length ≤ 100 by omega) (by decide), fun q2 H2 ns2 n2 => ?_⟩
  have P2 := P1.same n2.same
  have np2 : q2 ≠ p := fun e => P1.ne n2.free e.symm
  refine ⟨by show 9 ≤ sizeLine; decide, fun q3 H3 n3 => ⟨q3, rfl, ⟨_, SqT.of n3.here⟩, ?_⟩⟩
  have s3 : Same H H3 := (n1.same.trans n2.same).trans n3.same
  have T3 : Tabs [(PL, lamQ)] H3 := LamX.Tabs.ext hT s3
  have P3 := P2.same n3.same
  have W3 := hW.ext (ExtN.of s3)
  have abS := hW.F.ok.ab
  have items : ∀ x ∈ [V.str "", V.str ⟨#[sgAt S 0]⟩, V.str ((⟨#[sgAt S 0]⟩ : Str) ++ z), V.str (z ++ ("-" : Str)), V.str "A", V.non, V.int 5, V.ref q1, V.ref q2], ItR K p S H3 x := by
    intro x hx
    rcases List.mem_cons.mp hx with rfl | hx
    · exact ⟨_, .str _ _, txt_sho (fun c hc => by cases hc) (by decide), Nat.zero_le _, (by decide : (0 : Nat) ≤ 4000), by
        refine Bool.eq_false_iff.mpr fun q => ?_
        obtain ⟨c, r, e, _⟩ := numer_head q
        cases e⟩
    rcases List.mem_cons.mp hx with rfl | hx
    · exact ⟨_, .str _ _, txt_sho (fun c hc => by rw [List.mem_singleton.mp hc]; exact low0) (by show 1 ≤ 150; decide), Nat.zero_le _, (by show 1 ≤ 4000; decide), head_bad (r := []) rfl hd0⟩
    rcases List.mem_cons.mp hx with rfl | hx
    · refine ⟨_, .str _ _, txt_sho (fun c hc => ?_) (by rw [lA]; omega), Nat.zero_le _, by show ((⟨#[sgAt S 0]⟩ : Str) ++ z).length ≤ 4000; rw [lA]; omega, head_bad (r := z.cps.toList) (app_list _ _) hd0⟩
      rw [app_list] at hc
      rcases List.mem_append.mp hc with hc | hc
      · rw [List.mem_singleton.mp hc]
        exact low0
      · exact low c hc
    rcases List.mem_cons.mp hx with rfl | hx
    · refine ⟨_, .str _ _, txt_sho (fun c hc => ?_) (by rw [lB]; omega), Nat.zero_le _, by show (z ++ ("-" : Str)).length ≤ 4000; rw [lB]; omega, mem_bad (c := 45) (by rw [app_list]; exact List.mem_append_right _ (List.mem_singleton.mpr rfl)) fun q => alpha_nob (abS _ q)⟩
      rw [app_list] at hc
      rcases List.mem_append.mp hc with hc | hc
      · exact low c hc
      · rw [List.mem_singleton.mp (show c ∈ [45] from hc)]
        decide
    rcases List.mem_cons.mp hx with rfl | hx
    · exact ⟨_, .str _ _, txt_sho (fun c hc => by rw [List.mem_singleton.mp (show c ∈ [65] from hc)]; decide) (by show 1 ≤ 150; decide), Nat.zero_le _, (by show 1 ≤ 4000; decide), mem_bad (c := 65) (List.mem_singleton.mpr rfl) fun q => alpha_noA (abS _ q)⟩
    rcases List.mem_cons.mp hx with rfl | hx
    · exact ⟨_, .non _, ⟨rfl, by decide +kernel, by decide⟩, Nat.zero_le _, trivial, rfl⟩
    rcases List.mem_cons.mp hx with rfl | hx
    · exact ⟨_, .int _ _, ⟨rfl, by decide +kernel, by decide⟩, Nat.zero_le _, trivial, rfl⟩
    rcases List.mem_cons.mp hx with rfl | hx
    · refine ⟨.tuple [.str z], .tup (n3.same _ _ (n2.same _ _ n1.here)) np1 (.cons (.str _ _) (.nil _)), ⟨rfl, ?_, by show max 0 0 + 1 ≤ 20; decide⟩, by show max 0 0 + 1 ≤ 10; decide, trivial, rfl⟩
      refine Nat.le_trans (shown_wt (.tuple [.str z]) ?_) ?_
      · show (chr (.str z) && true) = true
        rw [Bool.and_true]
        exact List.all_eq_true.mpr fun c hc => decide_eq_true (low c hc)
      · have e : wt (.str z) = 10 * z.length + 2 := rfl
        show wtAll [.str z] + 4 ≤ 2000
        simp only [wtAll, e]
        omega
    rcases List.mem_cons.mp hx with rfl | hx
    · obtain ⟨d1, d2, d3, d4⟩ := sgs_data z.cps.toList low
      refine ⟨.list (z.cps.toList.map sgD), .lst (n3.same _ _ n2.here) np2 (fun _ => ns2) (sgs_rp _), ⟨d2, ?_, by show PyData.depthAll (z.cps.toList.map sgD) + 1 ≤ 20; omega⟩, by show PyData.depthAll (z.cps.toList.map sgD) + 1 ≤ 10; omega, trivial, rfl⟩
      refine Nat.le_trans (shown_wt (.list (z.cps.toList.map sgD)) d1) ?_
      show wtAll (z.cps.toList.map sgD) + 4 ≤ 2000
      omega
    · cases hx
  generalize [V.str "", V.str ⟨#[sgAt S 0]⟩, V.str ((⟨#[sgAt S 0]⟩ : Str) ++ z), V.str (z ++ ("-" : Str)), V.str "A", V.non, V.int 5, V.ref q1, V.ref q2] = xs at items n3 ⊢
  refine for_it (walk_tup (xs := xs)) (fun j σ' H' => ∃ y14 : Option V, σ' = sl o0 (some (.ref p)) (some (.int ((i : Nat) : Int))) (some (.ref t)) (some (.int ((S.length : Nat) : Int))) o5 o6 o7 o8 (some (.str z)) (some (.str gz)) o11 o12 (some (.ref h)) y14 ∧ ExtN H3 H' ∧ Tabs [(PL, lamQ)] H')
    ⟨_, rfl, ExtN.refl _, T3⟩ (fun _ _ _ _ z => by obtain ⟨_, _, e, _⟩ := z; exact SqT.of (e _ _ n3.here (fun _ z => by cases z))) ?_ ?_
  · rintro j x σ' Ha Hb hj ⟨y14, rfl, xa, Ta⟩ ⟨rfl, hx⟩
    obtain ⟨d, rp, sh, dp, tf, nn⟩ := items x (List.mem_of_getElem? hx)
    have sho := list1_sho sh dp
    refine ⟨Ta, fun H4 x4 T4 => ?_⟩
    have xa4 := xa.trans x4
    have rp4 := rp.ext xa4
    refine ⟨_, rfl, _, rfl, h, p, S, tps, x, d, rfl, (W3.ext xa4).ft, S2, S10, rp4.loose2, tf, nn, fun H5 dd s5 hdd hd5 => ⟨rfl, dd, x, rfl, hd5, fun q6 H6 ns6 n6 => ?_⟩⟩
    have x6 : ExtN H3 H6 := xa4.trans ((ExtN.of s5).trans (ExtN.of n6.same))
    have T6 : Tabs [(PL, lamQ)] H6 := LamX.Tabs.ext T4 (s5.trans n6.same)
    have P6 := pen_ext (xa4.trans (ExtN.of s5)) P3
    have np6 : q6 ≠ p := fun e => P6.ne n6.free e.symm
    have P66 := P6.same n6.same
    refine ⟨_, .list [d], p, rfl, .lst n6.here np6 ns6 (.cons (.rp (rp.ext x6)) .nil), sho, _, rfl, by show 1 ≤ sizeLine; decide, fun q7 H7 ns7 n7 => ?_⟩
    have np7 : q7 ≠ p := fun e => P66.ne n7.free e.symm
    have x7 := x6.trans (ExtN.of n7.same)
    refine ⟨_, .list [d], p, rfl, .lst n7.here np7 ns7 (.cons (.rp (rp.ext x7)) .nil), sho, rfl, _, rfl, ?_⟩
    exact iteNS rfl ⟨_, rfl, x7, LamX.Tabs.ext T6 n7.same⟩
  · rintro σ' Hc ⟨y14, rfl, xc, Tc⟩
    exact k Hc y14 ((ExtN.of s3).trans xc) Tc
end
end My
end
section
set_option Elab.async false
set_option linter.all false
set_option maxRecDepth 100000
set_option maxHeartbeats 4000000
namespace My
open PySem PySem.Spec PyProof.Rows L2 LamX
theorem ok_law {f PL cL C IN fIN IR fIR : Addr} {oc kV doc pm ct : Value} {od an : Option Addr} {osl : Array (Option Value)}
    {P : Program} {w : World} {K : PySem.W.Frag} {mg : Str → Option Value} {base : Heap}
    (lk : K.lookup f = some ⟨oc, od, .func (PySem.W.fnOf "law" "law" (defArgs s_law) (defBody s_law) (defScope s_law) .none kV doc pm an (.ref cL) ct), osl⟩) (hcd : PySem.W.codeIn K (.ref cL) "law" = true)
    (T : TB mg) (tm : mg "max" = none) (hk : mg "ValueError" = none) (tb : TabB base mg cL PL)
    (TEk : VErr K mg "InvalidNumber" "InvalidNumber.__init__" IN fIN) (upk : PySem.W.kitOne K (.ref IN) (.type "ValueError") = some true) (TEr : VErr K mg "InvalidRow" "InvalidRow.__init__" IR fIR) (upr : PySem.W.kitOne K (.ref IR) (.type "ValueError") = some true)
    {fP : Addr} {fdP : FuncData} (DP : Def K mg "_law_pen" fP fdP ["_law_script"]) (GP : FnOk P w K mg base CX0 1 fP fdP ["_law_script"] (sp_pen K))
    {fB : Addr} {fdB : FuncData} (DB : Def K mg "_law_font" fB fdB ["_law_pen_here", "_law_fewest", "_law_most"]) (GB : FnOk P w K mg base CX0 3 fB fdB ["_law_pen_here", "_law_fewest", "_law_most"] sp_font2)
    {fM : Addr} {fdM : FuncData} (DM : Def K mg "_law_made_font" fM fdM ["_law_pen_here", "_law_font_here"]) (GM : FnOk P w K mg base CX0 6 fM fdM ["_law_pen_here", "_law_font_here"] (sp_made2 C))
    {fD : Addr} {fdD : FuncData} (DD : Def K mg "_law_draw" fD fdD ["_law_pen_here", "_law_many"]) (GD : FnOk P w K mg base CX0 1 fD fdD ["_law_pen_here", "_law_many"] sp_draw)
    (GB4 : FnOk P w K mg base CX0 4 fD fdD ["_law_pen_here", "_law_many"] (sp_drawB 5000000000000000000000000000000 4))
    {fW : Addr} {fdW : FuncData} (DW : Def K mg "written" fW fdW ["font", "number"]) (GW : FnOk P w K mg base CX0 4 fW fdW ["font", "number"] (sp_writ C))
    {fL : Addr} {fdL : FuncData} (DL : Def K mg "_law_row" fL fdL ["_law_font_here", "_law_number"]) (GL : FnOk P w K mg base CX0 1 fL fdL ["_law_font_here", "_law_number"] (sp_lrow K))
    {fN : Addr} {fdN : FuncData} (DN : Def K mg "number_of" fN fdN ["font", "row"]) (GN : FnOk P w K mg base CX0 4 fN fdN ["font", "row"] (sp_numof C))
    {fQ : Addr} {fdQ : FuncData} (DQ : Def K mg "_law_pick" fQ fdQ ["_law_pen_here", "_law_some"]) (GQ : FnOk P w K mg base CX0 2 fQ fdQ ["_law_pen_here", "_law_some"] sp_pickS)
    {fV : Addr} {fdV : FuncData} (DV : Def K mg "_law_value" fV fdV ["_law_font_here", "_law_row_here"]) (GV : FnOk P w K mg base CX0 1 fV fdV ["_law_font_here", "_law_row_here"] (sp_lval K))
    (GWX : FnOk P w K mg base (L2.CX P w) 4 fW fdW ["font", "number"] (sp_writX K IN)) (GNX : FnOk P w K mg base (L2.CX P w) 4 fN fdN ["font", "row"] (sp_numofX K C IR))
    {fMa : Addr} {fdMa : FuncData} (FMa : Fun K "_law_refused" "_law_refused" s_refk fMa fdMa) (DMa : Def K mg "_law_refused" fMa fdMa ["_law_call"])
    {fMb : Addr} {fdMb : FuncData} (FMb : Fun K "_law_unread" "_law_unread" s_unrk fMb fdMb) (DMb : Def K mg "_law_unread" fMb fdMb ["_law_call"])
    {fI : Addr} {fdI : FuncData} (DI : Def K mg "_law_is_in" fI fdI ["_law_thing", "_law_low", "_law_high"]) (GI : FnOk P w K mg base CX0 1 fI fdI ["_law_thing", "_law_low", "_law_high"] (sp_lisinK K))
    {fO : Addr} {fdO : FuncData} (DO : Def K mg "_law_odd" fO fdO ["_law_pen_here"]) (GO : FnOk P w K mg base CX0 3 fO fdO ["_law_pen_here"] (sp_oddT K))
    : FnG P w K mg base 13 f (PySem.W.fnOf "law" "law" (defArgs s_law) (defBody s_law) (defScope s_law) .none kV doc pm an (.ref cL) ct) ["_law_script"] (sp_law K PL) := by
  refine okGc lk hcd sc_law (fun vs H Q E h => ?_) (fun A outer s H vs Q E g0 hr h => ?_)
  · obtain ⟨a, ns, rfl, _⟩ := h
    rfl
  · obtain ⟨a, ns, rfl, hS, hlen, hT, k⟩ := h
    have r1 : Room 1 _ := hr.mono (by decide)
    refine ⟨_, pss_cons (ps_set (i := 1) sc_law.nd rfl (Or.inr rfl) (pe_call GP r1 rfl DP.mgf DP.kp DP.bd .nil pass0 (pa_cons (pv 0) pa_nil)))
      (pss_cons (ps_for PassesOwn.never rfl (pi_range1 rfl T.range (pa_cons pe_int pa_nil)) (pg_name (i := 2) sc_law.nd rfl (Or.inl rfl))
        (pss_cons (st0 DB GB hr) (pss_cons (st1 (C := C) T DM GM hr) (pss_cons (st2 hr) (pss_cons (st3 T DD GD hr) (pss_cons (st4 tm DD GD GB4 hr) (pss_cons (st5 (C := C) T DD GD DW GW DL GL DN GN g0 hr)
        (pss_cons (st6 (C := C) DD GD hr) (pss_cons (st7 (C := C) T DD GD DQ GQ hr) (pss_cons (st8 (C := C) T DN GN DV GV g0 hr) (pss_cons (st9 T hr) (pss_cons (st10 (C := C) DN GN DV GV hr)
        (pss_cons (st11 (C := C) (PL := PL) T hk TEk upk tb FMa DMa DW GWX DI GI DO GO g0 hr) (pss_one (st12 (C := C) (PL := PL) T hk TEr upr tb FMb DMb DN GNX g0 hr)))))))))))))))
      (pss_one (ps_ret pe_bl))), ?_⟩
    refine ⟨_, rfl, a, ns, rfl, hS, hlen, fun H1 p c s1 fp hP => ?_⟩
    have T1 : Tabs [(PL, lamQ)] H1 := LamX.Tabs.ext hT s1
    refine ⟨6, rfl, by decide, by decide, for_it (walk_range (lo := 0) (n := (6 : Int).toNat)) (fun i σ' H' => ∃ (x0 x2 x3 x4 x5 x6 x7 x8 x9 x10 x11 x12 x13 x14 : Option V) (n : Nat), σ' = sl x0 (some (.ref p)) x2 x3 x4 x5 x6 x7 x8 x9 x10 x11 x12 x13 x14 ∧ PenAt H' p c n ∧ n ≤ 400 * i ∧ Tabs [(PL, lamQ)] H')
      ⟨_, _, _, _, _, _, _, _, _, _, _, _, _, _, 0, rfl, hP, Nat.le_refl _, T1⟩ (fun _ _ _ _ _ => trivial) ?_ ?_⟩
    · rintro i x' σ' Ha Hb hi ⟨x0, x2, x3, x4, x5, x6, x7, x8, x9, x10, x11, x12, x13, x14, n, rfl, hP, hn, hT⟩ ⟨rfl, rfl⟩
      have hi5 : i < 6 := hi
      have sm2 : ∀ m : Nat, m ≤ 200000 → m < 2 ^ 46 := fun m hm => Nat.lt_of_le_of_lt hm (by decide)
      show gName 2 (V.int ((0 : Int) + (i : Nat))) _ _ _
      rw [Int.zero_add]
      refine ⟨_, _, _, _, _, _, _, _, _, _, _, _, _, p, c, n, i, rfl, hP, sm2 n (by omega), fun H1 t d S hs d1 hF => ?_⟩
      have T1 := tabs_but hP d1.but hT
      refine ⟨_, _, _, _, _, _, _, _, _, _, _, _, p, c, t, d, n + 60, i, S, hs, rfl, d1.pen, sm2 _ (by omega), hF, fun H2 h tps d2 ft => ?_⟩
      have T2 := tabs_but d1.pen d2.but T1
      have W2 : Wn C H2 t d h S hs tps := ⟨hF.pen d1.pen d2.but, ft⟩
      have S2 := hF.ok.lo
      have S10 := hF.ok.hi
      refine ⟨_, _, _, _, _, _, _, _, _, _, p, t, h, i, S, rfl, trivial, ?_⟩
      refine ⟨_, _, _, _, _, _, _, _, _, p, c, t, h, n + 60 + 20, i, S, rfl, d2.pen, sm2 _ (by omega), S2, S10, fun H3 m z6 d3 hm => ?_⟩
      have T3 := tabs_but d2.pen d3.but T2
      have W3 := W2.pen d2.pen d3.but
      have p1 : 1 ≤ S.length ^ m := Nat.pow_pos (by omega)
      have p2 : S.length ^ m ≤ 10 ^ 24 := pow25 S10 hm
      refine ⟨_, _, _, _, _, _, _, _, _, p, c, t, h, n + 60 + 20 + 10, i, m, S.length ^ m, S, rfl, d3.pen, sm2 _ (by omega), S2, S10, p1, p2, fun H4 nl l d4 hN => ?_⟩
      have T4 := tabs_but d3.pen d4.but T3
      have W4 := W3.pen d3.pen d4.but
      refine ⟨_, _, _, _, _, _, _, _, p, c, t, d, h, nl, n + 60 + 20 + 10 + 10, i, m, S.length ^ m, S, hs, tps, l, rfl, d4.pen, sm2 _ (by omega), W4, hN, fun H5 y8 y9 d5 => ?_⟩
      have T5 := tabs_but d4.pen d5.but T4
      have W5 := W4.pen d4.pen d5.but
      refine ⟨_, _, _, _, _, _, _, _, _, _, p, c, t, d, h, n + 60 + 20 + 10 + 10 + 20, i, S, hs, tps, rfl, d5.pen, sm2 _ (by omega), W5, fun H6 z d6 hz h1 => ?_⟩
      have T6 := tabs_but d5.pen d6.but T5
      have W6 := W5.pen d5.pen d6.but
      refine ⟨_, _, _, _, _, _, _, _, _, p, c, t, d, h, n + 60 + 20 + 10 + 10 + 20 + 10, i, S, hs, tps, z, rfl, d6.pen, sm2 _ (by omega), W6, hz, h1, fun H7 z7 z6' d7 hz7 => ?_⟩
      have T7 := tabs_but d6.pen d7.but T6
      have W7 := W6.pen d6.pen d7.but
      refine ⟨_, _, _, _, _, _, _, _, _, p, c, t, d, h, n, i, S, hs, tps, z7, rfl, W7, hz7, fun H8 s8 => ?_⟩
      have T8 : Tabs [(PL, lamQ)] H8 := LamX.Tabs.ext T7 s8
      have W8 := W7.ext (ExtN.of s8)
      have P8 := d7.pen.same s8
      refine ⟨_, _, _, _, _, _, _, _, _, p, t, h, i, S, z7, rfl, hz7, fun gz hg => ?_⟩
      refine ⟨_, _, _, _, _, _, _, _, p, c, t, d, h, n, i, S, hs, tps, z7, gz, rfl, W8, hg, fun H10 s10 => ?_⟩
      have T10 : Tabs [(PL, lamQ)] H10 := LamX.Tabs.ext T8 s10
      have W10 := W8.ext (ExtN.of s10)
      have P10 := P8.same s10
      refine ⟨_, _, _, _, _, _, _, _, p, c, t, d, h, _, i, S, z7, gz, hs, tps, rfl, P10, sm2 _ (by omega), W10, hz7, T10, fun H11 y11 y12 y14 hM T11 => ?_⟩
      obtain ⟨M, dM, xM⟩ := hM
      have W11 := (W10.pen P10 dM.but).ext xM
      have P11 := pen_ext xM dM.pen
      refine ⟨_, _, _, _, _, _, _, _, p, c, t, d, h, _, i, S, z7, gz, hs, tps, rfl, P11, W11, hz7, T11, fun H12 z14 x12 T12 => ?_⟩
      exact ⟨_, _, _, _, _, _, _, _, _, _, _, _, _, _, _, rfl, pen_ext x12 P11, by omega, T12⟩
    · rintro σ' H2 ⟨x0, x2, x3, x4, x5, x6, x7, x8, x9, x10, x11, x12, x13, x14, n, rfl, hP, hn, hT⟩
      exact k H2
end My
end
section
set_option Elab.async false
set_option linter.all false
set_option maxRecDepth 100000
set_option maxHeartbeats 4000000
/-! B17: which class an error's class stands below. -/
namespace My
open PySem PySem.Spec PyProof.Rows L2 LamX
/-- a class below a built-in one is told so -/
theorem kit_sub {K : PySem.W.Frag} {U : Addr} {T : String} (h : PySem.W.subIn K (.ref U) (.type T) = some true) (m : PySem.W.kitMeta T = true) : PySem.W.kitOne K (.ref U) (.type T) = some true := by
  show (if (Value.ref U == Value.type T) = true then some true else (if PySem.W.kitMeta T = true then PySem.W.subIn K (.ref U) (.type T) else none)) = some true
  rw [if_pos m, h]
  split <;> rfl
/-- an error of a class is caught by the class's name -/
theorem caught_self {K : PySem.W.Frag} {S : Addr} (h1 : PySem.W.subIn K (.ref S) (.type "BaseException") = some true) (h2 : PySem.W.isClsIn K S = true) (h3 : PySem.W.typeIn K (.ref S) = some (.type "type")) (h4 : PySem.W.subIn K (.ref S) (.ref S) = some true) : PySem.W.exmOne K (.ref S) (.ref S) = some true := by
  have h2 : (PySem.W.clsIn K S).isSome = true := h2
  show (if (PySem.W.subIn K (.ref S) (.type "BaseException") == some true) = true then (if ((PySem.W.clsIn K S).isSome && (PySem.W.typeIn K (.ref S) == some (.type "type"))) = true then PySem.W.subIn K (.ref S) (.ref S) else none) else none) = some true
  rw [h1, h2, h3, h4]
  rfl
theorem kit_no {K : PySem.W.Frag} {U S : Addr} (h : PySem.W.subIn K (.ref U) (.ref S) = some false) (h0 : PySem.W.subIn K (.ref U) (.ref U) = some true) (h2 : PySem.W.isClsIn K S = true) (h3 : PySem.W.typeIn K (.ref S) = some (.type "type")) : PySem.W.kitOne K (.ref U) (.ref S) = some false := by
  have ne : U ≠ S := fun e => by
    subst e
    rw [h] at h0
    cases h0
  have h2 : (PySem.W.clsIn K S).isSome = true := h2
  show (if (Value.ref U == Value.ref S) = true then some true else (if ((PySem.W.clsIn K S).isSome && (PySem.W.typeIn K (.ref S) == some (.type "type"))) = true then PySem.W.subIn K (.ref U) (.ref S) else none)) = some false
  rw [if_neg (by simpa using ne), h2, h3, h]
  rfl
theorem exm_no {K : PySem.W.Frag} {U S : Addr} (h1 : PySem.W.subIn K (.ref S) (.type "BaseException") = some true) (h2 : PySem.W.isClsIn K S = true) (h3 : PySem.W.typeIn K (.ref S) = some (.type "type")) (h4 : PySem.W.subIn K (.ref U) (.ref S) = some false) : PySem.W.exmOne K (.ref U) (.ref S) = some false := by
  have h2 : (PySem.W.clsIn K S).isSome = true := h2
  show (if (PySem.W.subIn K (.ref S) (.type "BaseException") == some true) = true then (if ((PySem.W.clsIn K S).isSome && (PySem.W.typeIn K (.ref S) == some (.type "type"))) = true then PySem.W.subIn K (.ref U) (.ref S) else none) else none) = some false
  rw [h1, h2, h3, h4]
  rfl
end My
end
section
set_option Elab.async false
set_option linter.all false
set_option maxRecDepth 100000
set_option maxHeartbeats 4000000
namespace My
open PySem PySem.Spec PyProof.Rows L2 LamX
theorem all_mk {l : PySem.W.OpenLaw} {w : World} {K : PySem.W.Frag} {h : Heap} {mg : Str → Option Value} {fa : Addr}
    {tA tm tG : Tok}
    {C : Addr}
    {ocLi kVLi dcLi pmLi cdLi ctLi : Value} {odLi anLi : Option Addr} {slLi : Array (Option Value)} {fLi : Addr}
    {ocFs kVFs dcFs pmFs cdFs ctFs : Value} {odFs anFs : Option Addr} {slFs : Array (Option Value)} {fFs : Addr}
    {ocSi kVSi dcSi pmSi cdSi ctSi : Value} {odSi anSi : Option Addr} {slSi : Array (Option Value)} {fSi : Addr}
    {ocSe kVSe dcSe pmSe cdSe ctSe : Value} {odSe anSe : Option Addr} {slSe : Array (Option Value)} {fSe : Addr}
    {ocRo kVRo dcRo pmRo cdRo ctRo : Value} {odRo anRo : Option Addr} {slRo : Array (Option Value)} {fRo : Addr}
    {ocKt kVKt dcKt pmKt cdKt ctKt : Value} {odKt anKt : Option Addr} {slKt : Array (Option Value)} {fKt : Addr}
    {ocPa kVPa dcPa pmPa cdPa ctPa : Value} {odPa anPa : Option Addr} {slPa : Array (Option Value)} {fPa : Addr}
    {ocIt kVIt dcIt pmIt cdIt ctIt : Value} {odIt anIt : Option Addr} {slIt : Array (Option Value)} {fIt : Addr}
    {ocNu kVNu dcNu pmNu cdNu ctNu : Value} {odNu anNu : Option Addr} {slNu : Array (Option Value)} {fNu : Addr}
    {tDNu : Addr} {oDNu : Value} {aDNu : Option Addr} {nDNu : Nat} {sDNu : Array (Option Value)}
    {ocWr kVWr dcWr pmWr cdWr ctWr : Value} {odWr anWr : Option Addr} {slWr : Array (Option Value)} {fWr : Addr}
    {ocNo kVNo dcNo pmNo cdNo ctNo : Value} {odNo anNo : Option Addr} {slNo : Array (Option Value)} {fNo : Addr}
    {ocCk kVCk dcCk pmCk cdCk ctCk : Value} {odCk anCk : Option Addr} {slCk : Array (Option Value)} {fCk : Addr}
    {ocDg kVDg dcDg pmDg cdDg ctDg : Value} {odDg anDg : Option Addr} {slDg : Array (Option Value)} {fDg : Addr}
    {ocPe kVPe dcPe pmPe cdPe ctPe : Value} {odPe anPe : Option Addr} {slPe : Array (Option Value)} {fPe : Addr}
    {ocDr kVDr dcDr pmDr cdDr ctDr : Value} {odDr anDr : Option Addr} {slDr : Array (Option Value)} {fDr : Addr}
    {ocPi kVPi dcPi pmPi cdPi ctPi : Value} {odPi anPi : Option Addr} {slPi : Array (Option Value)} {fPi : Addr}
    {ocSh kVSh dcSh pmSh cdSh ctSh : Value} {odSh anSh : Option Addr} {slSh : Array (Option Value)} {fSh : Addr}
    {ocFo kVFo dcFo pmFo cdFo ctFo : Value} {odFo anFo : Option Addr} {slFo : Array (Option Value)} {fFo : Addr}
    {ocTu kVTu dcTu pmTu cdTu ctTu : Value} {odTu anTu : Option Addr} {slTu : Array (Option Value)} {fTu : Addr}
    {ocMa kVMa dcMa pmMa cdMa ctMa : Value} {odMa anMa : Option Addr} {slMa : Array (Option Value)} {fMa : Addr}
    {ocOd kVOd dcOd pmOd cdOd ctOd : Value} {odOd anOd : Option Addr} {slOd : Array (Option Value)} {fOd : Addr}
    {ocLr kVLr dcLr pmLr cdLr ctLr : Value} {odLr anLr : Option Addr} {slLr : Array (Option Value)} {fLr : Addr}
    {ocRf kVRf dcRf pmRf cdRf ctRf : Value} {odRf anRf : Option Addr} {slRf : Array (Option Value)} {fRf : Addr}
    {ocIi kVIi dcIi pmIi cdIi ctIi : Value} {odIi anIi : Option Addr} {slIi : Array (Option Value)} {fIi : Addr}
    {ocUr kVUr dcUr pmUr cdUr ctUr : Value} {odUr anUr : Option Addr} {slUr : Array (Option Value)} {fUr : Addr}
    {ocLv kVLv dcLv pmLv cdLv ctLv : Value} {odLv anLv : Option Addr} {slLv : Array (Option Value)} {fLv : Addr}
    {ocInC kVInC dcInC pmInC cdInC ctInC : Value} {odInC anInC : Option Addr} {slInC : Array (Option Value)} {fInC : Addr}
    {tDInC : Addr} {oDInC : Value} {aDInC : Option Addr} {nDInC : Nat} {sDInC : Array (Option Value)}
    {tEInC0 : Addr} {aEInC0 : Option Addr} {nEInC0 : Nat} {sEInC0 : Array (Option Value)}
    {ocFl kVFl dcFl pmFl cdFl ctFl : Value} {odFl anFl : Option Addr} {slFl : Array (Option Value)} {fFl : Addr}
    {ocPs kVPs dcPs pmPs cdPs ctPs : Value} {odPs anPs : Option Addr} {slPs : Array (Option Value)} {fPs : Addr}
    {pPs : Addr} {rrPs : List Value}
    {IN fIN : Addr} {nmIN qIN : Str} {NIN : Addr} {bsIN : List Value} {snIN : List Str} {subIN : List Value} {abIN : Bool} {colIN : Option Bool} {ddIN : Option Addr} {m0IN m1IN m2IN m3IN m5IN : Option Value} {ocIN dcIN pmIN cdIN ctIN : Value} {odIN anIN : Option Addr} {slIN : Array (Option Value)}
    {IR fIR : Addr} {nmIR qIR : Str} {NIR : Addr} {bsIR : List Value} {snIR : List Str} {subIR : List Value} {abIR : Bool} {colIR : Option Bool} {ddIR : Option Addr} {m0IR m1IR m2IR m3IR m5IR : Option Value} {ocIR dcIR pmIR cdIR ctIR : Value} {odIR anIR : Option Addr} {slIR : Array (Option Value)}
    {ocLa kVLa dcLa pmLa ctLa : Value} {odLa anLa : Option Addr} {slLa : Array (Option Value)} {fLa cL : Addr} {PL : Addr}
    (X : K.In h) (G : h.Ns mainGlobals mg) (hfa : mg "law" = some (.ref fa))
    (z_int : PySem.W.nsIn K mainGlobals "int" = some none)
    (z_len : PySem.W.nsIn K mainGlobals "len" = some none)
    (z_abs : PySem.W.nsIn K mainGlobals "abs" = some none)
    (z_list : PySem.W.nsIn K mainGlobals "list" = some none)
    (z_tuple : PySem.W.nsIn K mainGlobals "tuple" = some none)
    (z_str : PySem.W.nsIn K mainGlobals "str" = some none)
    (z_set : PySem.W.nsIn K mainGlobals "set" = some none)
    (z_all : PySem.W.nsIn K mainGlobals "all" = some none)
    (z_isinstance : PySem.W.nsIn K mainGlobals "isinstance" = some none)
    (z_repr : PySem.W.nsIn K mainGlobals "repr" = some none)
    (z_range : PySem.W.nsIn K mainGlobals "range" = some none)
    (z_bool : PySem.W.nsIn K mainGlobals "bool" = some none)
    (z_max : PySem.W.nsIn K mainGlobals "max" = some none)
    (z_ValueError : PySem.W.nsIn K mainGlobals "ValueError" = some none)
    (aA : PySem.W.nsIn K mainGlobals "ALPHABET" = some (some (.str alphabet tA)))
    (aGr : PySem.W.nsIn K mainGlobals "GREATEST" = some (some (.int 1000000000000000000000000000000 tG)))
    (aC : PySem.W.nsIn K mainGlobals "Font" = some (some (.ref C)))
    (pgC : PySem.W.plainGet K C Str.empty = true)
    (hdC : PySem.W.hasDictIn K C = true)
    (poC : PySem.W.plainOver K C = true)
    (saC : PySem.W.findIn K (.ref C) "__setattr__" = some (some (.builtin "object.__setattr__")))
    (nC_signs : PySem.W.findIn K (.ref C) "_signs" = some none)
    (nC_turns : PySem.W.findIn K (.ref C) "_turns" = some none)
    (rdC : PySem.W.readsIn K C (.type "type") = true)
    (gaC : PySem.W.specialIn K (.ref C) "__getattribute__" = some (some (.builtin "type.__getattribute__")))
    (caC : PySem.W.findIn K (.ref C) "__class__" = some (some (.builtin "object.__class__")))
    (obG : PySem.W.specialIn K (.builtin "object.__class__") "__get__" = some (some (.builtin "getset_descriptor.__get__")))
    (obT : PySem.W.takesIn K (.builtin "object.__class__") = some true)
    (moC : PySem.W.mroIn K C (.type "object") = some true)
    (mv : PySem.W.findCls K (.ref C) (.type "type") "MAX_SIGNS" = some (.val (.int 10 tm)))
    (aLi : PySem.W.nsIn K mainGlobals "is_listed" = some (some (.ref fLi)))
    (lLi : K.lookup fLi = some ⟨ocLi, odLi, .func (PySem.W.fnOf "is_listed" "is_listed" (defArgs s_isListed) (defBody s_isListed) (defScope s_isListed) .none kVLi dcLi pmLi anLi cdLi ctLi), slLi⟩)
    (cLi : PySem.W.codeIn K cdLi "is_listed" = true)
    (kLi : PySem.W.keepIn K (.ref fLi) = true)
    (aFs : PySem.W.nsIn K mainGlobals "is_font_signs" = some (some (.ref fFs)))
    (lFs : K.lookup fFs = some ⟨ocFs, odFs, .func (PySem.W.fnOf "is_font_signs" "is_font_signs" (defArgs s_isFont) (defBody s_isFont) (defScope s_isFont) .none kVFs dcFs pmFs anFs cdFs ctFs), slFs⟩)
    (cFs : PySem.W.codeIn K cdFs "is_font_signs" = true)
    (kFs : PySem.W.keepIn K (.ref fFs) = true)
    (aSi : PySem.W.nsIn K mainGlobals "is_sign" = some (some (.ref fSi)))
    (lSi : K.lookup fSi = some ⟨ocSi, odSi, .func (PySem.W.fnOf "is_sign" "is_sign" (defArgs s_isSign) (defBody s_isSign) (defScope s_isSign) .none kVSi dcSi pmSi anSi cdSi ctSi), slSi⟩)
    (cSi : PySem.W.codeIn K cdSi "is_sign" = true)
    (kSi : PySem.W.keepIn K (.ref fSi) = true)
    (aSe : PySem.W.nsIn K mainGlobals "is_set" = some (some (.ref fSe)))
    (lSe : K.lookup fSe = some ⟨ocSe, odSe, .func (PySem.W.fnOf "is_set" "is_set" (defArgs s_isSet) (defBody s_isSet) (defScope s_isSet) .none kVSe dcSe pmSe anSe cdSe ctSe), slSe⟩)
    (cSe : PySem.W.codeIn K cdSe "is_set" = true)
    (kSe : PySem.W.keepIn K (.ref fSe) = true)
    (aRo : PySem.W.nsIn K mainGlobals "is_row" = some (some (.ref fRo)))
    (lRo : K.lookup fRo = some ⟨ocRo, odRo, .func (PySem.W.fnOf "is_row" "is_row" (defArgs s_isRow) (defBody s_isRow) (defScope s_isRow) .none kVRo dcRo pmRo anRo cdRo ctRo), slRo⟩)
    (cRo : PySem.W.codeIn K cdRo "is_row" = true)
    (kRo : PySem.W.keepIn K (.ref fRo) = true)
    (aKt : PySem.W.nsIn K mainGlobals "kept_turns" = some (some (.ref fKt)))
    (lKt : K.lookup fKt = some ⟨ocKt, odKt, .func (PySem.W.fnOf "kept_turns" "kept_turns" (defArgs s_kept) (defBody s_kept) (defScope s_kept) .none kVKt dcKt pmKt anKt cdKt ctKt), slKt⟩)
    (cKt : PySem.W.codeIn K cdKt "kept_turns" = true)
    (kKt : PySem.W.keepIn K (.ref fKt) = true)
    (aPa : PySem.W.nsIn K mainGlobals "_is_pair" = some (some (.ref fPa)))
    (lPa : K.lookup fPa = some ⟨ocPa, odPa, .func (PySem.W.fnOf "_is_pair" "_is_pair" (defArgs s_isPair) (defBody s_isPair) (defScope s_isPair) .none kVPa dcPa pmPa anPa cdPa ctPa), slPa⟩)
    (cPa : PySem.W.codeIn K cdPa "_is_pair" = true)
    (kPa : PySem.W.keepIn K (.ref fPa) = true)
    (aIt : PySem.W.nsIn K mainGlobals "is_integer" = some (some (.ref fIt)))
    (lIt : K.lookup fIt = some ⟨ocIt, odIt, .func (PySem.W.fnOf "is_integer" "is_integer" (defArgs s_isInt) (defBody s_isInt) (defScope s_isInt) .none kVIt dcIt pmIt anIt cdIt ctIt), slIt⟩)
    (cIt : PySem.W.codeIn K cdIt "is_integer" = true)
    (kIt : PySem.W.keepIn K (.ref fIt) = true)
    (aNu : PySem.W.nsIn K mainGlobals "is_number" = some (some (.ref fNu)))
    (lNu : K.lookup fNu = some ⟨ocNu, odNu, .func (PySem.W.fnOf "is_number" "is_number" (defArgs s_isNum) (defBody s_isNum) (defScope s_isNum) (.ref tDNu) kVNu dcNu pmNu anNu cdNu ctNu), slNu⟩)
    (dNu : K.lookup tDNu = some ⟨oDNu, aDNu, .seq #[Value.none] nDNu, sDNu⟩)
    (cNu : PySem.W.codeIn K cdNu "is_number" = true)
    (kNu : PySem.W.keepIn K (.ref fNu) = true)
    (aWr : PySem.W.nsIn K mainGlobals "written" = some (some (.ref fWr)))
    (lWr : K.lookup fWr = some ⟨ocWr, odWr, .func (PySem.W.fnOf "written" "written" (defArgs s_writ) (defBody s_writ) (defScope s_writ) .none kVWr dcWr pmWr anWr cdWr ctWr), slWr⟩)
    (cWr : PySem.W.codeIn K cdWr "written" = true)
    (kWr : PySem.W.keepIn K (.ref fWr) = true)
    (aNo : PySem.W.nsIn K mainGlobals "number_of" = some (some (.ref fNo)))
    (lNo : K.lookup fNo = some ⟨ocNo, odNo, .func (PySem.W.fnOf "number_of" "number_of" (defArgs s_numof) (defBody s_numof) (defScope s_numof) .none kVNo dcNo pmNo anNo cdNo ctNo), slNo⟩)
    (cNo : PySem.W.codeIn K cdNo "number_of" = true)
    (kNo : PySem.W.keepIn K (.ref fNo) = true)
    (aCk : PySem.W.nsIn K mainGlobals "_check_first" = some (some (.ref fCk)))
    (lCk : K.lookup fCk = some ⟨ocCk, odCk, .func (PySem.W.fnOf "_check_first" "_check_first" (defArgs s_chk1) (defBody s_chk1) (defScope s_chk1) .none kVCk dcCk pmCk anCk cdCk ctCk), slCk⟩)
    (cCk : PySem.W.codeIn K cdCk "_check_first" = true)
    (kCk : PySem.W.keepIn K (.ref fCk) = true)
    (aDg : PySem.W.nsIn K mainGlobals "_digits" = some (some (.ref fDg)))
    (lDg : K.lookup fDg = some ⟨ocDg, odDg, .func (PySem.W.fnOf "_digits" "_digits" (defArgs s_digs) (defBody s_digs) (defScope s_digs) .none kVDg dcDg pmDg anDg cdDg ctDg), slDg⟩)
    (cDg : PySem.W.codeIn K cdDg "_digits" = true)
    (kDg : PySem.W.keepIn K (.ref fDg) = true)
    (aPe : PySem.W.nsIn K mainGlobals "_law_pen" = some (some (.ref fPe)))
    (lPe : K.lookup fPe = some ⟨ocPe, odPe, .func (PySem.W.fnOf "_law_pen" "_law_pen" (defArgs s_pen) (defBody s_pen) (defScope s_pen) .none kVPe dcPe pmPe anPe cdPe ctPe), slPe⟩)
    (cPe : PySem.W.codeIn K cdPe "_law_pen" = true)
    (kPe : PySem.W.keepIn K (.ref fPe) = true)
    (aDr : PySem.W.nsIn K mainGlobals "_law_draw" = some (some (.ref fDr)))
    (lDr : K.lookup fDr = some ⟨ocDr, odDr, .func (PySem.W.fnOf "_law_draw" "_law_draw" (defArgs s_draw) (defBody s_draw) (defScope s_draw) .none kVDr dcDr pmDr anDr cdDr ctDr), slDr⟩)
    (cDr : PySem.W.codeIn K cdDr "_law_draw" = true)
    (kDr : PySem.W.keepIn K (.ref fDr) = true)
    (aPi : PySem.W.nsIn K mainGlobals "_law_pick" = some (some (.ref fPi)))
    (lPi : K.lookup fPi = some ⟨ocPi, odPi, .func (PySem.W.fnOf "_law_pick" "_law_pick" (defArgs s_pick) (defBody s_pick) (defScope s_pick) .none kVPi dcPi pmPi anPi cdPi ctPi), slPi⟩)
    (cPi : PySem.W.codeIn K cdPi "_law_pick" = true)
    (kPi : PySem.W.keepIn K (.ref fPi) = true)
    (aSh : PySem.W.nsIn K mainGlobals "_law_shuffled" = some (some (.ref fSh)))
    (lSh : K.lookup fSh = some ⟨ocSh, odSh, .func (PySem.W.fnOf "_law_shuffled" "_law_shuffled" (defArgs s_shuf) (defBody s_shuf) (defScope s_shuf) .none kVSh dcSh pmSh anSh cdSh ctSh), slSh⟩)
    (cSh : PySem.W.codeIn K cdSh "_law_shuffled" = true)
    (kSh : PySem.W.keepIn K (.ref fSh) = true)
    (aFo : PySem.W.nsIn K mainGlobals "_law_font" = some (some (.ref fFo)))
    (lFo : K.lookup fFo = some ⟨ocFo, odFo, .func (PySem.W.fnOf "_law_font" "_law_font" (defArgs s_font2) (defBody s_font2) (defScope s_font2) .none kVFo dcFo pmFo anFo cdFo ctFo), slFo⟩)
    (cFo : PySem.W.codeIn K cdFo "_law_font" = true)
    (kFo : PySem.W.keepIn K (.ref fFo) = true)
    (aTu : PySem.W.nsIn K mainGlobals "_law_turns" = some (some (.ref fTu)))
    (lTu : K.lookup fTu = some ⟨ocTu, odTu, .func (PySem.W.fnOf "_law_turns" "_law_turns" (defArgs s_turns2) (defBody s_turns2) (defScope s_turns2) .none kVTu dcTu pmTu anTu cdTu ctTu), slTu⟩)
    (cTu : PySem.W.codeIn K cdTu "_law_turns" = true)
    (kTu : PySem.W.keepIn K (.ref fTu) = true)
    (aMa : PySem.W.nsIn K mainGlobals "_law_made_font" = some (some (.ref fMa)))
    (lMa : K.lookup fMa = some ⟨ocMa, odMa, .func (PySem.W.fnOf "_law_made_font" "_law_made_font" (defArgs s_made2) (defBody s_made2) (defScope s_made2) .none kVMa dcMa pmMa anMa cdMa ctMa), slMa⟩)
    (cMa : PySem.W.codeIn K cdMa "_law_made_font" = true)
    (kMa : PySem.W.keepIn K (.ref fMa) = true)
    (aOd : PySem.W.nsIn K mainGlobals "_law_odd" = some (some (.ref fOd)))
    (lOd : K.lookup fOd = some ⟨ocOd, odOd, .func (PySem.W.fnOf "_law_odd" "_law_odd" (defArgs s_oddT) (defBody s_oddT) (defScope s_oddT) .none kVOd dcOd pmOd anOd cdOd ctOd), slOd⟩)
    (cOd : PySem.W.codeIn K cdOd "_law_odd" = true)
    (kOd : PySem.W.keepIn K (.ref fOd) = true)
    (aLr : PySem.W.nsIn K mainGlobals "_law_row" = some (some (.ref fLr)))
    (lLr : K.lookup fLr = some ⟨ocLr, odLr, .func (PySem.W.fnOf "_law_row" "_law_row" (defArgs s_lrow) (defBody s_lrow) (defScope s_lrow) .none kVLr dcLr pmLr anLr cdLr ctLr), slLr⟩)
    (cLr : PySem.W.codeIn K cdLr "_law_row" = true)
    (kLr : PySem.W.keepIn K (.ref fLr) = true)
    (aRf : PySem.W.nsIn K mainGlobals "_law_refused" = some (some (.ref fRf)))
    (lRf : K.lookup fRf = some ⟨ocRf, odRf, .func (PySem.W.fnOf "_law_refused" "_law_refused" (defArgs s_refk) (defBody s_refk) (defScope s_refk) .none kVRf dcRf pmRf anRf cdRf ctRf), slRf⟩)
    (cRf : PySem.W.codeIn K cdRf "_law_refused" = true)
    (kRf : PySem.W.keepIn K (.ref fRf) = true)
    (aIi : PySem.W.nsIn K mainGlobals "_law_is_in" = some (some (.ref fIi)))
    (lIi : K.lookup fIi = some ⟨ocIi, odIi, .func (PySem.W.fnOf "_law_is_in" "_law_is_in" (defArgs s_lisinK) (defBody s_lisinK) (defScope s_lisinK) .none kVIi dcIi pmIi anIi cdIi ctIi), slIi⟩)
    (cIi : PySem.W.codeIn K cdIi "_law_is_in" = true)
    (kIi : PySem.W.keepIn K (.ref fIi) = true)
    (aUr : PySem.W.nsIn K mainGlobals "_law_unread" = some (some (.ref fUr)))
    (lUr : K.lookup fUr = some ⟨ocUr, odUr, .func (PySem.W.fnOf "_law_unread" "_law_unread" (defArgs s_unrk) (defBody s_unrk) (defScope s_unrk) .none kVUr dcUr pmUr anUr cdUr ctUr), slUr⟩)
    (cUr : PySem.W.codeIn K cdUr "_law_unread" = true)
    (kUr : PySem.W.keepIn K (.ref fUr) = true)
    (aLv : PySem.W.nsIn K mainGlobals "_law_value" = some (some (.ref fLv)))
    (lLv : K.lookup fLv = some ⟨ocLv, odLv, .func (PySem.W.fnOf "_law_value" "_law_value" (defArgs s_lval) (defBody s_lval) (defScope s_lval) .none kVLv dcLv pmLv anLv cdLv ctLv), slLv⟩)
    (cLv : PySem.W.codeIn K cdLv "_law_value" = true)
    (kLv : PySem.W.keepIn K (.ref fLv) = true)
    (aInC : PySem.W.findIn K (.ref C) "__init__" = some (some (.ref fInC)))
    (iInC : PySem.W.isFn K (.ref fInC) = true)
    (lInC : K.lookup fInC = some ⟨ocInC, odInC, .func (PySem.W.fnOf "__init__" "Font.__init__" (defArgs s_init) (defBody s_init) (defScope s_init) (.ref tDInC) kVInC dcInC pmInC anInC cdInC ctInC), slInC⟩)
    (dInC : K.lookup tDInC = some ⟨oDInC, aDInC, .seq #[Value.ref tEInC0] nDInC, sDInC⟩)
    (eInC0 : K.lookup tEInC0 = some ⟨.type "tuple", aEInC0, .seq #[] nEInC0, sEInC0⟩)
    (cInC : PySem.W.codeIn K cdInC "Font.__init__" = true)
    (kInC : PySem.W.keepIn K (.ref fInC) = true)
    (mkC : PySem.W.makesIn K C = true)
    (kCC : PySem.W.keepIn K (.ref C) = true)
    (aFl : PySem.W.findIn K (.ref C) "__len__" = some (some (.ref fFl)))
    (iFl : PySem.W.isFn K (.ref fFl) = true)
    (lFl : K.lookup fFl = some ⟨ocFl, odFl, .func (PySem.W.fnOf "__len__" "Font.__len__" (defArgs s_flen) (defBody s_flen) (defScope s_flen) .none kVFl dcFl pmFl anFl cdFl ctFl), slFl⟩)
    (cFl : PySem.W.codeIn K cdFl "Font.__len__" = true)
    (kFl : PySem.W.keepIn K (.ref fFl) = true)
    (aPs : PySem.W.findIn K (.ref C) "signs" = some (some (.ref pPs)))
    (gPs : PySem.W.specialIn K (.ref pPs) "__get__" = some (some (.builtin "property.__get__")))
    (tPs : PySem.W.takesIn K (.ref pPs) = some true)
    (rPs : PySem.W.recIn K pPs "property" = some (.ref fPs :: rrPs))
    (lPs : K.lookup fPs = some ⟨ocPs, odPs, .func (PySem.W.fnOf "signs" "Font.signs" (defArgs (inCls s_cls 4)) (defBody (inCls s_cls 4)) (defScope (inCls s_cls 4)) .none kVPs dcPs pmPs anPs cdPs ctPs), slPs⟩)
    (cPs : PySem.W.codeIn K cdPs "Font.signs" = true)
    (aIN : PySem.W.nsIn K mainGlobals "InvalidNumber" = some (some (.ref IN)))
    (xIN : K.lookup IN = some (excClassObj nmIN qIN IN NIN bsIN bmValue true snIN subIN abIN colIN ddIN m0IN m1IN m2IN m3IN m5IN "ValueError.__new__"))
    (sIN : PySem.W.findIn K (.ref IN) "__setattr__" = some (some (.builtin "object.__setattr__")))
    (gIN : PySem.W.findIn K (.ref IN) "__getattribute__" = some (some (.builtin "BaseException.__getattribute__")))
    (hIN : PySem.W.findIn K (.ref IN) "__getattr__" = some none)
    (nIN : PySem.W.findIn K (.ref IN) "value" = some none)
    (iIN : PySem.W.findIn K (.ref IN) "__init__" = some (some (.ref fIN)))
    (tIN : PySem.W.typeIn K (.ref fIN) = some (.type "function"))
    (lIN : K.lookup fIN = some ⟨ocIN, odIN, .func (PySem.W.fnOf "__init__" "InvalidNumber.__init__" (eArgs "value" ⟨33, 17, 33, 21⟩ ⟨33, 23, 33, 28⟩) (eBody "value" ⟨34, 8, 34, 12⟩ ⟨34, 8, 34, 18⟩ ⟨34, 21, 34, 26⟩ ⟨34, 8, 34, 26⟩) (eScope "value") .none .none dcIN pmIN anIN cdIN ctIN), slIN⟩)
    (cIN : PySem.W.codeIn K cdIN "InvalidNumber.__init__" = true)
    (kIN : PySem.W.keepIn K (.ref IN) = true)
    (eIN : PySem.W.subIn K (.ref IN) (.type "BaseException") = some true)
    (yIN : PySem.W.typeIn K (.ref IN) = some (.type "type"))
    (dIN : PySem.W.hasDictIn K IN = true)
    (bIN : PySem.W.isClsIn K IN = true)
    (zIN : PySem.W.subIn K (.ref IN) (.ref IN) = some true)
    (vIN : PySem.W.subIn K (.ref IN) (.type "ValueError") = some true)
    (aIR : PySem.W.nsIn K mainGlobals "InvalidRow" = some (some (.ref IR)))
    (xIR : K.lookup IR = some (excClassObj nmIR qIR IR NIR bsIR bmValue true snIR subIR abIR colIR ddIR m0IR m1IR m2IR m3IR m5IR "ValueError.__new__"))
    (sIR : PySem.W.findIn K (.ref IR) "__setattr__" = some (some (.builtin "object.__setattr__")))
    (gIR : PySem.W.findIn K (.ref IR) "__getattribute__" = some (some (.builtin "BaseException.__getattribute__")))
    (hIR : PySem.W.findIn K (.ref IR) "__getattr__" = some none)
    (nIR : PySem.W.findIn K (.ref IR) "value" = some none)
    (iIR : PySem.W.findIn K (.ref IR) "__init__" = some (some (.ref fIR)))
    (tIR : PySem.W.typeIn K (.ref fIR) = some (.type "function"))
    (lIR : K.lookup fIR = some ⟨ocIR, odIR, .func (PySem.W.fnOf "__init__" "InvalidRow.__init__" (eArgs "value" ⟨29, 17, 29, 21⟩ ⟨29, 23, 29, 28⟩) (eBody "value" ⟨30, 8, 30, 12⟩ ⟨30, 8, 30, 18⟩ ⟨30, 21, 30, 26⟩ ⟨30, 8, 30, 26⟩) (eScope "value") .none .none dcIR pmIR anIR cdIR ctIR), slIR⟩)
    (cIR : PySem.W.codeIn K cdIR "InvalidRow.__init__" = true)
    (kIR : PySem.W.keepIn K (.ref IR) = true)
    (eIR : PySem.W.subIn K (.ref IR) (.type "BaseException") = some true)
    (yIR : PySem.W.typeIn K (.ref IR) = some (.type "type"))
    (dIR : PySem.W.hasDictIn K IR = true)
    (bIR : PySem.W.isClsIn K IR = true)
    (zIR : PySem.W.subIn K (.ref IR) (.ref IR) = some true)
    (vIR : PySem.W.subIn K (.ref IR) (.type "ValueError") = some true)
    (aLa : PySem.W.nsIn K mainGlobals "law" = some (some (.ref fLa)))
    (lLa : K.lookup fLa = some ⟨ocLa, odLa, .func (PySem.W.fnOf "law" "law" (defArgs s_law) (defBody s_law) (defScope s_law) .none kVLa dcLa pmLa anLa (.ref cL) ctLa), slLa⟩)
    (cLa : PySem.W.codeIn K (.ref cL) "law" = true)
    (tbL : h.get? PL = some emptyTab)
    (chL : PySem.W.codeHdIn K cL PL = true)
    (nPL : K.lookup PL = none) :
    LawG l w K 13 63 "_law_script" mg fa h := by
  have e := hfa.symm.trans (PySem.W.mg_of X G aLa)
  cases e
  have T : TB mg := ⟨PySem.W.mg_none_of X G z_int, PySem.W.mg_none_of X G z_len, PySem.W.mg_none_of X G z_abs, PySem.W.mg_none_of X G z_list, PySem.W.mg_none_of X G z_tuple, PySem.W.mg_none_of X G z_str, PySem.W.mg_none_of X G z_set, PySem.W.mg_none_of X G z_all, PySem.W.mg_none_of X G z_isinstance, PySem.W.mg_none_of X G z_repr, PySem.W.mg_none_of X G z_range⟩
  have TD : TDraw mg := ⟨T.int, T.len, T.abs⟩
  have gA := PySem.W.mg_of X G aA
  have gGr := PySem.W.mg_of X G aGr
  have clC : Cls K C := ⟨pgC, hdC, poC, saC⟩
  have gC := PySem.W.mg_of X G aC
  have rCC : ClX.CRead K C (.type "type") := ⟨rdC, gaC⟩
  have IC : InsT K C := ⟨clC, caC, obG, obT, moC⟩
  have cM : ClX.CVal K C (.type "type") "MAX_SIGNS" (.int 10) (.int 10 tm) := ⟨mv, ⟨_, rfl⟩⟩
  have FLi := fun_mk (st := s_isListed) lLi cLi kLi
  have DLi : Def K mg "is_listed" fLi _ ["value"] := ⟨PySem.W.mg_of X G aLi, kLi, FLi.binds (ps := ["value"]) fun _ _ _ _ _ _ us hl => match us, hl with | [_], _ => rfl⟩
  have FFs := fun_mk (st := s_isFont) lFs cFs kFs
  have DFs : Def K mg "is_font_signs" fFs _ ["value"] := ⟨PySem.W.mg_of X G aFs, kFs, FFs.binds (ps := ["value"]) fun _ _ _ _ _ _ us hl => match us, hl with | [_], _ => rfl⟩
  have FSi := fun_mk (st := s_isSign) lSi cSi kSi
  have DSi : Def K mg "is_sign" fSi _ ["signs", "value"] := ⟨PySem.W.mg_of X G aSi, kSi, FSi.binds (ps := ["signs", "value"]) fun _ _ _ _ _ _ us hl => match us, hl with | [_, _], _ => rfl⟩
  have FSe := fun_mk (st := s_isSet) lSe cSe kSe
  have DSe : Def K mg "is_set" fSe _ ["signs", "value"] := ⟨PySem.W.mg_of X G aSe, kSe, FSe.binds (ps := ["signs", "value"]) fun _ _ _ _ _ _ us hl => match us, hl with | [_, _], _ => rfl⟩
  have FRo := fun_mk (st := s_isRow) lRo cRo kRo
  have DRo : Def K mg "is_row" fRo _ ["signs", "value"] := ⟨PySem.W.mg_of X G aRo, kRo, FRo.binds (ps := ["signs", "value"]) fun _ _ _ _ _ _ us hl => match us, hl with | [_, _], _ => rfl⟩
  have FKt := fun_mk (st := s_kept) lKt cKt kKt
  have DKt : Def K mg "kept_turns" fKt _ ["signs", "turns"] := ⟨PySem.W.mg_of X G aKt, kKt, FKt.binds (ps := ["signs", "turns"]) fun _ _ _ _ _ _ us hl => match us, hl with | [_, _], _ => rfl⟩
  have FPa := fun_mk (st := s_isPair) lPa cPa kPa
  have DPa : Def K mg "_is_pair" fPa _ ["signs", "value"] := ⟨PySem.W.mg_of X G aPa, kPa, FPa.binds (ps := ["signs", "value"]) fun _ _ _ _ _ _ us hl => match us, hl with | [_, _], _ => rfl⟩
  have FIt := fun_mk (st := s_isInt) lIt cIt kIt
  have DIt : Def K mg "is_integer" fIt _ ["value"] := ⟨PySem.W.mg_of X G aIt, kIt, FIt.binds (ps := ["value"]) fun _ _ _ _ _ _ us hl => match us, hl with | [_], _ => rfl⟩
  have FNu : FunD K "is_number" "is_number" (defArgs s_isNum) (defBody s_isNum) (defScope s_isNum) [V.non] [] fNu (PySem.W.fnOf "is_number" "is_number" (defArgs s_isNum) (defBody s_isNum) (defScope s_isNum) (.ref tDNu) kVNu dcNu pmNu anNu cdNu ctNu) := ⟨⟨_, _, .ref tDNu, _, _, _, _, _, _, _, rfl, lNu, cNu, .inr ⟨(fun z => by cases z), tDNu, _, [Value.none], nDNu, rfl, dNu, rfl, .cons rfl .nil⟩, .inl rfl⟩, kNu⟩
  have bNu3 : Binds K (PySem.W.fnOf "is_number" "is_number" (defArgs s_isNum) (defBody s_isNum) (defScope s_isNum) (.ref tDNu) kVNu dcNu pmNu anNu cdNu ctNu) ["value", "least", "greatest"] [] := by
    obtain ⟨ds, hds, b⟩ := FNu.binds1 (ps := ["value", "least", "greatest"]) 3 1 (fun z => by cases z) rfl (fun _ _ _ _ _ _ _ us its hl hi => match us, its, hl, hi with | [_, _, _], [_], _, _ => ⟨_, rfl, rfl⟩)
    cases hds
    exact b
  have DNu : Def K mg "is_number" fNu _ ["value", "least", "greatest"] := ⟨PySem.W.mg_of X G aNu, kNu, bNu3⟩
  have FWr := fun_mk (st := s_writ) lWr cWr kWr
  have DWr : Def K mg "written" fWr _ ["font", "number"] := ⟨PySem.W.mg_of X G aWr, kWr, FWr.binds (ps := ["font", "number"]) fun _ _ _ _ _ _ us hl => match us, hl with | [_, _], _ => rfl⟩
  have FNo := fun_mk (st := s_numof) lNo cNo kNo
  have DNo : Def K mg "number_of" fNo _ ["font", "row"] := ⟨PySem.W.mg_of X G aNo, kNo, FNo.binds (ps := ["font", "row"]) fun _ _ _ _ _ _ us hl => match us, hl with | [_, _], _ => rfl⟩
  have FCk := fun_mk (st := s_chk1) lCk cCk kCk
  have DCk : Def K mg "_check_first" fCk _ ["number"] := ⟨PySem.W.mg_of X G aCk, kCk, FCk.binds (ps := ["number"]) fun _ _ _ _ _ _ us hl => match us, hl with | [_], _ => rfl⟩
  have FDg := fun_mk (st := s_digs) lDg cDg kDg
  have DDg : Def K mg "_digits" fDg _ ["font", "number"] := ⟨PySem.W.mg_of X G aDg, kDg, FDg.binds (ps := ["font", "number"]) fun _ _ _ _ _ _ us hl => match us, hl with | [_, _], _ => rfl⟩
  have FPe := fun_mk (st := s_pen) lPe cPe kPe
  have DPe : Def K mg "_law_pen" fPe _ ["_law_script"] := ⟨PySem.W.mg_of X G aPe, kPe, FPe.binds (ps := ["_law_script"]) fun _ _ _ _ _ _ us hl => match us, hl with | [_], _ => rfl⟩
  have FDr := fun_mk (st := s_draw) lDr cDr kDr
  have DDr : Def K mg "_law_draw" fDr _ ["_law_pen_here", "_law_many"] := ⟨PySem.W.mg_of X G aDr, kDr, FDr.binds (ps := ["_law_pen_here", "_law_many"]) fun _ _ _ _ _ _ us hl => match us, hl with | [_, _], _ => rfl⟩
  have FPi := fun_mk (st := s_pick) lPi cPi kPi
  have DPi : Def K mg "_law_pick" fPi _ ["_law_pen_here", "_law_some"] := ⟨PySem.W.mg_of X G aPi, kPi, FPi.binds (ps := ["_law_pen_here", "_law_some"]) fun _ _ _ _ _ _ us hl => match us, hl with | [_, _], _ => rfl⟩
  have FSh := fun_mk (st := s_shuf) lSh cSh kSh
  have DSh : Def K mg "_law_shuffled" fSh _ ["_law_pen_here", "_law_items"] := ⟨PySem.W.mg_of X G aSh, kSh, FSh.binds (ps := ["_law_pen_here", "_law_items"]) fun _ _ _ _ _ _ us hl => match us, hl with | [_, _], _ => rfl⟩
  have FFo := fun_mk (st := s_font2) lFo cFo kFo
  have DFo : Def K mg "_law_font" fFo _ ["_law_pen_here", "_law_fewest", "_law_most"] := ⟨PySem.W.mg_of X G aFo, kFo, FFo.binds (ps := ["_law_pen_here", "_law_fewest", "_law_most"]) fun _ _ _ _ _ _ us hl => match us, hl with | [_, _, _], _ => rfl⟩
  have FTu := fun_mk (st := s_turns2) lTu cTu kTu
  have DTu : Def K mg "_law_turns" fTu _ ["_law_pen_here", "_law_font_here"] := ⟨PySem.W.mg_of X G aTu, kTu, FTu.binds (ps := ["_law_pen_here", "_law_font_here"]) fun _ _ _ _ _ _ us hl => match us, hl with | [_, _], _ => rfl⟩
  have FMa := fun_mk (st := s_made2) lMa cMa kMa
  have DMa : Def K mg "_law_made_font" fMa _ ["_law_pen_here", "_law_font_here"] := ⟨PySem.W.mg_of X G aMa, kMa, FMa.binds (ps := ["_law_pen_here", "_law_font_here"]) fun _ _ _ _ _ _ us hl => match us, hl with | [_, _], _ => rfl⟩
  have FOd := fun_mk (st := s_oddT) lOd cOd kOd
  have DOd : Def K mg "_law_odd" fOd _ ["_law_pen_here"] := ⟨PySem.W.mg_of X G aOd, kOd, FOd.binds (ps := ["_law_pen_here"]) fun _ _ _ _ _ _ us hl => match us, hl with | [_], _ => rfl⟩
  have FLr := fun_mk (st := s_lrow) lLr cLr kLr
  have DLr : Def K mg "_law_row" fLr _ ["_law_font_here", "_law_number"] := ⟨PySem.W.mg_of X G aLr, kLr, FLr.binds (ps := ["_law_font_here", "_law_number"]) fun _ _ _ _ _ _ us hl => match us, hl with | [_, _], _ => rfl⟩
  have FRf := fun_mk (st := s_refk) lRf cRf kRf
  have DRf : Def K mg "_law_refused" fRf _ ["_law_call"] := ⟨PySem.W.mg_of X G aRf, kRf, FRf.binds (ps := ["_law_call"]) fun _ _ _ _ _ _ us hl => match us, hl with | [_], _ => rfl⟩
  have FIi := fun_mk (st := s_lisinK) lIi cIi kIi
  have DIi : Def K mg "_law_is_in" fIi _ ["_law_thing", "_law_low", "_law_high"] := ⟨PySem.W.mg_of X G aIi, kIi, FIi.binds (ps := ["_law_thing", "_law_low", "_law_high"]) fun _ _ _ _ _ _ us hl => match us, hl with | [_, _, _], _ => rfl⟩
  have FUr := fun_mk (st := s_unrk) lUr cUr kUr
  have DUr : Def K mg "_law_unread" fUr _ ["_law_call"] := ⟨PySem.W.mg_of X G aUr, kUr, FUr.binds (ps := ["_law_call"]) fun _ _ _ _ _ _ us hl => match us, hl with | [_], _ => rfl⟩
  have FLv := fun_mk (st := s_lval) lLv cLv kLv
  have DLv : Def K mg "_law_value" fLv _ ["_law_font_here", "_law_row_here"] := ⟨PySem.W.mg_of X G aLv, kLv, FLv.binds (ps := ["_law_font_here", "_law_row_here"]) fun _ _ _ _ _ _ us hl => match us, hl with | [_, _], _ => rfl⟩
  have FInC : FunD K "__init__" "Font.__init__" (defArgs s_init) (defBody s_init) (defScope s_init) [V.ref tEInC0] [] fInC (PySem.W.fnOf "__init__" "Font.__init__" (defArgs s_init) (defBody s_init) (defScope s_init) (.ref tDInC) kVInC dcInC pmInC anInC cdInC ctInC) := ⟨⟨_, _, .ref tDInC, _, _, _, _, _, _, _, rfl, lInC, cInC, .inr ⟨(fun z => by cases z), tDInC, _, [Value.ref tEInC0], nDInC, rfl, dInC, rfl, .cons rfl .nil⟩, .inl rfl⟩, kInC⟩
  have bInC3 : Binds K (PySem.W.fnOf "__init__" "Font.__init__" (defArgs s_init) (defBody s_init) (defScope s_init) (.ref tDInC) kVInC dcInC pmInC anInC cdInC ctInC) ["self", "signs", "turns"] [] := by
    obtain ⟨ds, hds, b⟩ := FInC.binds1 (ps := ["self", "signs", "turns"]) 3 1 (fun z => by cases z) rfl (fun _ _ _ _ _ _ _ us its hl hi => match us, its, hl, hi with | [_, _, _], [_], _, _ => ⟨_, rfl, rfl⟩)
    cases hds
    exact b
  have MC : Mk K C fInC := ⟨mkC, aInC, iInC, kCC⟩
  have FFl := fun_mk (st := s_flen) lFl cFl kFl
  have bFl : Binds K _ ["self"] [] := FFl.binds (ps := ["self"]) fun _ _ _ _ _ _ us hl => match us, hl with | [_], _ => rfl
  have pPs_ : PropOf K C "signs" pPs fPs := ⟨aPs, gPs, tPs, ⟨_, rPs⟩⟩
  have bPs : Binds K _ ["self"] [] := Binds.all (fd := PySem.W.fnOf "signs" "Font.signs" (defArgs (inCls s_cls 4)) (defBody (inCls s_cls 4)) (defScope (inCls s_cls 4)) .none kVPs dcPs pmPs anPs cdPs ctPs) fun us hl => match us, hl with | [_], _ => rfl
  have TIN : VErr K mg "InvalidNumber" "InvalidNumber.__init__" IN fIN :=
    { facts := PySem.F.excBase_ValueError, chain := chain_Value, gC := PySem.W.mg_of X G aIN, cls := ⟨nmIN, qIN, NIN, bsIN, snIN, subIN, abIN, colIN, ddIN, m0IN, m1IN, m2IN, m3IN, m5IN, xIN⟩, sa := sIN, ga := gIN, gg := hIN, noN := nIN, iC := iIN, tC := tIN, kC := kIN, exC := eIN, tyC := yIN, hdC := dIN, te := caught_self eIN bIN yIN zIN,
      fn := ⟨_, _, _, _, _, _, _, _, _, _, _, _, _, _, lIN, cIN⟩ }
  have upIN : PySem.W.kitOne K (.ref IN) (.type "ValueError") = some true := kit_sub vIN (by decide +kernel)
  have TIR : VErr K mg "InvalidRow" "InvalidRow.__init__" IR fIR :=
    { facts := PySem.F.excBase_ValueError, chain := chain_Value, gC := PySem.W.mg_of X G aIR, cls := ⟨nmIR, qIR, NIR, bsIR, snIR, subIR, abIR, colIR, ddIR, m0IR, m1IR, m2IR, m3IR, m5IR, xIR⟩, sa := sIR, ga := gIR, gg := hIR, noN := nIR, iC := iIR, tC := tIR, kC := kIR, exC := eIR, tyC := yIR, hdC := dIR, te := caught_self eIR bIR yIR zIR,
      fn := ⟨_, _, _, _, _, _, _, _, _, _, _, _, _, _, lIR, cIR⟩ }
  have upIR : PySem.W.kitOne K (.ref IR) (.type "ValueError") = some true := kit_sub vIR (by decide +kernel)
  refine ⟨PySem.W.fnOf "law" "law" (defArgs s_law) (defBody s_law) (defScope s_law) .none kVLa dcLa pmLa anLa (.ref cL) ctLa, [(cL, PL)], sp_law K PL, fun p hp => ?_, fun p hp => ?_, fun p hp => ?_, fun s u => .of_eq rfl, fun H a ns hl _ hH hS => ?_, fun base KB GB TBs => ?_⟩
  · rw [List.mem_singleton.mp hp]
    exact tbL
  · rw [List.mem_singleton.mp hp]
    exact nPL
  · rw [List.mem_singleton.mp hp]
    exact PySem.W.codeHd_of_K X chL
  · refine ⟨a, ns, rfl, hS, hl, fun p hp => ?_, fun H' => rfl⟩
    rw [List.mem_singleton.mp hp]
    exact LamX.TabS.nil (hH _ (List.mem_singleton.mpr rfl))
  · have tblL := TBs _ (List.mem_singleton.mpr rfl)
    have GPs := fn_getter (CX := CX0) (P := l.prog) (w := w) (mg := mg) (base := base) (k := 1) (N := ["self"]) lPs cPs ⟨rfl, rfl, rfl, by decide +kernel, rfl, by decide +kernel, by decide +kernel⟩ rfl rfl clC nC_signs
    have GLi := ok_isListed (P := l.prog) (w := w) (base := base) FLi T
    have GSi := ok_isSign (P := l.prog) (w := w) (base := base) FSi T
    have GSe := ok_isSet (P := l.prog) (w := w) (base := base) FSe T
    have GRo := ok_isRow (P := l.prog) (w := w) (base := base) FRo T
    have GFs := ok_isFont (P := l.prog) (w := w) (base := base) FFs T DSe GSe gC ⟨⟨_, _, rCC, cM⟩⟩ gA
    have GPa := ok_isPair (P := l.prog) (w := w) (base := base) FPa T DSi GSi
    have GKt := ok_kept (P := l.prog) (w := w) (base := base) FKt T DLi GLi DPa GPa
    have GIt := ok_isInt (P := l.prog) (w := w) (base := base) FIt T (PySem.W.mg_none_of X G z_bool)
    have GItK := ok_isIntK (P := l.prog) (w := w) (base := base) FIt T (PySem.W.mg_none_of X G z_bool)
    have GNu := ok_isNum (P := l.prog) (w := w) (base := base) FNu DIt GIt
    have GNuK := ok_isNumK (P := l.prog) (w := w) (base := base) FNu DIt GItK
    have GPe := ok_pen (P := l.prog) (w := w) (base := base) FPe T.list
    have GDr := ok_draw (P := l.prog) (w := w) (base := base) FDr TD
    have GDrB := ok_drawB4 (P := l.prog) (w := w) (base := base) FDr TD DDr
    have GPi := ok_pick (P := l.prog) (w := w) (base := base) FPi TD DDr GDr
    have GPiS := ok_pickS (P := l.prog) (w := w) (base := base) FPi TD DDr GDr
    have GSh := ok_shuf (P := l.prog) (w := w) (base := base) FSh TD T.list DDr GDr
    have GFo := ok_font2 (P := l.prog) (w := w) (base := base) FFo DDr GDr DSh GSh
    have GTu := ok_turns2 (P := l.prog) (w := w) (base := base) FTu DPi GPi DSh GSh
    have GInC := ok_init (P := l.prog) (w := w) (base := base) FInC clC nC_signs nC_turns DFs GFs DKt GKt
    have GMa := ok_made2 (P := l.prog) (w := w) (base := base) FMa MC GInC bInC3 gC DTu GTu
    have GFl := ok_flen (P := l.prog) (w := w) (base := base) FFl T clC nC_signs
    have GLr := ok_lrow (P := l.prog) (w := w) (base := base) FLr T
    have GOd := ok_oddT (P := l.prog) (w := w) (base := base) FOd DPi GPi
    have GIi := ok_lisinK (P := l.prog) (w := w) (base := base) FIi T (PySem.W.mg_none_of X G z_bool)
    have GLv := ok_lval (P := l.prog) (w := w) (base := base) FLv T
    have sgC : SgnC l.prog w K mg base C := ⟨clC, nC_signs, ⟨_, _, _, pPs_, GPs, bPs⟩⟩
    have LC : LenC l.prog w K mg base C := ⟨⟨_, _, ⟨aFl, iFl⟩, GFl, bFl⟩⟩
    have GDg := ok_digs (P := l.prog) (w := w) (base := base) FDg T LC
    have GCk := ok_chk1 (P := l.prog) (w := w) (base := base) FCk gGr DNu GNu
    have GCkX := ok_chk1X (P := l.prog) (w := w) (base := base) FCk gGr DNu GNuK TIN
    have GWr := ok_writ (P := l.prog) (w := w) (base := base) FWr sgC DCk GCk DDg GDg
    have GWrX := ok_writX (P := l.prog) (w := w) (base := base) FWr DCk GCkX
    have GNo := ok_numof (P := l.prog) (w := w) (base := base) FNo T sgC LC DRo GRo
    have GNoX := ok_numofX (P := l.prog) (w := w) (base := base) FNo sgC DRo GRo TIR
    exact ok_law lLa cLa T (PySem.W.mg_none_of X G z_max) (PySem.W.mg_none_of X G z_ValueError) tblL TIN upIN TIR upIR DPe GPe DFo GFo DMa GMa DDr GDr GDrB DWr GWr DLr GLr DNo GNo DPi GPiS DLv GLv GWrX GNoX FRf DRf FUr DUr DIi GIi DOd GOd
end My
end
section
set_option Elab.async false
set_option linter.all false
set_option maxRecDepth 100000
set_option maxHeartbeats 0
namespace My
open PySem PySem.Spec PyProof.Rows L2
def fnR0 : List FnV := [
  fnW "is_listed" "is_listed" (defArgs s_isListed) (defBody s_isListed) (defScope s_isListed),
  fnW "is_font_signs" "is_font_signs" (defArgs s_isFont) (defBody s_isFont) (defScope s_isFont),
  fnW "is_sign" "is_sign" (defArgs s_isSign) (defBody s_isSign) (defScope s_isSign),
  fnW "is_set" "is_set" (defArgs s_isSet) (defBody s_isSet) (defScope s_isSet),
  fnW "is_row" "is_row" (defArgs s_isRow) (defBody s_isRow) (defScope s_isRow),
  fnW "kept_turns" "kept_turns" (defArgs s_kept) (defBody s_kept) (defScope s_kept),
  fnW "_is_pair" "_is_pair" (defArgs s_isPair) (defBody s_isPair) (defScope s_isPair),
  fnW "is_integer" "is_integer" (defArgs s_isInt) (defBody s_isInt) (defScope s_isInt),
  fnW "is_number" "is_number" (defArgs s_isNum) (defBody s_isNum) (defScope s_isNum),
  fnW "written" "written" (defArgs s_writ) (defBody s_writ) (defScope s_writ),
  fnW "number_of" "number_of" (defArgs s_numof) (defBody s_numof) (defScope s_numof),
  fnW "_check_first" "_check_first" (defArgs s_chk1) (defBody s_chk1) (defScope s_chk1),
  fnW "_digits" "_digits" (defArgs s_digs) (defBody s_digs) (defScope s_digs),
  fnW "_law_pen" "_law_pen" (defArgs s_pen) (defBody s_pen) (defScope s_pen),
  fnW "_law_draw" "_law_draw" (defArgs s_draw) (defBody s_draw) (defScope s_draw),
  fnW "_law_pick" "_law_pick" (defArgs s_pick) (defBody s_pick) (defScope s_pick),
  fnW "_law_shuffled" "_law_shuffled" (defArgs s_shuf) (defBody s_shuf) (defScope s_shuf),
  fnW "_law_font" "_law_font" (defArgs s_font2) (defBody s_font2) (defScope s_font2),
  fnW "_law_turns" "_law_turns" (defArgs s_turns2) (defBody s_turns2) (defScope s_turns2),
  fnW "_law_made_font" "_law_made_font" (defArgs s_made2) (defBody s_made2) (defScope s_made2)]
def fnR1 : List FnV := [
  fnW "_law_odd" "_law_odd" (defArgs s_oddT) (defBody s_oddT) (defScope s_oddT),
  fnW "_law_row" "_law_row" (defArgs s_lrow) (defBody s_lrow) (defScope s_lrow),
  fnW "_law_refused" "_law_refused" (defArgs s_refk) (defBody s_refk) (defScope s_refk),
  fnW "_law_is_in" "_law_is_in" (defArgs s_lisinK) (defBody s_lisinK) (defScope s_lisinK),
  fnW "_law_unread" "_law_unread" (defArgs s_unrk) (defBody s_unrk) (defScope s_unrk),
  fnW "_law_value" "_law_value" (defArgs s_lval) (defBody s_lval) (defScope s_lval),
  fnW "__init__" "Font.__init__" (defArgs s_init) (defBody s_init) (defScope s_init),
  fnW "__len__" "Font.__len__" (defArgs s_flen) (defBody s_flen) (defScope s_flen),
  fnW "signs" "Font.signs" (defArgs (inCls s_cls 4)) (defBody (inCls s_cls 4)) (defScope (inCls s_cls 4)),
  fnW "__init__" "InvalidNumber.__init__" (eArgs "value" ⟨33, 17, 33, 21⟩ ⟨33, 23, 33, 28⟩) (eBody "value" ⟨34, 8, 34, 12⟩ ⟨34, 8, 34, 18⟩ ⟨34, 21, 34, 26⟩ ⟨34, 8, 34, 26⟩) (eScope "value"),
  fnW "__init__" "InvalidRow.__init__" (eArgs "value" ⟨29, 17, 29, 21⟩ ⟨29, 23, 29, 28⟩) (eBody "value" ⟨30, 8, 30, 12⟩ ⟨30, 8, 30, 18⟩ ⟨30, 21, 30, 26⟩ ⟨30, 8, 30, 26⟩) (eScope "value"),
  fnW "law" "law" (defArgs s_law) (defBody s_law) (defScope s_law)]
def fnRA : List FnV := fnR0 ++ fnR1
abbrev hH : PySem.W.Hook := hkX asA tabsA chkA fnLA fnRA
theorem hO_eq (s : PySem.W.SharedT) : hO s = hH.obs s.abs := obX_eq s
theorem hrun (w : World) : HandSHeadRun.RunEq hR hV hH hO 20000 namA w := hrun0 w
theorem facts_mk {l : PySem.W.OpenLaw} {w : World} {K : PySem.W.Frag} {h : Heap} {mg : Str → Option Value} {fa : Addr} (X : K.In h) (G : h.Ns mainGlobals mg) (hfa : mg "law" = some (.ref fa)) (S : SaysH tabsA chkA fnLA fnRA h K) :
    LawG l w K 13 63 "_law_script" mg fa h := by
  have c0 : chkA K = true := S.chk
  unfold chkA at c0
  obtain ⟨g0, c1⟩ := Bool.and_eq_true_iff.mp c0
  obtain ⟨g1, c2⟩ := Bool.and_eq_true_iff.mp c1
  obtain ⟨g2, c3⟩ := Bool.and_eq_true_iff.mp c2
  obtain ⟨g3, c4⟩ := Bool.and_eq_true_iff.mp c3
  obtain ⟨g4, c5⟩ := Bool.and_eq_true_iff.mp c4
  obtain ⟨g5, c6⟩ := Bool.and_eq_true_iff.mp c5
  obtain ⟨g6, c7⟩ := Bool.and_eq_true_iff.mp c6
  obtain ⟨g7, c8⟩ := Bool.and_eq_true_iff.mp c7
  obtain ⟨g8, c9⟩ := Bool.and_eq_true_iff.mp c8
  have g9 := c9
  unfold chk0 at g0
  obtain ⟨k_z_int, g0⟩ := Bool.and_eq_true_iff.mp g0
  obtain ⟨k_z_len, g0⟩ := Bool.and_eq_true_iff.mp g0
  obtain ⟨k_z_abs, g0⟩ := Bool.and_eq_true_iff.mp g0
  obtain ⟨k_z_list, g0⟩ := Bool.and_eq_true_iff.mp g0
  obtain ⟨k_z_tuple, g0⟩ := Bool.and_eq_true_iff.mp g0
  obtain ⟨k_z_str, g0⟩ := Bool.and_eq_true_iff.mp g0
  obtain ⟨k_z_set, g0⟩ := Bool.and_eq_true_iff.mp g0
  obtain ⟨k_z_all, g0⟩ := Bool.and_eq_true_iff.mp g0
  obtain ⟨k_z_isinstance, g0⟩ := Bool.and_eq_true_iff.mp g0
  obtain ⟨k_z_repr, g0⟩ := Bool.and_eq_true_iff.mp g0
  obtain ⟨k_z_range, g0⟩ := Bool.and_eq_true_iff.mp g0
  obtain ⟨k_z_bool, g0⟩ := Bool.and_eq_true_iff.mp g0
  obtain ⟨k_z_max, g0⟩ := Bool.and_eq_true_iff.mp g0
  obtain ⟨k_z_ValueError, g0⟩ := Bool.and_eq_true_iff.mp g0
  obtain ⟨k_aA, g0⟩ := Bool.and_eq_true_iff.mp g0
  obtain ⟨k_aGr, g0⟩ := Bool.and_eq_true_iff.mp g0
  obtain ⟨k_aC, g0⟩ := Bool.and_eq_true_iff.mp g0
  obtain ⟨k_pgC, g0⟩ := Bool.and_eq_true_iff.mp g0
  obtain ⟨k_hdC, g0⟩ := Bool.and_eq_true_iff.mp g0
  have k_poC := g0
  unfold chk1 at g1
  obtain ⟨k_saC, g1⟩ := Bool.and_eq_true_iff.mp g1
  obtain ⟨k_nC_signs, g1⟩ := Bool.and_eq_true_iff.mp g1
  obtain ⟨k_nC_turns, g1⟩ := Bool.and_eq_true_iff.mp g1
  obtain ⟨k_rdC, g1⟩ := Bool.and_eq_true_iff.mp g1
  obtain ⟨k_gaC, g1⟩ := Bool.and_eq_true_iff.mp g1
  obtain ⟨k_caC, g1⟩ := Bool.and_eq_true_iff.mp g1
  obtain ⟨k_obG, g1⟩ := Bool.and_eq_true_iff.mp g1
  obtain ⟨k_obT, g1⟩ := Bool.and_eq_true_iff.mp g1
  obtain ⟨k_moC, g1⟩ := Bool.and_eq_true_iff.mp g1
  obtain ⟨k_mv, g1⟩ := Bool.and_eq_true_iff.mp g1
  obtain ⟨k_aLi, g1⟩ := Bool.and_eq_true_iff.mp g1
  obtain ⟨k_lLi_d, g1⟩ := Bool.and_eq_true_iff.mp g1
  obtain ⟨k_cLi, g1⟩ := Bool.and_eq_true_iff.mp g1
  obtain ⟨k_kLi, g1⟩ := Bool.and_eq_true_iff.mp g1
  obtain ⟨k_aFs, g1⟩ := Bool.and_eq_true_iff.mp g1
  obtain ⟨k_lFs_d, g1⟩ := Bool.and_eq_true_iff.mp g1
  obtain ⟨k_cFs, g1⟩ := Bool.and_eq_true_iff.mp g1
  obtain ⟨k_kFs, g1⟩ := Bool.and_eq_true_iff.mp g1
  obtain ⟨k_aSi, g1⟩ := Bool.and_eq_true_iff.mp g1
  have k_lSi_d := g1
  unfold chk2 at g2
  obtain ⟨k_cSi, g2⟩ := Bool.and_eq_true_iff.mp g2
  obtain ⟨k_kSi, g2⟩ := Bool.and_eq_true_iff.mp g2
  obtain ⟨k_aSe, g2⟩ := Bool.and_eq_true_iff.mp g2
  obtain ⟨k_lSe_d, g2⟩ := Bool.and_eq_true_iff.mp g2
  obtain ⟨k_cSe, g2⟩ := Bool.and_eq_true_iff.mp g2
  obtain ⟨k_kSe, g2⟩ := Bool.and_eq_true_iff.mp g2
  obtain ⟨k_aRo, g2⟩ := Bool.and_eq_true_iff.mp g2
  obtain ⟨k_lRo_d, g2⟩ := Bool.and_eq_true_iff.mp g2
  obtain ⟨k_cRo, g2⟩ := Bool.and_eq_true_iff.mp g2
  obtain ⟨k_kRo, g2⟩ := Bool.and_eq_true_iff.mp g2
  obtain ⟨k_aKt, g2⟩ := Bool.and_eq_true_iff.mp g2
  obtain ⟨k_lKt_d, g2⟩ := Bool.and_eq_true_iff.mp g2
  obtain ⟨k_cKt, g2⟩ := Bool.and_eq_true_iff.mp g2
  obtain ⟨k_kKt, g2⟩ := Bool.and_eq_true_iff.mp g2
  obtain ⟨k_aPa, g2⟩ := Bool.and_eq_true_iff.mp g2
  obtain ⟨k_lPa_d, g2⟩ := Bool.and_eq_true_iff.mp g2
  obtain ⟨k_cPa, g2⟩ := Bool.and_eq_true_iff.mp g2
  obtain ⟨k_kPa, g2⟩ := Bool.and_eq_true_iff.mp g2
  obtain ⟨k_aIt, g2⟩ := Bool.and_eq_true_iff.mp g2
  have k_lIt_d := g2
  unfold chk3 at g3
  obtain ⟨k_cIt, g3⟩ := Bool.and_eq_true_iff.mp g3
  obtain ⟨k_kIt, g3⟩ := Bool.and_eq_true_iff.mp g3
  obtain ⟨k_aNu, g3⟩ := Bool.and_eq_true_iff.mp g3
  obtain ⟨k_lNu_d, g3⟩ := Bool.and_eq_true_iff.mp g3
  obtain ⟨k_dNu, g3⟩ := Bool.and_eq_true_iff.mp g3
  obtain ⟨k_cNu, g3⟩ := Bool.and_eq_true_iff.mp g3
  obtain ⟨k_kNu, g3⟩ := Bool.and_eq_true_iff.mp g3
  obtain ⟨k_aWr, g3⟩ := Bool.and_eq_true_iff.mp g3
  obtain ⟨k_lWr_d, g3⟩ := Bool.and_eq_true_iff.mp g3
  obtain ⟨k_cWr, g3⟩ := Bool.and_eq_true_iff.mp g3
  obtain ⟨k_kWr, g3⟩ := Bool.and_eq_true_iff.mp g3
  obtain ⟨k_aNo, g3⟩ := Bool.and_eq_true_iff.mp g3
  obtain ⟨k_lNo_d, g3⟩ := Bool.and_eq_true_iff.mp g3
  obtain ⟨k_cNo, g3⟩ := Bool.and_eq_true_iff.mp g3
  obtain ⟨k_kNo, g3⟩ := Bool.and_eq_true_iff.mp g3
  obtain ⟨k_aCk, g3⟩ := Bool.and_eq_true_iff.mp g3
  obtain ⟨k_lCk_d, g3⟩ := Bool.and_eq_true_iff.mp g3
  obtain ⟨k_cCk, g3⟩ := Bool.and_eq_true_iff.mp g3
  obtain ⟨k_kCk, g3⟩ := Bool.and_eq_true_iff.mp g3
  have k_aDg := g3
  unfold chk4 at g4
  obtain ⟨k_lDg_d, g4⟩ := Bool.and_eq_true_iff.mp g4
  obtain ⟨k_cDg, g4⟩ := Bool.and_eq_true_iff.mp g4
  obtain ⟨k_kDg, g4⟩ := Bool.and_eq_true_iff.mp g4
  obtain ⟨k_aPe, g4⟩ := Bool.and_eq_true_iff.mp g4
  obtain ⟨k_lPe_d, g4⟩ := Bool.and_eq_true_iff.mp g4
  obtain ⟨k_cPe, g4⟩ := Bool.and_eq_true_iff.mp g4
  obtain ⟨k_kPe, g4⟩ := Bool.and_eq_true_iff.mp g4
  obtain ⟨k_aDr, g4⟩ := Bool.and_eq_true_iff.mp g4
  obtain ⟨k_lDr_d, g4⟩ := Bool.and_eq_true_iff.mp g4
  obtain ⟨k_cDr, g4⟩ := Bool.and_eq_true_iff.mp g4
  obtain ⟨k_kDr, g4⟩ := Bool.and_eq_true_iff.mp g4
  obtain ⟨k_aPi, g4⟩ := Bool.and_eq_true_iff.mp g4
  obtain ⟨k_lPi_d, g4⟩ := Bool.and_eq_true_iff.mp g4
  obtain ⟨k_cPi, g4⟩ := Bool.and_eq_true_iff.mp g4
  obtain ⟨k_kPi, g4⟩ := Bool.and_eq_true_iff.mp g4
  obtain ⟨k_aSh, g4⟩ := Bool.and_eq_true_iff.mp g4
  obtain ⟨k_lSh_d, g4⟩ := Bool.and_eq_true_iff.mp g4
  obtain ⟨k_cSh, g4⟩ := Bool.and_eq_true_iff.mp g4
  obtain ⟨k_kSh, g4⟩ := Bool.and_eq_true_iff.mp g4
  have k_aFo := g4
  unfold chk5 at g5
  obtain ⟨k_lFo_d, g5⟩ := Bool.and_eq_true_iff.mp g5
  obtain ⟨k_cFo, g5⟩ := Bool.and_eq_true_iff.mp g5
  obtain ⟨k_kFo, g5⟩ := Bool.and_eq_true_iff.mp g5
  obtain ⟨k_aTu, g5⟩ := Bool.and_eq_true_iff.mp g5
  obtain ⟨k_lTu_d, g5⟩ := Bool.and_eq_true_iff.mp g5
  obtain ⟨k_cTu, g5⟩ := Bool.and_eq_true_iff.mp g5
  obtain ⟨k_kTu, g5⟩ := Bool.and_eq_true_iff.mp g5
  obtain ⟨k_aMa, g5⟩ := Bool.and_eq_true_iff.mp g5
  obtain ⟨k_lMa_d, g5⟩ := Bool.and_eq_true_iff.mp g5
  obtain ⟨k_cMa, g5⟩ := Bool.and_eq_true_iff.mp g5
  obtain ⟨k_kMa, g5⟩ := Bool.and_eq_true_iff.mp g5
  obtain ⟨k_aOd, g5⟩ := Bool.and_eq_true_iff.mp g5
  obtain ⟨k_lOd_d, g5⟩ := Bool.and_eq_true_iff.mp g5
  obtain ⟨k_cOd, g5⟩ := Bool.and_eq_true_iff.mp g5
  obtain ⟨k_kOd, g5⟩ := Bool.and_eq_true_iff.mp g5
  obtain ⟨k_aLr, g5⟩ := Bool.and_eq_true_iff.mp g5
  obtain ⟨k_lLr_d, g5⟩ := Bool.and_eq_true_iff.mp g5
  obtain ⟨k_cLr, g5⟩ := Bool.and_eq_true_iff.mp g5
  obtain ⟨k_kLr, g5⟩ := Bool.and_eq_true_iff.mp g5
  have k_aRf := g5
  unfold chk6 at g6
  obtain ⟨k_lRf_d, g6⟩ := Bool.and_eq_true_iff.mp g6
  obtain ⟨k_cRf, g6⟩ := Bool.and_eq_true_iff.mp g6
  obtain ⟨k_kRf, g6⟩ := Bool.and_eq_true_iff.mp g6
  obtain ⟨k_aIi, g6⟩ := Bool.and_eq_true_iff.mp g6
  obtain ⟨k_lIi_d, g6⟩ := Bool.and_eq_true_iff.mp g6
  obtain ⟨k_cIi, g6⟩ := Bool.and_eq_true_iff.mp g6
  obtain ⟨k_kIi, g6⟩ := Bool.and_eq_true_iff.mp g6
  obtain ⟨k_aUr, g6⟩ := Bool.and_eq_true_iff.mp g6
  obtain ⟨k_lUr_d, g6⟩ := Bool.and_eq_true_iff.mp g6
  obtain ⟨k_cUr, g6⟩ := Bool.and_eq_true_iff.mp g6
  obtain ⟨k_kUr, g6⟩ := Bool.and_eq_true_iff.mp g6
  obtain ⟨k_aLv, g6⟩ := Bool.and_eq_true_iff.mp g6
  obtain ⟨k_lLv_d, g6⟩ := Bool.and_eq_true_iff.mp g6
  obtain ⟨k_cLv, g6⟩ := Bool.and_eq_true_iff.mp g6
  obtain ⟨k_kLv, g6⟩ := Bool.and_eq_true_iff.mp g6
  obtain ⟨k_aInC, g6⟩ := Bool.and_eq_true_iff.mp g6
  obtain ⟨k_iInC, g6⟩ := Bool.and_eq_true_iff.mp g6
  obtain ⟨k_lInC_d, g6⟩ := Bool.and_eq_true_iff.mp g6
  obtain ⟨k_dInC, g6⟩ := Bool.and_eq_true_iff.mp g6
  have k_eInC0 := g6
  unfold chk7 at g7
  obtain ⟨k_eInC0_t, g7⟩ := Bool.and_eq_true_iff.mp g7
  obtain ⟨k_cInC, g7⟩ := Bool.and_eq_true_iff.mp g7
  obtain ⟨k_kInC, g7⟩ := Bool.and_eq_true_iff.mp g7
  obtain ⟨k_mkC, g7⟩ := Bool.and_eq_true_iff.mp g7
  obtain ⟨k_kCC, g7⟩ := Bool.and_eq_true_iff.mp g7
  obtain ⟨k_aFl, g7⟩ := Bool.and_eq_true_iff.mp g7
  obtain ⟨k_iFl, g7⟩ := Bool.and_eq_true_iff.mp g7
  obtain ⟨k_lFl_d, g7⟩ := Bool.and_eq_true_iff.mp g7
  obtain ⟨k_cFl, g7⟩ := Bool.and_eq_true_iff.mp g7
  obtain ⟨k_kFl, g7⟩ := Bool.and_eq_true_iff.mp g7
  obtain ⟨k_aPs, g7⟩ := Bool.and_eq_true_iff.mp g7
  obtain ⟨k_gPs, g7⟩ := Bool.and_eq_true_iff.mp g7
  obtain ⟨k_tPs, g7⟩ := Bool.and_eq_true_iff.mp g7
  obtain ⟨k_rPs, g7⟩ := Bool.and_eq_true_iff.mp g7
  obtain ⟨k_lPs_d, g7⟩ := Bool.and_eq_true_iff.mp g7
  obtain ⟨k_cPs, g7⟩ := Bool.and_eq_true_iff.mp g7
  obtain ⟨k_aIN, g7⟩ := Bool.and_eq_true_iff.mp g7
  obtain ⟨k_xIN, g7⟩ := Bool.and_eq_true_iff.mp g7
  obtain ⟨k_sIN, g7⟩ := Bool.and_eq_true_iff.mp g7
  have k_gIN := g7
  unfold chk8 at g8
  obtain ⟨k_hIN, g8⟩ := Bool.and_eq_true_iff.mp g8
  obtain ⟨k_nIN, g8⟩ := Bool.and_eq_true_iff.mp g8
  obtain ⟨k_iIN, g8⟩ := Bool.and_eq_true_iff.mp g8
  obtain ⟨k_tIN, g8⟩ := Bool.and_eq_true_iff.mp g8
  obtain ⟨k_lIN_d, g8⟩ := Bool.and_eq_true_iff.mp g8
  obtain ⟨k_lIN_k, g8⟩ := Bool.and_eq_true_iff.mp g8
  obtain ⟨k_cIN, g8⟩ := Bool.and_eq_true_iff.mp g8
  obtain ⟨k_kIN, g8⟩ := Bool.and_eq_true_iff.mp g8
  obtain ⟨k_eIN, g8⟩ := Bool.and_eq_true_iff.mp g8
  obtain ⟨k_yIN, g8⟩ := Bool.and_eq_true_iff.mp g8
  obtain ⟨k_dIN, g8⟩ := Bool.and_eq_true_iff.mp g8
  obtain ⟨k_bIN, g8⟩ := Bool.and_eq_true_iff.mp g8
  obtain ⟨k_zIN, g8⟩ := Bool.and_eq_true_iff.mp g8
  obtain ⟨k_vIN, g8⟩ := Bool.and_eq_true_iff.mp g8
  obtain ⟨k_aIR, g8⟩ := Bool.and_eq_true_iff.mp g8
  obtain ⟨k_xIR, g8⟩ := Bool.and_eq_true_iff.mp g8
  obtain ⟨k_sIR, g8⟩ := Bool.and_eq_true_iff.mp g8
  obtain ⟨k_gIR, g8⟩ := Bool.and_eq_true_iff.mp g8
  obtain ⟨k_hIR, g8⟩ := Bool.and_eq_true_iff.mp g8
  have k_nIR := g8
  unfold chk9 at g9
  obtain ⟨k_iIR, g9⟩ := Bool.and_eq_true_iff.mp g9
  obtain ⟨k_tIR, g9⟩ := Bool.and_eq_true_iff.mp g9
  obtain ⟨k_lIR_d, g9⟩ := Bool.and_eq_true_iff.mp g9
  obtain ⟨k_lIR_k, g9⟩ := Bool.and_eq_true_iff.mp g9
  obtain ⟨k_cIR, g9⟩ := Bool.and_eq_true_iff.mp g9
  obtain ⟨k_kIR, g9⟩ := Bool.and_eq_true_iff.mp g9
  obtain ⟨k_eIR, g9⟩ := Bool.and_eq_true_iff.mp g9
  obtain ⟨k_yIR, g9⟩ := Bool.and_eq_true_iff.mp g9
  obtain ⟨k_dIR, g9⟩ := Bool.and_eq_true_iff.mp g9
  obtain ⟨k_bIR, g9⟩ := Bool.and_eq_true_iff.mp g9
  obtain ⟨k_zIR, g9⟩ := Bool.and_eq_true_iff.mp g9
  obtain ⟨k_vIR, g9⟩ := Bool.and_eq_true_iff.mp g9
  obtain ⟨k_aLa, g9⟩ := Bool.and_eq_true_iff.mp g9
  obtain ⟨k_lLa_d, g9⟩ := Bool.and_eq_true_iff.mp g9
  obtain ⟨k_lLa_c, g9⟩ := Bool.and_eq_true_iff.mp g9
  obtain ⟨k_cLa, g9⟩ := Bool.and_eq_true_iff.mp g9
  have k_chL := g9
  have e0 : fnLA K = fnRA := S.fn
  have e1 : ([fnV K (v_fLi K),
    fnV K (v_fFs K),
    fnV K (v_fSi K),
    fnV K (v_fSe K),
    fnV K (v_fRo K),
    fnV K (v_fKt K),
    fnV K (v_fPa K),
    fnV K (v_fIt K),
    fnV K (v_fNu K),
    fnV K (v_fWr K),
    fnV K (v_fNo K),
    fnV K (v_fCk K),
    fnV K (v_fDg K),
    fnV K (v_fPe K),
    fnV K (v_fDr K),
    fnV K (v_fPi K),
    fnV K (v_fSh K),
    fnV K (v_fFo K),
    fnV K (v_fTu K),
    fnV K (v_fMa K),
    fnV K (v_fOd K),
    fnV K (v_fLr K),
    fnV K (v_fRf K),
    fnV K (v_fIi K),
    fnV K (v_fUr K),
    fnV K (v_fLv K),
    fnV K (v_fInC K),
    fnV K (v_fFl K),
    fnV K (v_fPs K),
    fnV K (v_fIN K),
    fnV K (v_fIR K),
    fnV K (v_fLa K)] : List FnV) = [fnW "is_listed" "is_listed" (defArgs s_isListed) (defBody s_isListed) (defScope s_isListed),
    fnW "is_font_signs" "is_font_signs" (defArgs s_isFont) (defBody s_isFont) (defScope s_isFont),
    fnW "is_sign" "is_sign" (defArgs s_isSign) (defBody s_isSign) (defScope s_isSign),
    fnW "is_set" "is_set" (defArgs s_isSet) (defBody s_isSet) (defScope s_isSet),
    fnW "is_row" "is_row" (defArgs s_isRow) (defBody s_isRow) (defScope s_isRow),
    fnW "kept_turns" "kept_turns" (defArgs s_kept) (defBody s_kept) (defScope s_kept),
    fnW "_is_pair" "_is_pair" (defArgs s_isPair) (defBody s_isPair) (defScope s_isPair),
    fnW "is_integer" "is_integer" (defArgs s_isInt) (defBody s_isInt) (defScope s_isInt),
    fnW "is_number" "is_number" (defArgs s_isNum) (defBody s_isNum) (defScope s_isNum),
    fnW "written" "written" (defArgs s_writ) (defBody s_writ) (defScope s_writ),
    fnW "number_of" "number_of" (defArgs s_numof) (defBody s_numof) (defScope s_numof),
    fnW "_check_first" "_check_first" (defArgs s_chk1) (defBody s_chk1) (defScope s_chk1),
    fnW "_digits" "_digits" (defArgs s_digs) (defBody s_digs) (defScope s_digs),
    fnW "_law_pen" "_law_pen" (defArgs s_pen) (defBody s_pen) (defScope s_pen),
    fnW "_law_draw" "_law_draw" (defArgs s_draw) (defBody s_draw) (defScope s_draw),
    fnW "_law_pick" "_law_pick" (defArgs s_pick) (defBody s_pick) (defScope s_pick),
    fnW "_law_shuffled" "_law_shuffled" (defArgs s_shuf) (defBody s_shuf) (defScope s_shuf),
    fnW "_law_font" "_law_font" (defArgs s_font2) (defBody s_font2) (defScope s_font2),
    fnW "_law_turns" "_law_turns" (defArgs s_turns2) (defBody s_turns2) (defScope s_turns2),
    fnW "_law_made_font" "_law_made_font" (defArgs s_made2) (defBody s_made2) (defScope s_made2),
    fnW "_law_odd" "_law_odd" (defArgs s_oddT) (defBody s_oddT) (defScope s_oddT),
    fnW "_law_row" "_law_row" (defArgs s_lrow) (defBody s_lrow) (defScope s_lrow),
    fnW "_law_refused" "_law_refused" (defArgs s_refk) (defBody s_refk) (defScope s_refk),
    fnW "_law_is_in" "_law_is_in" (defArgs s_lisinK) (defBody s_lisinK) (defScope s_lisinK),
    fnW "_law_unread" "_law_unread" (defArgs s_unrk) (defBody s_unrk) (defScope s_unrk),
    fnW "_law_value" "_law_value" (defArgs s_lval) (defBody s_lval) (defScope s_lval),
    fnW "__init__" "Font.__init__" (defArgs s_init) (defBody s_init) (defScope s_init),
    fnW "__len__" "Font.__len__" (defArgs s_flen) (defBody s_flen) (defScope s_flen),
    fnW "signs" "Font.signs" (defArgs (inCls s_cls 4)) (defBody (inCls s_cls 4)) (defScope (inCls s_cls 4)),
    fnW "__init__" "InvalidNumber.__init__" (eArgs "value" ⟨33, 17, 33, 21⟩ ⟨33, 23, 33, 28⟩) (eBody "value" ⟨34, 8, 34, 12⟩ ⟨34, 8, 34, 18⟩ ⟨34, 21, 34, 26⟩ ⟨34, 8, 34, 26⟩) (eScope "value"),
    fnW "__init__" "InvalidRow.__init__" (eArgs "value" ⟨29, 17, 29, 21⟩ ⟨29, 23, 29, 28⟩) (eBody "value" ⟨30, 8, 30, 12⟩ ⟨30, 8, 30, 18⟩ ⟨30, 21, 30, 26⟩ ⟨30, 8, 30, 26⟩) (eScope "value"),
    fnW "law" "law" (defArgs s_law) (defBody s_law) (defScope s_law)] := e0
  clear e0
  obtain ⟨n_lLi, e1⟩ := List.cons.inj e1
  obtain ⟨n_lFs, e1⟩ := List.cons.inj e1
  obtain ⟨n_lSi, e1⟩ := List.cons.inj e1
  obtain ⟨n_lSe, e1⟩ := List.cons.inj e1
  obtain ⟨n_lRo, e1⟩ := List.cons.inj e1
  obtain ⟨n_lKt, e1⟩ := List.cons.inj e1
  obtain ⟨n_lPa, e1⟩ := List.cons.inj e1
  obtain ⟨n_lIt, e1⟩ := List.cons.inj e1
  obtain ⟨n_lNu, e1⟩ := List.cons.inj e1
  obtain ⟨n_lWr, e1⟩ := List.cons.inj e1
  obtain ⟨n_lNo, e1⟩ := List.cons.inj e1
  obtain ⟨n_lCk, e1⟩ := List.cons.inj e1
  obtain ⟨n_lDg, e1⟩ := List.cons.inj e1
  obtain ⟨n_lPe, e1⟩ := List.cons.inj e1
  obtain ⟨n_lDr, e1⟩ := List.cons.inj e1
  obtain ⟨n_lPi, e1⟩ := List.cons.inj e1
  obtain ⟨n_lSh, e1⟩ := List.cons.inj e1
  obtain ⟨n_lFo, e1⟩ := List.cons.inj e1
  obtain ⟨n_lTu, e1⟩ := List.cons.inj e1
  obtain ⟨n_lMa, e1⟩ := List.cons.inj e1
  obtain ⟨n_lOd, e1⟩ := List.cons.inj e1
  obtain ⟨n_lLr, e1⟩ := List.cons.inj e1
  obtain ⟨n_lRf, e1⟩ := List.cons.inj e1
  obtain ⟨n_lIi, e1⟩ := List.cons.inj e1
  obtain ⟨n_lUr, e1⟩ := List.cons.inj e1
  obtain ⟨n_lLv, e1⟩ := List.cons.inj e1
  obtain ⟨n_lInC, e1⟩ := List.cons.inj e1
  obtain ⟨n_lFl, e1⟩ := List.cons.inj e1
  obtain ⟨n_lPs, e1⟩ := List.cons.inj e1
  obtain ⟨n_lIN, e1⟩ := List.cons.inj e1
  obtain ⟨n_lIR, e1⟩ := List.cons.inj e1
  obtain ⟨n_lLa, e1⟩ := List.cons.inj e1
  clear e1
  have z_int : PySem.W.nsIn K mainGlobals "int" = some none := of_decide_eq_true k_z_int
  have z_len : PySem.W.nsIn K mainGlobals "len" = some none := of_decide_eq_true k_z_len
  have z_abs : PySem.W.nsIn K mainGlobals "abs" = some none := of_decide_eq_true k_z_abs
  have z_list : PySem.W.nsIn K mainGlobals "list" = some none := of_decide_eq_true k_z_list
  have z_tuple : PySem.W.nsIn K mainGlobals "tuple" = some none := of_decide_eq_true k_z_tuple
  have z_str : PySem.W.nsIn K mainGlobals "str" = some none := of_decide_eq_true k_z_str
  have z_set : PySem.W.nsIn K mainGlobals "set" = some none := of_decide_eq_true k_z_set
  have z_all : PySem.W.nsIn K mainGlobals "all" = some none := of_decide_eq_true k_z_all
  have z_isinstance : PySem.W.nsIn K mainGlobals "isinstance" = some none := of_decide_eq_true k_z_isinstance
  have z_repr : PySem.W.nsIn K mainGlobals "repr" = some none := of_decide_eq_true k_z_repr
  have z_range : PySem.W.nsIn K mainGlobals "range" = some none := of_decide_eq_true k_z_range
  have z_bool : PySem.W.nsIn K mainGlobals "bool" = some none := of_decide_eq_true k_z_bool
  have z_max : PySem.W.nsIn K mainGlobals "max" = some none := of_decide_eq_true k_z_max
  have z_ValueError : PySem.W.nsIn K mainGlobals "ValueError" = some none := of_decide_eq_true k_z_ValueError
  obtain ⟨tA, aA⟩ := look_str (x := "ALPHABET") k_aA
  obtain ⟨tG, aGr⟩ := look_int (x := "GREATEST") k_aGr
  have aC : PySem.W.nsIn K mainGlobals "Font" = some (some (.ref (v_C K))) := of_decide_eq_true k_aC
  have pgC : PySem.W.plainGet K (v_C K) Str.empty = true := k_pgC
  have hdC : PySem.W.hasDictIn K (v_C K) = true := k_hdC
  have poC : PySem.W.plainOver K (v_C K) = true := k_poC
  have saC : PySem.W.findIn K (.ref (v_C K)) "__setattr__" = some (some (.builtin "object.__setattr__")) := of_decide_eq_true k_saC
  have nC_signs : PySem.W.findIn K (.ref (v_C K)) "_signs" = some none := of_decide_eq_true k_nC_signs
  have nC_turns : PySem.W.findIn K (.ref (v_C K)) "_turns" = some none := of_decide_eq_true k_nC_turns
  have rdC : PySem.W.readsIn K (v_C K) (.type "type") = true := k_rdC
  have gaC : PySem.W.specialIn K (.ref (v_C K)) "__getattribute__" = some (some (.builtin "type.__getattribute__")) := of_decide_eq_true k_gaC
  have caC : PySem.W.findIn K (.ref (v_C K)) "__class__" = some (some (.builtin "object.__class__")) := of_decide_eq_true k_caC
  have obG : PySem.W.specialIn K (.builtin "object.__class__") "__get__" = some (some (.builtin "getset_descriptor.__get__")) := of_decide_eq_true k_obG
  have obT : PySem.W.takesIn K (.builtin "object.__class__") = some true := of_decide_eq_true k_obT
  have moC : PySem.W.mroIn K (v_C K) (.type "object") = some true := of_decide_eq_true k_moC
  obtain ⟨tm, mv⟩ := look_val k_mv
  have aLi : PySem.W.nsIn K mainGlobals "is_listed" = some (some (.ref (v_fLi K))) := of_decide_eq_true k_aLi
  have lLi : K.lookup (v_fLi K) = some ⟨((oOf K (v_fLi K)).cls), ((oOf K (v_fLi K)).dict), .func (PySem.W.fnOf "is_listed" "is_listed" (defArgs s_isListed) (defBody s_isListed) (defScope s_isListed) .none ((fnD K (v_fLi K)).kwdefaults) ((fnD K (v_fLi K)).doc) ((fnD K (v_fLi K)).pyModule) ((fnD K (v_fLi K)).annotations) ((fnD K (v_fLi K)).code) ((fnD K (v_fLi K)).closureTuple)), ((oOf K (v_fLi K)).slots)⟩ := look_fn n_lLi (of_decide_eq_true k_lLi_d) rfl rfl
  have cLi : PySem.W.codeIn K ((fnD K (v_fLi K)).code) "is_listed" = true := k_cLi
  have kLi : PySem.W.keepIn K (.ref (v_fLi K)) = true := k_kLi
  have aFs : PySem.W.nsIn K mainGlobals "is_font_signs" = some (some (.ref (v_fFs K))) := of_decide_eq_true k_aFs
  have lFs : K.lookup (v_fFs K) = some ⟨((oOf K (v_fFs K)).cls), ((oOf K (v_fFs K)).dict), .func (PySem.W.fnOf "is_font_signs" "is_font_signs" (defArgs s_isFont) (defBody s_isFont) (defScope s_isFont) .none ((fnD K (v_fFs K)).kwdefaults) ((fnD K (v_fFs K)).doc) ((fnD K (v_fFs K)).pyModule) ((fnD K (v_fFs K)).annotations) ((fnD K (v_fFs K)).code) ((fnD K (v_fFs K)).closureTuple)), ((oOf K (v_fFs K)).slots)⟩ := look_fn n_lFs (of_decide_eq_true k_lFs_d) rfl rfl
  have cFs : PySem.W.codeIn K ((fnD K (v_fFs K)).code) "is_font_signs" = true := k_cFs
  have kFs : PySem.W.keepIn K (.ref (v_fFs K)) = true := k_kFs
  have aSi : PySem.W.nsIn K mainGlobals "is_sign" = some (some (.ref (v_fSi K))) := of_decide_eq_true k_aSi
  have lSi : K.lookup (v_fSi K) = some ⟨((oOf K (v_fSi K)).cls), ((oOf K (v_fSi K)).dict), .func (PySem.W.fnOf "is_sign" "is_sign" (defArgs s_isSign) (defBody s_isSign) (defScope s_isSign) .none ((fnD K (v_fSi K)).kwdefaults) ((fnD K (v_fSi K)).doc) ((fnD K (v_fSi K)).pyModule) ((fnD K (v_fSi K)).annotations) ((fnD K (v_fSi K)).code) ((fnD K (v_fSi K)).closureTuple)), ((oOf K (v_fSi K)).slots)⟩ := look_fn n_lSi (of_decide_eq_true k_lSi_d) rfl rfl
  have cSi : PySem.W.codeIn K ((fnD K (v_fSi K)).code) "is_sign" = true := k_cSi
  have kSi : PySem.W.keepIn K (.ref (v_fSi K)) = true := k_kSi
  have aSe : PySem.W.nsIn K mainGlobals "is_set" = some (some (.ref (v_fSe K))) := of_decide_eq_true k_aSe
  have lSe : K.lookup (v_fSe K) = some ⟨((oOf K (v_fSe K)).cls), ((oOf K (v_fSe K)).dict), .func (PySem.W.fnOf "is_set" "is_set" (defArgs s_isSet) (defBody s_isSet) (defScope s_isSet) .none ((fnD K (v_fSe K)).kwdefaults) ((fnD K (v_fSe K)).doc) ((fnD K (v_fSe K)).pyModule) ((fnD K (v_fSe K)).annotations) ((fnD K (v_fSe K)).code) ((fnD K (v_fSe K)).closureTuple)), ((oOf K (v_fSe K)).slots)⟩ := look_fn n_lSe (of_decide_eq_true k_lSe_d) rfl rfl
  have cSe : PySem.W.codeIn K ((fnD K (v_fSe K)).code) "is_set" = true := k_cSe
  have kSe : PySem.W.keepIn K (.ref (v_fSe K)) = true := k_kSe
  have aRo : PySem.W.nsIn K mainGlobals "is_row" = some (some (.ref (v_fRo K))) := of_decide_eq_true k_aRo
  have lRo : K.lookup (v_fRo K) = some ⟨((oOf K (v_fRo K)).cls), ((oOf K (v_fRo K)).dict), .func (PySem.W.fnOf "is_row" "is_row" (defArgs s_isRow) (defBody s_isRow) (defScope s_isRow) .none ((fnD K (v_fRo K)).kwdefaults) ((fnD K (v_fRo K)).doc) ((fnD K (v_fRo K)).pyModule) ((fnD K (v_fRo K)).annotations) ((fnD K (v_fRo K)).code) ((fnD K (v_fRo K)).closureTuple)), ((oOf K (v_fRo K)).slots)⟩ := look_fn n_lRo (of_decide_eq_true k_lRo_d) rfl rfl
  have cRo : PySem.W.codeIn K ((fnD K (v_fRo K)).code) "is_row" = true := k_cRo
  have kRo : PySem.W.keepIn K (.ref (v_fRo K)) = true := k_kRo
  have aKt : PySem.W.nsIn K mainGlobals "kept_turns" = some (some (.ref (v_fKt K))) := of_decide_eq_true k_aKt
  have lKt : K.lookup (v_fKt K) = some ⟨((oOf K (v_fKt K)).cls), ((oOf K (v_fKt K)).dict), .func (PySem.W.fnOf "kept_turns" "kept_turns" (defArgs s_kept) (defBody s_kept) (defScope s_kept) .none ((fnD K (v_fKt K)).kwdefaults) ((fnD K (v_fKt K)).doc) ((fnD K (v_fKt K)).pyModule) ((fnD K (v_fKt K)).annotations) ((fnD K (v_fKt K)).code) ((fnD K (v_fKt K)).closureTuple)), ((oOf K (v_fKt K)).slots)⟩ := look_fn n_lKt (of_decide_eq_true k_lKt_d) rfl rfl
  have cKt : PySem.W.codeIn K ((fnD K (v_fKt K)).code) "kept_turns" = true := k_cKt
  have kKt : PySem.W.keepIn K (.ref (v_fKt K)) = true := k_kKt
  have aPa : PySem.W.nsIn K mainGlobals "_is_pair" = some (some (.ref (v_fPa K))) := of_decide_eq_true k_aPa
  have lPa : K.lookup (v_fPa K) = some ⟨((oOf K (v_fPa K)).cls), ((oOf K (v_fPa K)).dict), .func (PySem.W.fnOf "_is_pair" "_is_pair" (defArgs s_isPair) (defBody s_isPair) (defScope s_isPair) .none ((fnD K (v_fPa K)).kwdefaults) ((fnD K (v_fPa K)).doc) ((fnD K (v_fPa K)).pyModule) ((fnD K (v_fPa K)).annotations) ((fnD K (v_fPa K)).code) ((fnD K (v_fPa K)).closureTuple)), ((oOf K (v_fPa K)).slots)⟩ := look_fn n_lPa (of_decide_eq_true k_lPa_d) rfl rfl
  have cPa : PySem.W.codeIn K ((fnD K (v_fPa K)).code) "_is_pair" = true := k_cPa
  have kPa : PySem.W.keepIn K (.ref (v_fPa K)) = true := k_kPa
  have aIt : PySem.W.nsIn K mainGlobals "is_integer" = some (some (.ref (v_fIt K))) := of_decide_eq_true k_aIt
  have lIt : K.lookup (v_fIt K) = some ⟨((oOf K (v_fIt K)).cls), ((oOf K (v_fIt K)).dict), .func (PySem.W.fnOf "is_integer" "is_integer" (defArgs s_isInt) (defBody s_isInt) (defScope s_isInt) .none ((fnD K (v_fIt K)).kwdefaults) ((fnD K (v_fIt K)).doc) ((fnD K (v_fIt K)).pyModule) ((fnD K (v_fIt K)).annotations) ((fnD K (v_fIt K)).code) ((fnD K (v_fIt K)).closureTuple)), ((oOf K (v_fIt K)).slots)⟩ := look_fn n_lIt (of_decide_eq_true k_lIt_d) rfl rfl
  have cIt : PySem.W.codeIn K ((fnD K (v_fIt K)).code) "is_integer" = true := k_cIt
  have kIt : PySem.W.keepIn K (.ref (v_fIt K)) = true := k_kIt
  have aNu : PySem.W.nsIn K mainGlobals "is_number" = some (some (.ref (v_fNu K))) := of_decide_eq_true k_aNu
  have lNu : K.lookup (v_fNu K) = some ⟨((oOf K (v_fNu K)).cls), ((oOf K (v_fNu K)).dict), .func (PySem.W.fnOf "is_number" "is_number" (defArgs s_isNum) (defBody s_isNum) (defScope s_isNum) (.ref (v_tDNu K)) ((fnD K (v_fNu K)).kwdefaults) ((fnD K (v_fNu K)).doc) ((fnD K (v_fNu K)).pyModule) ((fnD K (v_fNu K)).annotations) ((fnD K (v_fNu K)).code) ((fnD K (v_fNu K)).closureTuple)), ((oOf K (v_fNu K)).slots)⟩ := look_fn n_lNu (of_decide_eq_true k_lNu_d) rfl rfl
  have dNu : K.lookup (v_tDNu K) = some ⟨((oOf K (v_tDNu K)).cls), ((oOf K (v_tDNu K)).dict), .seq #[Value.none] (seqN K (v_tDNu K)), ((oOf K (v_tDNu K)).slots)⟩ := look_seq (of_decide_eq_true k_dNu)
  have cNu : PySem.W.codeIn K ((fnD K (v_fNu K)).code) "is_number" = true := k_cNu
  have kNu : PySem.W.keepIn K (.ref (v_fNu K)) = true := k_kNu
  have aWr : PySem.W.nsIn K mainGlobals "written" = some (some (.ref (v_fWr K))) := of_decide_eq_true k_aWr
  have lWr : K.lookup (v_fWr K) = some ⟨((oOf K (v_fWr K)).cls), ((oOf K (v_fWr K)).dict), .func (PySem.W.fnOf "written" "written" (defArgs s_writ) (defBody s_writ) (defScope s_writ) .none ((fnD K (v_fWr K)).kwdefaults) ((fnD K (v_fWr K)).doc) ((fnD K (v_fWr K)).pyModule) ((fnD K (v_fWr K)).annotations) ((fnD K (v_fWr K)).code) ((fnD K (v_fWr K)).closureTuple)), ((oOf K (v_fWr K)).slots)⟩ := look_fn n_lWr (of_decide_eq_true k_lWr_d) rfl rfl
  have cWr : PySem.W.codeIn K ((fnD K (v_fWr K)).code) "written" = true := k_cWr
  have kWr : PySem.W.keepIn K (.ref (v_fWr K)) = true := k_kWr
  have aNo : PySem.W.nsIn K mainGlobals "number_of" = some (some (.ref (v_fNo K))) := of_decide_eq_true k_aNo
  have lNo : K.lookup (v_fNo K) = some ⟨((oOf K (v_fNo K)).cls), ((oOf K (v_fNo K)).dict), .func (PySem.W.fnOf "number_of" "number_of" (defArgs s_numof) (defBody s_numof) (defScope s_numof) .none ((fnD K (v_fNo K)).kwdefaults) ((fnD K (v_fNo K)).doc) ((fnD K (v_fNo K)).pyModule) ((fnD K (v_fNo K)).annotations) ((fnD K (v_fNo K)).code) ((fnD K (v_fNo K)).closureTuple)), ((oOf K (v_fNo K)).slots)⟩ := look_fn n_lNo (of_decide_eq_true k_lNo_d) rfl rfl
  have cNo : PySem.W.codeIn K ((fnD K (v_fNo K)).code) "number_of" = true := k_cNo
  have kNo : PySem.W.keepIn K (.ref (v_fNo K)) = true := k_kNo
  have aCk : PySem.W.nsIn K mainGlobals "_check_first" = some (some (.ref (v_fCk K))) := of_decide_eq_true k_aCk
  have lCk : K.lookup (v_fCk K) = some ⟨((oOf K (v_fCk K)).cls), ((oOf K (v_fCk K)).dict), .func (PySem.W.fnOf "_check_first" "_check_first" (defArgs s_chk1) (defBody s_chk1) (defScope s_chk1) .none ((fnD K (v_fCk K)).kwdefaults) ((fnD K (v_fCk K)).doc) ((fnD K (v_fCk K)).pyModule) ((fnD K (v_fCk K)).annotations) ((fnD K (v_fCk K)).code) ((fnD K (v_fCk K)).closureTuple)), ((oOf K (v_fCk K)).slots)⟩ := look_fn n_lCk (of_decide_eq_true k_lCk_d) rfl rfl
  have cCk : PySem.W.codeIn K ((fnD K (v_fCk K)).code) "_check_first" = true := k_cCk
  have kCk : PySem.W.keepIn K (.ref (v_fCk K)) = true := k_kCk
  have aDg : PySem.W.nsIn K mainGlobals "_digits" = some (some (.ref (v_fDg K))) := of_decide_eq_true k_aDg
  have lDg : K.lookup (v_fDg K) = some ⟨((oOf K (v_fDg K)).cls), ((oOf K (v_fDg K)).dict), .func (PySem.W.fnOf "_digits" "_digits" (defArgs s_digs) (defBody s_digs) (defScope s_digs) .none ((fnD K (v_fDg K)).kwdefaults) ((fnD K (v_fDg K)).doc) ((fnD K (v_fDg K)).pyModule) ((fnD K (v_fDg K)).annotations) ((fnD K (v_fDg K)).code) ((fnD K (v_fDg K)).closureTuple)), ((oOf K (v_fDg K)).slots)⟩ := look_fn n_lDg (of_decide_eq_true k_lDg_d) rfl rfl
  have cDg : PySem.W.codeIn K ((fnD K (v_fDg K)).code) "_digits" = true := k_cDg
  have kDg : PySem.W.keepIn K (.ref (v_fDg K)) = true := k_kDg
  have aPe : PySem.W.nsIn K mainGlobals "_law_pen" = some (some (.ref (v_fPe K))) := of_decide_eq_true k_aPe
  have lPe : K.lookup (v_fPe K) = some ⟨((oOf K (v_fPe K)).cls), ((oOf K (v_fPe K)).dict), .func (PySem.W.fnOf "_law_pen" "_law_pen" (defArgs s_pen) (defBody s_pen) (defScope s_pen) .none ((fnD K (v_fPe K)).kwdefaults) ((fnD K (v_fPe K)).doc) ((fnD K (v_fPe K)).pyModule) ((fnD K (v_fPe K)).annotations) ((fnD K (v_fPe K)).code) ((fnD K (v_fPe K)).closureTuple)), ((oOf K (v_fPe K)).slots)⟩ := look_fn n_lPe (of_decide_eq_true k_lPe_d) rfl rfl
  have cPe : PySem.W.codeIn K ((fnD K (v_fPe K)).code) "_law_pen" = true := k_cPe
  have kPe : PySem.W.keepIn K (.ref (v_fPe K)) = true := k_kPe
  have aDr : PySem.W.nsIn K mainGlobals "_law_draw" = some (some (.ref (v_fDr K))) := of_decide_eq_true k_aDr
  have lDr : K.lookup (v_fDr K) = some ⟨((oOf K (v_fDr K)).cls), ((oOf K (v_fDr K)).dict), .func (PySem.W.fnOf "_law_draw" "_law_draw" (defArgs s_draw) (defBody s_draw) (defScope s_draw) .none ((fnD K (v_fDr K)).kwdefaults) ((fnD K (v_fDr K)).doc) ((fnD K (v_fDr K)).pyModule) ((fnD K (v_fDr K)).annotations) ((fnD K (v_fDr K)).code) ((fnD K (v_fDr K)).closureTuple)), ((oOf K (v_fDr K)).slots)⟩ := look_fn n_lDr (of_decide_eq_true k_lDr_d) rfl rfl
  have cDr : PySem.W.codeIn K ((fnD K (v_fDr K)).code) "_law_draw" = true := k_cDr
  have kDr : PySem.W.keepIn K (.ref (v_fDr K)) = true := k_kDr
  have aPi : PySem.W.nsIn K mainGlobals "_law_pick" = some (some (.ref (v_fPi K))) := of_decide_eq_true k_aPi
  have lPi : K.lookup (v_fPi K) = some ⟨((oOf K (v_fPi K)).cls), ((oOf K (v_fPi K)).dict), .func (PySem.W.fnOf "_law_pick" "_law_pick" (defArgs s_pick) (defBody s_pick) (defScope s_pick) .none ((fnD K (v_fPi K)).kwdefaults) ((fnD K (v_fPi K)).doc) ((fnD K (v_fPi K)).pyModule) ((fnD K (v_fPi K)).annotations) ((fnD K (v_fPi K)).code) ((fnD K (v_fPi K)).closureTuple)), ((oOf K (v_fPi K)).slots)⟩ := look_fn n_lPi (of_decide_eq_true k_lPi_d) rfl rfl
  have cPi : PySem.W.codeIn K ((fnD K (v_fPi K)).code) "_law_pick" = true := k_cPi
  have kPi : PySem.W.keepIn K (.ref (v_fPi K)) = true := k_kPi
  have aSh : PySem.W.nsIn K mainGlobals "_law_shuffled" = some (some (.ref (v_fSh K))) := of_decide_eq_true k_aSh
  have lSh : K.lookup (v_fSh K) = some ⟨((oOf K (v_fSh K)).cls), ((oOf K (v_fSh K)).dict), .func (PySem.W.fnOf "_law_shuffled" "_law_shuffled" (defArgs s_shuf) (defBody s_shuf) (defScope s_shuf) .none ((fnD K (v_fSh K)).kwdefaults) ((fnD K (v_fSh K)).doc) ((fnD K (v_fSh K)).pyModule) ((fnD K (v_fSh K)).annotations) ((fnD K (v_fSh K)).code) ((fnD K (v_fSh K)).closureTuple)), ((oOf K (v_fSh K)).slots)⟩ := look_fn n_lSh (of_decide_eq_true k_lSh_d) rfl rfl
  have cSh : PySem.W.codeIn K ((fnD K (v_fSh K)).code) "_law_shuffled" = true := k_cSh
  have kSh : PySem.W.keepIn K (.ref (v_fSh K)) = true := k_kSh
  have aFo : PySem.W.nsIn K mainGlobals "_law_font" = some (some (.ref (v_fFo K))) := of_decide_eq_true k_aFo
  have lFo : K.lookup (v_fFo K) = some ⟨((oOf K (v_fFo K)).cls), ((oOf K (v_fFo K)).dict), .func (PySem.W.fnOf "_law_font" "_law_font" (defArgs s_font2) (defBody s_font2) (defScope s_font2) .none ((fnD K (v_fFo K)).kwdefaults) ((fnD K (v_fFo K)).doc) ((fnD K (v_fFo K)).pyModule) ((fnD K (v_fFo K)).annotations) ((fnD K (v_fFo K)).code) ((fnD K (v_fFo K)).closureTuple)), ((oOf K (v_fFo K)).slots)⟩ := look_fn n_lFo (of_decide_eq_true k_lFo_d) rfl rfl
  have cFo : PySem.W.codeIn K ((fnD K (v_fFo K)).code) "_law_font" = true := k_cFo
  have kFo : PySem.W.keepIn K (.ref (v_fFo K)) = true := k_kFo
  have aTu : PySem.W.nsIn K mainGlobals "_law_turns" = some (some (.ref (v_fTu K))) := of_decide_eq_true k_aTu
  have lTu : K.lookup (v_fTu K) = some ⟨((oOf K (v_fTu K)).cls), ((oOf K (v_fTu K)).dict), .func (PySem.W.fnOf "_law_turns" "_law_turns" (defArgs s_turns2) (defBody s_turns2) (defScope s_turns2) .none ((fnD K (v_fTu K)).kwdefaults) ((fnD K (v_fTu K)).doc) ((fnD K (v_fTu K)).pyModule) ((fnD K (v_fTu K)).annotations) ((fnD K (v_fTu K)).code) ((fnD K (v_fTu K)).closureTuple)), ((oOf K (v_fTu K)).slots)⟩ := look_fn n_lTu (of_decide_eq_true k_lTu_d) rfl rfl
  have cTu : PySem.W.codeIn K ((fnD K (v_fTu K)).code) "_law_turns" = true := k_cTu
  have kTu : PySem.W.keepIn K (.ref (v_fTu K)) = true := k_kTu
  have aMa : PySem.W.nsIn K mainGlobals "_law_made_font" = some (some (.ref (v_fMa K))) := of_decide_eq_true k_aMa
  have lMa : K.lookup (v_fMa K) = some ⟨((oOf K (v_fMa K)).cls), ((oOf K (v_fMa K)).dict), .func (PySem.W.fnOf "_law_made_font" "_law_made_font" (defArgs s_made2) (defBody s_made2) (defScope s_made2) .none ((fnD K (v_fMa K)).kwdefaults) ((fnD K (v_fMa K)).doc) ((fnD K (v_fMa K)).pyModule) ((fnD K (v_fMa K)).annotations) ((fnD K (v_fMa K)).code) ((fnD K (v_fMa K)).closureTuple)), ((oOf K (v_fMa K)).slots)⟩ := look_fn n_lMa (of_decide_eq_true k_lMa_d) rfl rfl
  have cMa : PySem.W.codeIn K ((fnD K (v_fMa K)).code) "_law_made_font" = true := k_cMa
  have kMa : PySem.W.keepIn K (.ref (v_fMa K)) = true := k_kMa
  have aOd : PySem.W.nsIn K mainGlobals "_law_odd" = some (some (.ref (v_fOd K))) := of_decide_eq_true k_aOd
  have lOd : K.lookup (v_fOd K) = some ⟨((oOf K (v_fOd K)).cls), ((oOf K (v_fOd K)).dict), .func (PySem.W.fnOf "_law_odd" "_law_odd" (defArgs s_oddT) (defBody s_oddT) (defScope s_oddT) .none ((fnD K (v_fOd K)).kwdefaults) ((fnD K (v_fOd K)).doc) ((fnD K (v_fOd K)).pyModule) ((fnD K (v_fOd K)).annotations) ((fnD K (v_fOd K)).code) ((fnD K (v_fOd K)).closureTuple)), ((oOf K (v_fOd K)).slots)⟩ := look_fn n_lOd (of_decide_eq_true k_lOd_d) rfl rfl
  have cOd : PySem.W.codeIn K ((fnD K (v_fOd K)).code) "_law_odd" = true := k_cOd
  have kOd : PySem.W.keepIn K (.ref (v_fOd K)) = true := k_kOd
  have aLr : PySem.W.nsIn K mainGlobals "_law_row" = some (some (.ref (v_fLr K))) := of_decide_eq_true k_aLr
  have lLr : K.lookup (v_fLr K) = some ⟨((oOf K (v_fLr K)).cls), ((oOf K (v_fLr K)).dict), .func (PySem.W.fnOf "_law_row" "_law_row" (defArgs s_lrow) (defBody s_lrow) (defScope s_lrow) .none ((fnD K (v_fLr K)).kwdefaults) ((fnD K (v_fLr K)).doc) ((fnD K (v_fLr K)).pyModule) ((fnD K (v_fLr K)).annotations) ((fnD K (v_fLr K)).code) ((fnD K (v_fLr K)).closureTuple)), ((oOf K (v_fLr K)).slots)⟩ := look_fn n_lLr (of_decide_eq_true k_lLr_d) rfl rfl
  have cLr : PySem.W.codeIn K ((fnD K (v_fLr K)).code) "_law_row" = true := k_cLr
  have kLr : PySem.W.keepIn K (.ref (v_fLr K)) = true := k_kLr
  have aRf : PySem.W.nsIn K mainGlobals "_law_refused" = some (some (.ref (v_fRf K))) := of_decide_eq_true k_aRf
  have lRf : K.lookup (v_fRf K) = some ⟨((oOf K (v_fRf K)).cls), ((oOf K (v_fRf K)).dict), .func (PySem.W.fnOf "_law_refused" "_law_refused" (defArgs s_refk) (defBody s_refk) (defScope s_refk) .none ((fnD K (v_fRf K)).kwdefaults) ((fnD K (v_fRf K)).doc) ((fnD K (v_fRf K)).pyModule) ((fnD K (v_fRf K)).annotations) ((fnD K (v_fRf K)).code) ((fnD K (v_fRf K)).closureTuple)), ((oOf K (v_fRf K)).slots)⟩ := look_fn n_lRf (of_decide_eq_true k_lRf_d) rfl rfl
  have cRf : PySem.W.codeIn K ((fnD K (v_fRf K)).code) "_law_refused" = true := k_cRf
  have kRf : PySem.W.keepIn K (.ref (v_fRf K)) = true := k_kRf
  have aIi : PySem.W.nsIn K mainGlobals "_law_is_in" = some (some (.ref (v_fIi K))) := of_decide_eq_true k_aIi
  have lIi : K.lookup (v_fIi K) = some ⟨((oOf K (v_fIi K)).cls), ((oOf K (v_fIi K)).dict), .func (PySem.W.fnOf "_law_is_in" "_law_is_in" (defArgs s_lisinK) (defBody s_lisinK) (defScope s_lisinK) .none ((fnD K (v_fIi K)).kwdefaults) ((fnD K (v_fIi K)).doc) ((fnD K (v_fIi K)).pyModule) ((fnD K (v_fIi K)).annotations) ((fnD K (v_fIi K)).code) ((fnD K (v_fIi K)).closureTuple)), ((oOf K (v_fIi K)).slots)⟩ := look_fn n_lIi (of_decide_eq_true k_lIi_d) rfl rfl
  have cIi : PySem.W.codeIn K ((fnD K (v_fIi K)).code) "_law_is_in" = true := k_cIi
  have kIi : PySem.W.keepIn K (.ref (v_fIi K)) = true := k_kIi
  have aUr : PySem.W.nsIn K mainGlobals "_law_unread" = some (some (.ref (v_fUr K))) := of_decide_eq_true k_aUr
  have lUr : K.lookup (v_fUr K) = some ⟨((oOf K (v_fUr K)).cls), ((oOf K (v_fUr K)).dict), .func (PySem.W.fnOf "_law_unread" "_law_unread" (defArgs s_unrk) (defBody s_unrk) (defScope s_unrk) .none ((fnD K (v_fUr K)).kwdefaults) ((fnD K (v_fUr K)).doc) ((fnD K (v_fUr K)).pyModule) ((fnD K (v_fUr K)).annotations) ((fnD K (v_fUr K)).code) ((fnD K (v_fUr K)).closureTuple)), ((oOf K (v_fUr K)).slots)⟩ := look_fn n_lUr (of_decide_eq_true k_lUr_d) rfl rfl
  have cUr : PySem.W.codeIn K ((fnD K (v_fUr K)).code) "_law_unread" = true := k_cUr
  have kUr : PySem.W.keepIn K (.ref (v_fUr K)) = true := k_kUr
  have aLv : PySem.W.nsIn K mainGlobals "_law_value" = some (some (.ref (v_fLv K))) := of_decide_eq_true k_aLv
  have lLv : K.lookup (v_fLv K) = some ⟨((oOf K (v_fLv K)).cls), ((oOf K (v_fLv K)).dict), .func (PySem.W.fnOf "_law_value" "_law_value" (defArgs s_lval) (defBody s_lval) (defScope s_lval) .none ((fnD K (v_fLv K)).kwdefaults) ((fnD K (v_fLv K)).doc) ((fnD K (v_fLv K)).pyModule) ((fnD K (v_fLv K)).annotations) ((fnD K (v_fLv K)).code) ((fnD K (v_fLv K)).closureTuple)), ((oOf K (v_fLv K)).slots)⟩ := look_fn n_lLv (of_decide_eq_true k_lLv_d) rfl rfl
  have cLv : PySem.W.codeIn K ((fnD K (v_fLv K)).code) "_law_value" = true := k_cLv
  have kLv : PySem.W.keepIn K (.ref (v_fLv K)) = true := k_kLv
  have aInC : PySem.W.findIn K (.ref (v_C K)) "__init__" = some (some (.ref (v_fInC K))) := of_decide_eq_true k_aInC
  have iInC : PySem.W.isFn K (.ref (v_fInC K)) = true := k_iInC
  have lInC : K.lookup (v_fInC K) = some ⟨((oOf K (v_fInC K)).cls), ((oOf K (v_fInC K)).dict), .func (PySem.W.fnOf "__init__" "Font.__init__" (defArgs s_init) (defBody s_init) (defScope s_init) (.ref (v_tDInC K)) ((fnD K (v_fInC K)).kwdefaults) ((fnD K (v_fInC K)).doc) ((fnD K (v_fInC K)).pyModule) ((fnD K (v_fInC K)).annotations) ((fnD K (v_fInC K)).code) ((fnD K (v_fInC K)).closureTuple)), ((oOf K (v_fInC K)).slots)⟩ := look_fn n_lInC (of_decide_eq_true k_lInC_d) rfl rfl
  have dInC : K.lookup (v_tDInC K) = some ⟨((oOf K (v_tDInC K)).cls), ((oOf K (v_tDInC K)).dict), .seq #[Value.ref (v_tEInC0 K)] (seqN K (v_tDInC K)), ((oOf K (v_tDInC K)).slots)⟩ := look_seq (of_decide_eq_true k_dInC)
  have eInC0 : K.lookup (v_tEInC0 K) = some ⟨.type "tuple", ((oOf K (v_tEInC0 K)).dict), .seq #[] (seqN K (v_tEInC0 K)), ((oOf K (v_tEInC0 K)).slots)⟩ := look_seqT (of_decide_eq_true k_eInC0) (of_decide_eq_true k_eInC0_t)
  have cInC : PySem.W.codeIn K ((fnD K (v_fInC K)).code) "Font.__init__" = true := k_cInC
  have kInC : PySem.W.keepIn K (.ref (v_fInC K)) = true := k_kInC
  have mkC : PySem.W.makesIn K (v_C K) = true := k_mkC
  have kCC : PySem.W.keepIn K (.ref (v_C K)) = true := k_kCC
  have aFl : PySem.W.findIn K (.ref (v_C K)) "__len__" = some (some (.ref (v_fFl K))) := of_decide_eq_true k_aFl
  have iFl : PySem.W.isFn K (.ref (v_fFl K)) = true := k_iFl
  have lFl : K.lookup (v_fFl K) = some ⟨((oOf K (v_fFl K)).cls), ((oOf K (v_fFl K)).dict), .func (PySem.W.fnOf "__len__" "Font.__len__" (defArgs s_flen) (defBody s_flen) (defScope s_flen) .none ((fnD K (v_fFl K)).kwdefaults) ((fnD K (v_fFl K)).doc) ((fnD K (v_fFl K)).pyModule) ((fnD K (v_fFl K)).annotations) ((fnD K (v_fFl K)).code) ((fnD K (v_fFl K)).closureTuple)), ((oOf K (v_fFl K)).slots)⟩ := look_fn n_lFl (of_decide_eq_true k_lFl_d) rfl rfl
  have cFl : PySem.W.codeIn K ((fnD K (v_fFl K)).code) "Font.__len__" = true := k_cFl
  have kFl : PySem.W.keepIn K (.ref (v_fFl K)) = true := k_kFl
  have aPs : PySem.W.findIn K (.ref (v_C K)) "signs" = some (some (.ref (v_pPs K))) := of_decide_eq_true k_aPs
  have gPs : PySem.W.specialIn K (.ref (v_pPs K)) "__get__" = some (some (.builtin "property.__get__")) := of_decide_eq_true k_gPs
  have tPs : PySem.W.takesIn K (.ref (v_pPs K)) = some true := of_decide_eq_true k_tPs
  have rPs : PySem.W.recIn K (v_pPs K) "property" = some (.ref (v_fPs K) :: (recR K (v_pPs K) "property")) := look_rec k_rPs
  have lPs : K.lookup (v_fPs K) = some ⟨((oOf K (v_fPs K)).cls), ((oOf K (v_fPs K)).dict), .func (PySem.W.fnOf "signs" "Font.signs" (defArgs (inCls s_cls 4)) (defBody (inCls s_cls 4)) (defScope (inCls s_cls 4)) .none ((fnD K (v_fPs K)).kwdefaults) ((fnD K (v_fPs K)).doc) ((fnD K (v_fPs K)).pyModule) ((fnD K (v_fPs K)).annotations) ((fnD K (v_fPs K)).code) ((fnD K (v_fPs K)).closureTuple)), ((oOf K (v_fPs K)).slots)⟩ := look_fn n_lPs (of_decide_eq_true k_lPs_d) rfl rfl
  have cPs : PySem.W.codeIn K ((fnD K (v_fPs K)).code) "Font.signs" = true := k_cPs
  have aIN : PySem.W.nsIn K mainGlobals "InvalidNumber" = some (some (.ref (v_IN K))) := of_decide_eq_true k_aIN
  obtain ⟨nmIN, qIN, NIN, bsIN, snIN, subIN, abIN, colIN, ddIN, m0IN, m1IN, m2IN, m3IN, m5IN, xIN⟩ := look_exc k_xIN
  have sIN : PySem.W.findIn K (.ref (v_IN K)) "__setattr__" = some (some (.builtin "object.__setattr__")) := of_decide_eq_true k_sIN
  have gIN : PySem.W.findIn K (.ref (v_IN K)) "__getattribute__" = some (some (.builtin "BaseException.__getattribute__")) := of_decide_eq_true k_gIN
  have hIN : PySem.W.findIn K (.ref (v_IN K)) "__getattr__" = some none := of_decide_eq_true k_hIN
  have nIN : PySem.W.findIn K (.ref (v_IN K)) "value" = some none := of_decide_eq_true k_nIN
  have iIN : PySem.W.findIn K (.ref (v_IN K)) "__init__" = some (some (.ref (v_fIN K))) := of_decide_eq_true k_iIN
  have tIN : PySem.W.typeIn K (.ref (v_fIN K)) = some (.type "function") := of_decide_eq_true k_tIN
  have lIN : K.lookup (v_fIN K) = some ⟨((oOf K (v_fIN K)).cls), ((oOf K (v_fIN K)).dict), .func (PySem.W.fnOf "__init__" "InvalidNumber.__init__" (eArgs "value" ⟨33, 17, 33, 21⟩ ⟨33, 23, 33, 28⟩) (eBody "value" ⟨34, 8, 34, 12⟩ ⟨34, 8, 34, 18⟩ ⟨34, 21, 34, 26⟩ ⟨34, 8, 34, 26⟩) (eScope "value") .none .none ((fnD K (v_fIN K)).doc) ((fnD K (v_fIN K)).pyModule) ((fnD K (v_fIN K)).annotations) ((fnD K (v_fIN K)).code) ((fnD K (v_fIN K)).closureTuple)), ((oOf K (v_fIN K)).slots)⟩ := look_fn n_lIN (of_decide_eq_true k_lIN_d) (of_decide_eq_true k_lIN_k) rfl
  have cIN : PySem.W.codeIn K ((fnD K (v_fIN K)).code) "InvalidNumber.__init__" = true := k_cIN
  have kIN : PySem.W.keepIn K (.ref (v_IN K)) = true := k_kIN
  have eIN : PySem.W.subIn K (.ref (v_IN K)) (.type "BaseException") = some true := of_decide_eq_true k_eIN
  have yIN : PySem.W.typeIn K (.ref (v_IN K)) = some (.type "type") := of_decide_eq_true k_yIN
  have dIN : PySem.W.hasDictIn K (v_IN K) = true := k_dIN
  have bIN : PySem.W.isClsIn K (v_IN K) = true := k_bIN
  have zIN : PySem.W.subIn K (.ref (v_IN K)) (.ref (v_IN K)) = some true := of_decide_eq_true k_zIN
  have vIN : PySem.W.subIn K (.ref (v_IN K)) (.type "ValueError") = some true := of_decide_eq_true k_vIN
  have aIR : PySem.W.nsIn K mainGlobals "InvalidRow" = some (some (.ref (v_IR K))) := of_decide_eq_true k_aIR
  obtain ⟨nmIR, qIR, NIR, bsIR, snIR, subIR, abIR, colIR, ddIR, m0IR, m1IR, m2IR, m3IR, m5IR, xIR⟩ := look_exc k_xIR
  have sIR : PySem.W.findIn K (.ref (v_IR K)) "__setattr__" = some (some (.builtin "object.__setattr__")) := of_decide_eq_true k_sIR
  have gIR : PySem.W.findIn K (.ref (v_IR K)) "__getattribute__" = some (some (.builtin "BaseException.__getattribute__")) := of_decide_eq_true k_gIR
  have hIR : PySem.W.findIn K (.ref (v_IR K)) "__getattr__" = some none := of_decide_eq_true k_hIR
  have nIR : PySem.W.findIn K (.ref (v_IR K)) "value" = some none := of_decide_eq_true k_nIR
  have iIR : PySem.W.findIn K (.ref (v_IR K)) "__init__" = some (some (.ref (v_fIR K))) := of_decide_eq_true k_iIR
  have tIR : PySem.W.typeIn K (.ref (v_fIR K)) = some (.type "function") := of_decide_eq_true k_tIR
  have lIR : K.lookup (v_fIR K) = some ⟨((oOf K (v_fIR K)).cls), ((oOf K (v_fIR K)).dict), .func (PySem.W.fnOf "__init__" "InvalidRow.__init__" (eArgs "value" ⟨29, 17, 29, 21⟩ ⟨29, 23, 29, 28⟩) (eBody "value" ⟨30, 8, 30, 12⟩ ⟨30, 8, 30, 18⟩ ⟨30, 21, 30, 26⟩ ⟨30, 8, 30, 26⟩) (eScope "value") .none .none ((fnD K (v_fIR K)).doc) ((fnD K (v_fIR K)).pyModule) ((fnD K (v_fIR K)).annotations) ((fnD K (v_fIR K)).code) ((fnD K (v_fIR K)).closureTuple)), ((oOf K (v_fIR K)).slots)⟩ := look_fn n_lIR (of_decide_eq_true k_lIR_d) (of_decide_eq_true k_lIR_k) rfl
  have cIR : PySem.W.codeIn K ((fnD K (v_fIR K)).code) "InvalidRow.__init__" = true := k_cIR
  have kIR : PySem.W.keepIn K (.ref (v_IR K)) = true := k_kIR
  have eIR : PySem.W.subIn K (.ref (v_IR K)) (.type "BaseException") = some true := of_decide_eq_true k_eIR
  have yIR : PySem.W.typeIn K (.ref (v_IR K)) = some (.type "type") := of_decide_eq_true k_yIR
  have dIR : PySem.W.hasDictIn K (v_IR K) = true := k_dIR
  have bIR : PySem.W.isClsIn K (v_IR K) = true := k_bIR
  have zIR : PySem.W.subIn K (.ref (v_IR K)) (.ref (v_IR K)) = some true := of_decide_eq_true k_zIR
  have vIR : PySem.W.subIn K (.ref (v_IR K)) (.type "ValueError") = some true := of_decide_eq_true k_vIR
  have aLa : PySem.W.nsIn K mainGlobals "law" = some (some (.ref (v_fLa K))) := of_decide_eq_true k_aLa
  have lLa : K.lookup (v_fLa K) = some ⟨((oOf K (v_fLa K)).cls), ((oOf K (v_fLa K)).dict), .func (PySem.W.fnOf "law" "law" (defArgs s_law) (defBody s_law) (defScope s_law) .none ((fnD K (v_fLa K)).kwdefaults) ((fnD K (v_fLa K)).doc) ((fnD K (v_fLa K)).pyModule) ((fnD K (v_fLa K)).annotations) (.ref (v_cL K)) ((fnD K (v_fLa K)).closureTuple)), ((oOf K (v_fLa K)).slots)⟩ := look_fn n_lLa (of_decide_eq_true k_lLa_d) rfl (of_decide_eq_true k_lLa_c)
  have cLa : PySem.W.codeIn K (.ref (v_cL K)) "law" = true := k_cLa
  have tbL : h.get? (v_PL K) = some emptyTab := S.tab _ (List.Mem.head _)
  have chL : PySem.W.codeHdIn K (v_cL K) (v_PL K) = true := k_chL
  have nPL : K.lookup (v_PL K) = none := S.out _ (List.Mem.head _)
  exact all_mk X G hfa z_int z_len z_abs z_list z_tuple z_str z_set z_all z_isinstance z_repr z_range z_bool z_max z_ValueError aA aGr aC pgC hdC poC saC nC_signs nC_turns rdC gaC caC obG obT moC mv aLi lLi cLi kLi aFs lFs cFs kFs aSi lSi cSi kSi aSe lSe cSe kSe aRo lRo cRo kRo aKt lKt cKt kKt aPa lPa cPa kPa aIt lIt cIt kIt aNu lNu dNu cNu kNu aWr lWr cWr kWr aNo lNo cNo kNo aCk lCk cCk kCk aDg lDg cDg kDg aPe lPe cPe kPe aDr lDr cDr kDr aPi lPi cPi kPi aSh lSh cSh kSh aFo lFo cFo kFo aTu lTu cTu kTu aMa lMa cMa kMa aOd lOd cOd kOd aLr lLr cLr kLr aRf lRf cRf kRf aIi lIi cIi kIi aUr lUr cUr kUr aLv lLv cLv kLv aInC iInC lInC dInC eInC0 cInC kInC mkC kCC aFl iFl lFl cFl kFl aPs gPs tPs rPs lPs cPs aIN xIN sIN gIN hIN nIN iIN tIN lIN cIN kIN eIN yIN dIN bIN zIN vIN aIR xIR sIR gIR hIR nIR iIR tIR lIR cIR kIR eIR yIR dIR bIR zIR vIR aLa lLa cLa tbL chL nPL
end My
end
open PySem PySem.W PySem.Calls PyProof.Rows
set_option maxRecDepth 100000 in
set_option maxHeartbeats 0 in
theorem PySem.Challenge.cw_hymnplates_k73_numbers_written_and_read_holds : PySem.Challenge.rw_hymnplates_k73_numbers_written_and_read.Holds := by
  w_on; o_law
  refine HandSHeadRun.head_any (r := OpenLaw.row PySem.Challenge.rw_hymnplates_k73_numbers_written_and_read) (q := My.hV) (H := My.hH) (ob := My.hO) (M := 20000) (loose := My.namA) (d := HandSHeadRun.topDef (OpenLaw.row PySem.Challenge.rw_hymnplates_k73_numbers_written_and_read).prog 42) (kwd := []) My.hO_eq
    (by kernel_rfl) (fun s => by kernel_rfl) My.hrun (by kernel_rfl) (by kernel_rfl) (by kernel_rfl) (by rfl) (by first | assumption | decide +kernel) (by decide +kernel) ⟨rfl, rfl, rfl, rfl, rfl, by decide +kernel⟩ ?hw ?hc
  case hw => w_witness2
  case hc =>
    refine My.walkE (l := PySem.Challenge.rw_hymnplates_k73_numbers_written_and_read) (n := 63) (k := 13) (x := "_law_script") rfl (by decide) (by kernel_rfl) ⟨rfl, by decide, by decide⟩ ?F
    intro w mg fa h Y G hmg0
    obtain ⟨K, KX, S⟩ := Y
    have hmg : mg ("law" : PySem.Str) = some (.ref fa) := by
      have e : (HandSHeadRun.topDef (OpenLaw.row PySem.Challenge.rw_hymnplates_k73_numbers_written_and_read).prog 42).name = ("law" : PySem.Str) := by kernel_rfl
      rw [← e]
      exact hmg0
    exact ⟨K, KX, My.facts_mk KX G hmg S⟩
