import PyProof.Rows.All
import Wide.All
import OpenK.AllK
import Wide.FinOn
import HandS.ForMost
import HandS.Exc
import HandS.Wide
import HandS.Walk
import PyProof.ListStr
import HandS.Strs
import HandS.IsInst
import HandS.ClsMeth
import HandS.Property
import HandS.StrMore
import HandS.Lambda
import HandS.Text
import HandS.Style
import HandS.ForSpec
import PyProof.ExcBaseAll.LookupError
import HandS.Defaults
import OpenK.KMeth
import OpenK.KOps
import HandS.CallLocal
import HandS.Star
import PyProof.StrLawsRepr
import HandS.DictComp
import HandS.EndTab
import KE.GoesEnum
import KE.GoesMore
import PyProof.StrOps2
import KE.KRevSl
import PyProof.FitsInt
import KE.KDictSum
import HandS.Conv
import PyProof.InstNe
import PyProof.Conv_bool
import PyProof.Rows.Range3
import KE.KIsAll
import HandS.ExcIs
import KE.SortKeyHeap
import HandS.SortKw
import KE.KStateDown
import HandS.Head0
import HandS.Head1
import HandS.Head2
import HandS.HeadHook1
import PySem.Challenge.RW_hymnplates_k06_whole_bearings
section
set_option Elab.async false
set_option linter.all false
set_option maxRecDepth 100000
set_option maxHeartbeats 2000000
namespace My
open PySem PySem.Spec PyProof.Rows L2

/-! ### heaps as letters: what a step makes of one -/
/-- H1 is H with a new object o at p -/
structure New (H : Hp) (p : Addr) (o : HO) (H1 : Hp) : Prop where
  free : H p = none
  here : H1 p = some o
  els : ∀ b, b ≠ p → H1 b = H b
/-- H1 is H with the object at p changed to o -/
structure Wr (H : Hp) (p : Addr) (o : HO) (H1 : Hp) : Prop where
  here : H1 p = some o
  els : ∀ b, b ≠ p → H1 b = H b
theorem New.mk' {H : Hp} {p : Addr} {o : HO} (h : H p = none) : New H p o (upd H p o) := ⟨h, upd_same, fun _ n => upd_ne n⟩
theorem Wr.mk' {H : Hp} {p : Addr} {o : HO} : Wr H p o (upd H p o) := ⟨upd_same, fun _ n => upd_ne n⟩
theorem New.same {H H1 : Hp} {p : Addr} {o : HO} (n : New H p o H1) : Same H H1 := fun b u e => by
  rw [n.els b (ne_of_none e n.free)]; exact e
/-- all that was tracked, but at p, is as it was -/
def But (p : Addr) (H H1 : Hp) : Prop := ∀ b o, b ≠ p → H b = some o → H1 b = some o
theorem But.refl {p : Addr} (H : Hp) : But p H H := fun _ _ _ h => h
theorem But.trans {p : Addr} {H H1 H2 : Hp} (a : But p H H1) (b : But p H1 H2) : But p H H2 := fun c o n h => b c o n (a c o n h)
theorem But.of {p : Addr} {H H1 : Hp} (a : Same H H1) : But p H H1 := fun c o _ h => a c o h
theorem Wr.but {H H1 : Hp} {p : Addr} {o : HO} (n : Wr H p o H1) : But p H H1 := fun b u hb e => by
  rw [n.els b hb]; exact e
/-- a change at a place that H0 did not track -/
theorem Same.wr {H0 H H1 : Hp} {p : Addr} {o : HO} (s : Same H0 H) (f : H0 p = none) (n : Wr H p o H1) : Same H0 H1 := fun b u e => by
  rw [n.els b (ne_of_none e f)]; exact s b u e
theorem But.wr {H0 H H1 : Hp} {p q : Addr} {o : HO} (s : But q H0 H) (f : H0 p = none) (n : Wr H p o H1) : But q H0 H1 := fun b u hb e => by
  rw [n.els b (ne_of_none e f)]; exact s b u hb e
theorem But.free {p b : Addr} {H H1 : Hp} (s : But p H H1) (hb : b ≠ p) (h : H1 b = none) : H b = none := by
  cases q : H b with
  | none => rfl
  | some o => rw [s b o hb q] at h; cases h
theorem But.seq {K : PySem.W.Frag} {H H' : Hp} {p a : Addr} {xs : List V} (e : But p H H') (hn : a ≠ p) (h : SqL K H a xs) : SqL K H' a xs := by
  rcases h with (h | ⟨o, h⟩) | h
  · exact .inl (.inl (e _ _ hn h))
  · exact .inl (.inr ⟨o, e _ _ hn h⟩)
  · exact .inr h

theorem _root_.L2.Same.tupl {K : PySem.W.Frag} {H H' : Hp} {a : Addr} {xs : List V} (e : Same H H') (h : SqT K H a xs) : SqT K H' a xs := by
  rcases h with (h | ⟨o, h⟩) | h
  · exact .inl (.inl (e _ _ h))
  · exact .inl (.inr ⟨o, e _ _ h⟩)
  · exact .inr h
/-! ### rules whose heaps are letters -/
section
variable {X : Cx}
theorem PE.weak {e : Expr} {t t' : TE} (h : PE X e t) (hw : ∀ σ H Q, t' σ H Q → t σ H Q) : PE X e t' := ⟨fun pins s σ H Q I q => h.run pins s σ H Q I (hw σ H Q q)⟩
/-- what follows may be weakened -/
def mcE (t : TE) : TE := fun σ H Q => ∃ R : VK, t σ H R ∧ ∀ v H', R v H' → Q v H'
def mcA (t : TA) : TA := fun σ H Q => ∃ R : List V → Hp → Prop, t σ H R ∧ ∀ v H', R v H' → Q v H'
theorem PE.mc {e : Expr} {t : TE} (h : PE X e t) : PE X e (mcE t) := ⟨fun pins s σ H Q I q => by
  obtain ⟨R, q1, q2⟩ := q
  exact thn (h.run pins s σ H R I q1) fun _ _ ⟨v, H', J, r, z⟩ => ⟨v, H', J, r, q2 _ _ z⟩⟩
theorem PA.mc {es : List Expr} {t : TA} (h : PA X es t) : PA X es (mcA t) := ⟨fun pos pins s σ H Q I q => by
  obtain ⟨R, q1, q2⟩ := q
  exact thn (h.run pos pins s σ H R I q1) fun _ _ ⟨v, H', J, r, z⟩ => ⟨v, H', J, r, q2 _ _ z⟩⟩
theorem OpR.weak {f : Value → Value → Sem Value} {r r' : R2} (h : OpR X f r) (hw : ∀ x y H Q, r' x y H Q → r x y H Q) : OpR X f r' := fun pins s σ H x y v u Q I rx ry q => h pins s σ H x y v u Q I rx ry (hw _ _ _ _ q)
theorem CallR.weak {f : Value} {r r' : List V → Hp → VK → Prop} (h : CallR X f r) (hw : ∀ xs H Q, r' xs H Q → r xs H Q) : CallR X f r' := fun pins s σ H xs us Q I rx q => h pins s σ H xs us Q I rx (hw _ _ _ q)
theorem MtM.weak {id : String} {r r' : V → List V → Hp → VK → Prop} (h : MtM X id r) (hw : ∀ x xs H Q, r' x xs H Q → r x xs H Q) : MtM X id r' := fun pins s σ H x xs v us Q I rx rv q => h pins s σ H x xs v us Q I rx rv (hw _ _ _ _ q)
theorem SlR.weak {r r' : V → Option Int → Option Int → Hp → VK → Prop} (h : SlR X r) (hw : ∀ x lo hi H Q, r' x lo hi H Q → r x lo hi H Q) : SlR X r' := fun pins s σ H x v vl vu lo hi sl Q I a b c d q => h pins s σ H x v vl vu lo hi sl Q I a b c d (hw _ _ _ _ _ q)

/-- [a, b] -/
def qLst (t : TA) : TE := fun σ H Q => t σ H fun xs H1 => xs.length ≤ sizeLine ∧ ∀ p H2, New H1 p (.lst xs) H2 → Q (.ref p) H2
/-- (a, b) -/
def qTup (t : TA) : TE := fun σ H Q => t σ H fun xs H1 => xs.length ≤ sizeLine ∧ ∀ p H2, New H1 p (.tup xs) H2 → Q (.ref p) H2
theorem pe_lst' {es : List Expr} {t : TA} {pos : Pos} (h : PA X es t) : PE X (.List es pos) (qLst t) :=
  PE.weak (pe_lst (PA.mc h)) fun σ H Q q => ⟨_, q, fun _ _ z => ⟨z.1, fun p hp => z.2 p _ (.mk' hp)⟩⟩
theorem pe_tup' {es : List Expr} {t : TA} {pos : Pos} {x1} (h : PA X es t) : PE X (.Tuple es x1 pos) (qTup t) :=
  PE.weak (pe_tup (PA.mc h)) fun σ H Q q => ⟨_, q, fun _ _ z => ⟨z.1, fun p hp => z.2 p _ (.mk' hp)⟩⟩
/-- list(xs) -/
def qListOf (K : PySem.W.Frag) : List V → Hp → VK → Prop := fun xs H Q => ∃ p ys, xs = [.ref p] ∧ (SqL K H p ys ∨ SqT K H p ys) ∧ ∀ l H', New H l (.lst ys) H' → Q (.ref l) H'
theorem call_listOf : CallR X (.type "list") (qListOf X.K) := CallR.weak call_list_of fun xs H Q q => by
  obtain ⟨p, ys, e, h, k⟩ := q
  exact ⟨p, ys, e, h, fun l hl => k l _ (.mk' hl)⟩
/-- tuple(xs), xs a list -/
def qTupOfL (K : PySem.W.Frag) : List V → Hp → VK → Prop := fun xs H Q => ∃ p ys, xs = [.ref p] ∧ SqL K H p ys ∧ ∀ l H', New H l (.tup ys) H' → Q (.ref l) H'
theorem call_tupOfL : CallR X (.type "tuple") (qTupOfL X.K) := CallR.weak call_tuple_of fun xs H Q q => by
  obtain ⟨p, ys, e, h, k⟩ := q
  exact ⟨p, ys, e, .inl ⟨h, fun l hl => k l _ (.mk' hl)⟩⟩
/-- xs[lo:hi] -/
def qSlL (K : PySem.W.Frag) : V → Option Int → Option Int → Hp → VK → Prop := fun x lo hi H Q => ∃ a xs, x = .ref a ∧ SqL K H a xs ∧ ∀ p H', New H p (.lst (cutV xs lo hi)) H' → Q (.ref p) H'
theorem sl_list' : SlR X (qSlL X.K) := SlR.weak sl_list fun x lo hi H Q q => by
  obtain ⟨a, xs, e, h, k⟩ := q
  exact ⟨a, xs, e, h, fun p hp => k p _ (.mk' hp)⟩
/-- xs + ys -/
def qCat : R2 := fun x y H Q => ∃ a b xs ys, x = .ref a ∧ y = .ref b ∧ H a = some (.lst xs) ∧ H b = some (.lst ys) ∧ xs.length + ys.length ≤ sizeLine ∧ ∀ p H', New H p (.lst (xs ++ ys)) H' → Q (.ref p) H'
theorem op_cat' : OpR X (binaryOp .Add) qCat := OpR.weak op_cat fun x y H Q q => by
  obtain ⟨a, b, xs, ys, e1, e2, h1, h2, hl, k⟩ := q
  exact ⟨a, b, xs, ys, e1, e2, h1, h2, hl, fun p hp => k p _ (.mk' hp)⟩
/-- xs.append(y), xs.pop(), xs.pop(i) -/
def qAppend : V → List V → Hp → VK → Prop := fun x vs H Q => ∃ l xs y, x = .ref l ∧ vs = [y] ∧ H l = some (.lst xs) ∧ xs.length < sizeLine ∧ ∀ H', Wr H l (.lst (xs ++ [y])) H' → Q .non H'
theorem mt_append' : MtM X "list.append" qAppend := MtM.weak mt_append fun x vs H Q q => by
  obtain ⟨l, xs, y, e1, e2, h, hl, k⟩ := q
  exact ⟨l, xs, y, e1, e2, h, hl, k _ .mk'⟩
def qPop : V → List V → Hp → VK → Prop := fun x vs H Q => ∃ l xs y, x = .ref l ∧ vs = [] ∧ H l = some (.lst xs) ∧ xs[xs.length - 1]? = some y ∧ ∀ H', Wr H l (.lst xs.dropLast) H' → Q y H'
theorem mt_pop' : MtM X "list.pop" qPop := MtM.weak mt_pop fun x vs H Q q => by
  obtain ⟨l, xs, y, e1, e2, h, hl, k⟩ := q
  exact ⟨l, xs, y, e1, e2, h, hl, k _ .mk'⟩
def qPopAt : V → List V → Hp → VK → Prop := fun x vs H Q => ∃ l xs y, ∃ i : Nat, x = .ref l ∧ vs = [.int i] ∧ H l = some (.lst xs) ∧ xs[i]? = some y ∧ xs.length < 2 ^ 62 ∧ ∀ H', Wr H l (.lst (xs.eraseIdx i)) H' → Q y H'
theorem mt_popAt' : MtM X "list.pop" qPopAt := MtM.weak mt_popAt fun x vs H Q q => by
  obtain ⟨l, xs, y, i, e1, e2, h, hy, hl, k⟩ := q
  have hi : i < xs.length := (List.getElem?_eq_some_iff.mp hy).1
  refine ⟨l, xs, i, i, y, e1, e2, h, by omega, by omega, ?_, hy, k _ .mk'⟩
  have e0 : ¬ ((i : Int) < 0) := by omega
  unfold seqIndex?
  simp only [if_neg e0]
  have e1 : (decide (0 ≤ (i : Int)) && decide ((i : Int) < (xs.length : Int))) = true := by
    rw [Bool.and_eq_true, decide_eq_true_eq, decide_eq_true_eq]
    omega
  rw [if_pos e1, Int.toNat_natCast]
/-- xs != [], xs a list of anything -/
def qNeNil (K : PySem.W.Frag) : R2 := fun x y H Q => ∃ a b xs, x = .ref a ∧ y = .ref b ∧ SqL K H a xs ∧ H b = some (.lst []) ∧ Q (.bl (!xs.isEmpty)) H
theorem op_neNil (hu : X.A.units < cLine) : OpR X (compareOp .NotEq) (qNeNil X.K) := by
  intro pins s σ H x y v u Q I rx ry h
  obtain ⟨a, b, xs, rfl, rfl, ha, hb, q⟩ := h
  cases rx
  cases ry
  obtain ⟨its, r1, p1, _⟩ := I.list ha
  obtain ⟨its2, r2, p2, _⟩ := I.list (SqL.of hb : SqL X.K H b [])
  have e2 : its2 = [] := by
    cases r2
    rfl
  subst e2
  cases r1 with
  | nil => exact SeqAt.RcNeAt.lists (e := fun _ => true) p1.isList p2.isList rfl hu (fun j h1 _ => absurd h1 (by simp)) X.prog X.w X.xe _ ⟨.bl _, H, I, rfl, q⟩
  | cons _ _ => exact SeqAt.RcNeAt.lists_lengths p1.isList p2.isList (by simp) hu X.prog X.w X.xe _ ⟨.bl _, H, I, rfl, q⟩
end
end My
end
section
set_option Elab.async false
set_option linter.all false
set_option maxRecDepth 100000
set_option maxHeartbeats 2000000
namespace My
open PySem PySem.Spec PyProof.Rows L2

/-! ### defs that are called where no repr is under way -/
structure FnG (P : Program) (w : World) (K : PySem.W.Frag) (mg : Str → Option Value) (base : Heap) (k : Nat) (f : Addr) (fd : FuncData) (ps : List Str) (sp : Sp) : Prop where
  size : ∀ vs H Q E, sp vs H Q E → vs.length = ps.length
  goes : ∀ (A : Around) (o : List Env) (s : Shared) (H : Hp) (args : Args) (us : List Value) (vs : List V) (Q : VK) (E : XK), A.guards = some [] → Room k A → Env0 P w K mg base A o s H → BindsTo s fd args (ps.zip us) → Vals vs us → sp vs H Q E →
    codeAny (model P w) A (.call (.ref f) args) (CR CX0 o P w H s Q E) s
section
variable {P : Program} {w : World} {K : PySem.W.Frag} {mg : Str → Option Value} {base : Heap}
theorem FnG.ofOk {k : Nat} {f : Addr} {fd : FuncData} {ps : List Str} {sp : Sp} (F : FnOk P w K mg base CX0 k f fd ps sp) : FnG P w K mg base k f fd ps sp :=
  ⟨F.len, fun A o s H args us vs Q E _ hr e b v q => F.run A o s H args us vs Q E hr e b v q⟩
theorem FnG.imp {k : Nat} {f : Addr} {fd : FuncData} {ps : List Str} {sp sp' : Sp} (F : FnG P w K mg base k f fd ps sp) (h : ∀ vs H Q E, sp' vs H Q E → sp vs H Q E) : FnG P w K mg base k f fd ps sp' :=
  ⟨fun vs H Q E q => F.size vs H Q E (h _ _ _ _ q), fun A o s H args us vs Q E g hr e b v q => F.goes A o s H args us vs Q E g hr e b v (h _ _ _ _ q)⟩
theorem guards_deeper {A : Around} {env : Env} (h : A.guards = some []) : (A.deeper env).guards = some [] := h
/-- a def by its body, where no repr is under way -/
theorem okG {x qual : Str} {st : Stmt} {f : Addr} {fd : FuncData} {N ps : List Str} {k : Nat} {sp : Sp} (F : Fun K x qual st f fd) (S : FnScope N ps (defScope st)) (size : ∀ vs H Q E, sp vs H Q E → vs.length = ps.length)
    (body : ∀ (cdv : Value) (A : Around) (o : List Env) (s : Shared) (H : Hp) (vs : List V) (Q : VK) (E : XK), (A.deeper (envOfC qual (defScope st) s.heap.objs.size f cdv)).guards = some [] → Room k (A.deeper (envOfC qual (defScope st) s.heap.objs.size f cdv)) → sp vs H Q E →
      ∃ t, PSs (cxOf CX0 P w K mg base N qual (defScope st) f cdv A o s H E).nox (defBody st) t ∧ t { nx := fun _ H' => Q .non H', rt := Q } (L2.start N vs) H) : FnG P w K mg base (k + 1) f fd ps sp := by
  obtain ⟨oc, od, kV, doc, pm, an, cdv, ct, osl, rfl, lk, hcd⟩ := F.ex
  constructor
  · exact size
  intro A o s H args us vs Q E g room e0 bd rel want
  have hlen := size _ _ _ _ want
  have kin := e0.mod.kin.keeps fun b ob z => (e0.bs b ob z).1
  have nolim := e0.mod.nolimit.keeps fun b ob z => (e0.bs b ob z).1
  have kinds : ∀ y ∈ ps.zip us, (defScope st).names.lookup y.1 = some .local ∨ ((defScope st).names.lookup y.1 = some .cell ∧ ((cellsFrom (s.heap.objs.size + 1) (defScope st).names []).lookup y.1).isSome = true) := by
    intro y hy
    obtain ⟨n, v⟩ := y
    cases S.par n (List.of_mem_zip hy).1 with
    | inl z => exact Or.inl z
    | inr z => exact Or.inr ⟨z, PySem.W.cellsFrom_some _ _ _ (Or.inl z)⟩
  apply codeAny_call_function room.depth (kin _ _ lk) rfl S.co S.gen rfl (PySem.W.codeRec_of kin hcd)
  apply bd
  apply wpAny_newFunctionEnv_cells S.kind kinds
  intro env henv s1 x
  subst henv
  constructor
  · exact nolim.keeps x.toInCall.keep
  apply codeAny_func
  obtain ⟨t, der, rd⟩ := body cdv A o s H vs Q E (guards_deeper g) (room.deeper _) want
  have J : Inv (cxOf CX0 P w K mg base N qual (defScope st) f cdv A o s H E) [] (L2.start N vs) H s1 := inv_start S room.hd e0 hlen rel x
  apply wpAny_mono (der.nox.run [] s1 (L2.start N vs) H _ J rd)
  · intro fl s' hs
    cases fl with
    | ret u =>
      obtain ⟨v, σ', H', J', rv, q⟩ := hs
      exact ⟨v, H', J'.os, J'.bare, J'.base, J'.hok, rv, q⟩
    | next =>
      obtain ⟨σ', H', J', q⟩ := hs
      exact ⟨V.non, H', J'.os, J'.bare, J'.base, J'.hok, rfl, q⟩
    | brk => exact hs.choose_spec.choose_spec.2.elim
    | cont => exact hs.choose_spec.choose_spec.2.elim
  · intro e s' hs
    exact hs
end
section
variable {X : Cx} {k : Nat} {f : Addr} {fd : FuncData} {ps : List Str} {sp : Sp} {dvs : List V} {ds : List Value} {E : XK} {x : Str} {p pos : Pos} {e : Expr} {es : List Expr} {t : TA}
/-- the callee runs, no repr under way -/
theorem runG {pins : List (Addr × Obj)} {σ : L2.St} {H : Hp} {s : Shared} {Q : VK} {us : List Value} {vs : List V} (F : FnG X.prog X.w X.K X.mg X.base k f fd ps sp) (g : X.A.guards = some []) (hr : Room k X.A) (hb : Binds X.K fd ps ds) (hd : Vals dvs ds)
    (I : Inv X pins σ H s) (r : Vals vs us) (h : sp (vs ++ dvs) H Q E) : wpAny (model X.prog X.w) X.A (call (.ref f) us) (EP X pins σ Q) X.xe s := by
  have rr := r.append hd
  have hl : (us ++ ds).length = ps.length := rr.length.symm.trans (F.size _ _ _ _ h)
  apply wpAny_call
  apply codeAny_mono (F.goes X.A X.stack s H ⟨us, []⟩ (us ++ ds) (vs ++ dvs) Q E g hr I.env0 (hb s us I.kIn hl) rr h)
  intro r' s' hq
  match r', hq with
  | .error _, hq => exact hq.elim
  | .ok (.ret _), hq => exact I.after hq
  | .ok .next, hq => exact hq.elim
  | .ok .brk, hq => exact hq.elim
  | .ok .cont, hq => exact hq.elim
/-- f(a, ..), no repr under way -/
theorem pe_callG (F : FnG X.prog X.w X.K X.mg X.base k f fd ps sp) (g : X.A.guards = some []) (hr : Room k X.A) (hg : Gl X x) (hm : X.mg x = some (.ref f)) (hk : PySem.W.keepIn X.K (.ref f) = true) (hb : Binds X.K fd ps ds) (hd : Vals dvs ds) (ha : PA X (e :: es) t)
    (hdb : (x == ("__debug__" : Str)) = false := by decide) (he : starEach (e :: es) X.env = (false, eval e X.env) :: starEach es X.env := by rfl) (hpl : (backTo pos (starEach es X.env)).any (·.1) = false := by rfl) : PE X (.Call (.Name x p) (e :: es) [] pos) (tCall sp dvs E t) := by
  constructor
  intro pins s σ H Q I h
  apply wpAny_Call_Name_kw
  apply ld_glob I hg hm _ hdb
  apply PySem.W.callWith_K (h₀ := X.base) I.ok.mod.kin hk _ he hpl
  apply thn (ha.run pos pins s σ H _ I h)
  intro us s1 hq
  obtain ⟨vs, H1, I1, r, q⟩ := hq
  exact ⟨I1.kIn, runG F g hr hb hd I1 r q⟩
end

/-! ### repr of data -/
section
variable {X : Cx}
/-- repr(x), no repr under way: data without dicts -/
def qRepr (K : PySem.W.Frag) : List V → Hp → VK → Prop := fun xs H Q => ∃ x d, xs = [x] ∧ Dp K H x d ∧ d.showable = true ∧ d.hasDict = false ∧ d.shown.length ≤ sizeLine ∧ d.depth ≤ 60 ∧ Q (.str d.shown) H
theorem call_repr (g : X.A.guards = some []) (hu : X.A.units + 64 < cLine) : CallR X (.builtin "repr") (qRepr X.K) := by
  intro pins s σ H xs us Q I r h
  obtain ⟨x, d, rfl, hd, h1, h2, h3, h4, q⟩ := h
  obtain ⟨u, rfl, rx⟩ := vals1 r
  obtain ⟨as, rd⟩ := Dp.reads I d x u hd rx
  have fin : ∀ (h' : Heap) (t : Tok) (tk : Nat), (∀ b o, s.heap.get? b = some o → h'.get? b = some o) → EP X pins σ Q (.str d.shown t) { s with heap := h', toks := tk } := by
    intro h' t tk hk
    exact ⟨.str d.shown, H, I.kept (t' := tk) hk, ⟨t, rfl⟩, q⟩
  cases hd with
  | non =>
    cases rx
    exact PySem.P.repr_of_none (fin _ _ _ fun _ _ z => z)
  | bl b =>
    cases rx
    exact PySem.P.repr_of_bool (fin _ _ _ fun _ _ z => z)
  | int i =>
    obtain ⟨t, rfl⟩ := rx
    exact PySem.P.repr_of_int (by simpa [PyData.showable] using h1) (fin _ _ _ fun _ _ z => z)
  | str z =>
    obtain ⟨t, rfl⟩ := rx
    exact PySem.P.repr_of_str (fin _ _ _ fun _ _ z => z) (by simpa only [PyData.shown] using h3)
  | lst a b =>
    cases rx
    exact repr_of_reads' rd h1 (PyData.noDict_hsm h2) g (by omega) (fun _ _ z => z) (fun h' t tk hk => fin h' t tk hk) h3
  | tup a b =>
    cases rx
    exact repr_of_reads' rd h1 (PyData.noDict_hsm h2) g (by omega) (fun _ _ z => z) (fun h' t tk hk => fin h' t tk hk) h3
end
end My
end
section
set_option Elab.async false
set_option linter.all false
set_option maxRecDepth 100000
set_option maxHeartbeats 2000000
namespace My
open PySem PySem.Spec PyProof.Rows L2
/-! ### the pen -/
abbrev penK (c : Addr) (u l : Int) : List (Key × V) := [(.inr "cells", .ref c), (.inr "used", .int u), (.inr "left", .int l)]
/-- the pen at p, its cells at c, drawn from at most n times -/
def PenAt (H : Hp) (p c : Addr) (n : Nat) : Prop := ∃ (cs : List Int) (u l : Int), H p = some (.dK (penK c u l)) ∧ H c = some (.lst (cs.map V.int)) ∧ 0 ≤ u ∧ u ≤ n ∧ cs.length ≤ 63
theorem penK_cells (c : Addr) (u l : Int) : valV (penK c u l) (Sum.inr "cells" : Key) = some (.ref c) := rfl
theorem penK_used (c : Addr) (u l : Int) : valV (penK c u l) (Sum.inr "used" : Key) = some (.int u) := rfl
theorem penK_left (c : Addr) (u l : Int) : valV (penK c u l) (Sum.inr "left" : Key) = some (.int l) := rfl
theorem penK_put_used (c : Addr) (u l z : Int) : putK (penK c u l) (Sum.inr "used" : Key) (.int z) = penK c z l := rfl
theorem penK_put_left (c : Addr) (u l z : Int) : putK (penK c u l) (Sum.inr "left" : Key) (.int z) = penK c u z := rfl
theorem dget_cells {H : Hp} {p c : Addr} {u l : Int} (h : H p = some (.dK (penK c u l))) : DGet H p (.str "cells") (some (.ref c)) := DGet.k (k := Sum.inr "cells") h
theorem dget_used {H : Hp} {p c : Addr} {u l : Int} (h : H p = some (.dK (penK c u l))) : DGet H p (.str "used") (some (.int u)) := DGet.k (k := Sum.inr "used") h
theorem dget_left {H : Hp} {p c : Addr} {u l : Int} (h : H p = some (.dK (penK c u l))) : DGet H p (.str "left") (some (.int l)) := DGet.k (k := Sum.inr "left") h
theorem dput_used {H : Hp} {p c : Addr} {u l z : Int} (h : H p = some (.dK (penK c u l))) : DPut H p (.str "used") (.int z) (upd H p (.dK (penK c z l))) := DPut.k (k := Sum.inr "used") h (by show 3 < sizeLine; decide)
theorem dput_left {H : Hp} {p c : Addr} {u l z : Int} (h : H p = some (.dK (penK c u l))) : DPut H p (.str "left") (.int z) (upd H p (.dK (penK c u z))) := DPut.k (k := Sum.inr "left") h (by show 3 < sizeLine; decide)
theorem PenAt.mono {H : Hp} {p c : Addr} {n m : Nat} (h : PenAt H p c n) (l : n ≤ m) : PenAt H p c m := by
  obtain ⟨cs, u, z, h1, h2, h3, h4, h5⟩ := h
  exact ⟨cs, u, z, h1, h2, h3, by omega, h5⟩
theorem PenAt.ne {H : Hp} {p c q : Addr} {n : Nat} (h : PenAt H p c n) (f : H q = none) : p ≠ q := by
  obtain ⟨cs, u, z, h1, _⟩ := h
  exact ne_of_none h1 f
theorem PenAt.neC {H : Hp} {p c q : Addr} {n : Nat} (h : PenAt H p c n) (f : H q = none) : c ≠ q := by
  obtain ⟨cs, u, z, _, h2, _⟩ := h
  exact ne_of_none h2 f
theorem PenAt.neL {H : Hp} {p c q : Addr} {n : Nat} {xs : List V} (h : PenAt H p c n) (f : H q = some (.lst xs)) : q ≠ p := by
  obtain ⟨cs, u, z, h1, _⟩ := h
  exact ne_of f h1 (by intro z; cases z)
theorem PenAt.neT {H : Hp} {p c q : Addr} {n : Nat} {xs : List V} (h : PenAt H p c n) (f : H q = some (.tup xs)) : q ≠ p := by
  obtain ⟨cs, u, z, h1, _⟩ := h
  exact ne_of f h1 (by intro z; cases z)
theorem PenAt.same {H H1 : Hp} {p c : Addr} {n : Nat} (s : Same H H1) (h : PenAt H p c n) : PenAt H1 p c n := by
  obtain ⟨cs, u, z, h1, h2, h3, h4, h5⟩ := h
  exact ⟨cs, u, z, s _ _ h1, s _ _ h2, h3, h4, h5⟩
theorem PenAt.els {H H1 : Hp} {p c q : Addr} {o : HO} {n : Nat} (w : Wr H q o H1) (hp : p ≠ q) (hc : c ≠ q) (h : PenAt H p c n) : PenAt H1 p c n := by
  obtain ⟨cs, u, z, h1, h2, h3, h4, h5⟩ := h
  exact ⟨cs, u, z, (w.els p hp).trans h1, (w.els c hc).trans h2, h3, h4, h5⟩
/-- what a def that draws leaves: the pen, drawn from at most m times; all else as it was -/
structure DrewP (H : Hp) (p c : Addr) (m : Nat) (H1 : Hp) : Prop where
  but : But p H H1
  pen : PenAt H1 p c m
theorem DrewP.trans {H H1 H2 : Hp} {p c : Addr} {m k : Nat} (a : DrewP H p c m H1) (b : DrewP H1 p c k H2) : DrewP H p c k H2 := ⟨a.but.trans b.but, b.pen⟩
theorem DrewP.new {H H1 H2 : Hp} {p c q : Addr} {o : HO} {m : Nat} (a : DrewP H p c m H1) (b : New H1 q o H2) : DrewP H p c m H2 := ⟨a.but.trans (.of b.same), a.pen.same b.same⟩
theorem DrewP.mono {H H1 : Hp} {p c : Addr} {m k : Nat} (a : DrewP H p c m H1) (h : m ≤ k) : DrewP H p c k H1 := ⟨a.but, a.pen.mono h⟩

theorem cutV_to (xs : List V) (n : Nat) : cutV xs none (some (n : Int)) = xs.take n := by
  unfold cutV
  rw [HT.sIx_none, HT.sIx_nat, List.drop_zero, Nat.sub_zero, ← List.take_eq_take_min]
theorem fmod_bounds (i : Int) {m : Int} (h : 0 < m) : 0 ≤ i.fmod m ∧ i.fmod m < m := ⟨Int.fmod_nonneg_of_pos i h, Int.fmod_lt_of_pos i h⟩
theorem cmul200 {i j : Int} (hi : -(2 ^ 200) < i ∧ i < 2 ^ 200) (hj : -(2 ^ 200) < j ∧ j < 2 ^ 200) : CMulW i j := wide_mul (a := 200) (b := 200) (by omega) (by omega) (by decide) (by decide) (by decide)
/-! ### promises of the helpers that draw -/
def sp_pen (K : PySem.W.Frag) : Sp := fun vs H Q _ => ∃ (a : Addr) (ns : List Int), vs = [.ref a] ∧ SqL K H a (ns.map V.int) ∧ ns.length ≤ 63 ∧ ∀ H' p c, Same H H' → H p = none → PenAt H' p c 0 → Q (.ref p) H'
/-- a number from 0 to m - 1, m at most sixty millions -/
def sp_draw : Sp := fun vs H Q _ => ∃ (p c : Addr) (m : Int) (n : Nat), vs = [.ref p, .int m] ∧ PenAt H p c n ∧ n < 2 ^ 60 ∧ 0 < m ∧ m ≤ 60000000 ∧ ∀ H' r, DrewP H p c (n + 1) H' → 0 ≤ r → r < m → Q (.int r) H'
end My
end
section
set_option Elab.async false
set_option linter.all false
set_option maxRecDepth 100000
set_option maxHeartbeats 2000000
namespace My
open PySem PySem.Spec PyProof.Rows L2
def topS (i : Nat) : Stmt := PySem.Challenge.pw_hymnplates_k06_whole_bearings.main.body.getD i (.Pass ⟨0, 0, 0, 0⟩)
abbrev s_pen : Stmt := topS 42
abbrev s_draw : Stmt := topS 43
section
variable {P : Program} {w : World} {K : PySem.W.Frag} {mg : Str → Option Value} {base : Heap}
theorem sc_pen : FnScope ["_law_script"] ["_law_script"] (defScope s_pen) := ⟨rfl, rfl, rfl, by decide +kernel, rfl, by decide +kernel, by decide +kernel⟩
theorem ok_pen {f : Addr} {fd : FuncData} (F : Fun K "_law_pen" "_law_pen" s_pen f fd) (Tlist : mg "list" = none) : FnOk P w K mg base CX0 1 f fd ["_law_script"] (sp_pen K) := by
  refine F.ok sc_pen (fun vs H Q E h => ?_) (fun cdv A outer s H vs Q E hr h => ?_)
  · obtain ⟨a, ns, rfl, _⟩ := h
    rfl
  · obtain ⟨a, ns, rfl, hS, hlen, k⟩ := h
    refine ⟨_, pss_one (ps_ret (pe_disp (pps_cons pe_str (pe_callTy call_listOf (by rfl) Tlist (by decide +kernel) (pa_cons (pe_slice sl_list' (pv 0) po_none (po_some pe_int)) pa_nil)) (pps_cons pe_str pe_int (pps_cons pe_str pe_int pps_nil))) (by rfl) (by rfl) (fun z => by cases z) (by decide))), ?_⟩
    intro p hp
    have n0 : New H p (.dK []) (upd H p (.dK [])) := .mk' hp
    generalize upd H p (HO.dK []) = H0 at n0 ⊢
    refine ⟨_, rfl, 63, rfl, a, _, rfl, n0.same.seq hS, fun q H1 n1 => ⟨q, _, rfl, .inl (SqL.of n1.here), fun l H2 n2 => ?_⟩⟩
    refine ⟨n2.same _ _ (n1.same _ _ n0.here), penK l 0 0, rfl, (by show 3 ≤ 15; omega), ?_⟩
    refine k _ p l ?_ hp ⟨ns.take 63, 0, 0, upd_same, ?_, Int.le_refl _, Int.le_refl _, ?_⟩
    · exact Same.wr ((n0.same.trans n1.same).trans n2.same) hp Wr.mk'
    · rw [upd_ne (ne_of_none (n1.same _ _ n0.here) n2.free).symm, n2.here]
      rw [show (63 : Int) = ((63 : Nat) : Int) from rfl, cutV_to, List.map_take]
    · rw [List.length_take]
      omega
theorem sc_draw : FnScope ["_law_pen_here", "_law_many", "_law_digit", "_law_used", "_law_cell", "_law_blend"] ["_law_pen_here", "_law_many"] (defScope s_draw) := ⟨rfl, rfl, rfl, by decide +kernel, rfl, by decide +kernel, by decide +kernel⟩
structure TDraw (mg : Str → Option Value) : Prop where
  int : mg "int" = none
  len : mg "len" = none
  abs : mg "abs" = none
theorem ok_draw {f : Addr} {fd : FuncData} (F : Fun K "_law_draw" "_law_draw" s_draw f fd) (T : TDraw mg) : FnOk P w K mg base CX0 1 f fd ["_law_pen_here", "_law_many"] sp_draw := by
  refine F.ok sc_draw (fun vs H Q E h => ?_) (fun cdv A outer s H vs Q E hr h => ?_)
  · obtain ⟨a, c, m, n, rfl, _⟩ := h
    rfl
  · obtain ⟨p, c, m, n, rfl, hP, hn, hm0, hm1, k⟩ := h
    have hu := hu_of hr
    refine ⟨_, pss_cons (ps_if (pt_cmpR op_gt (pe_dget hu (pv 0) pe_str (fun _ _ => rfl)) pe_int (nomark _))
        (pss_cons (ps_set (i := 2) sc_draw.nd rfl (Or.inl rfl) (pe_op op_modN (pe_callTy call_int1 (by rfl) T.int (by decide +kernel) (pa_cons (pe_dget hu (pv 0) pe_str (fun _ _ => rfl)) pa_nil)) (pv 1)))
        (pss_cons (ps_dput hu (pv 0) pe_str (pe_op op_fdivW (pe_dget hu (pv 0) pe_str (fun _ _ => rfl)) (pv 1)) rfl)
        (pss_one (ps_ret (pv 2))))) pss_nil)
      (pss_cons (ps_set (i := 3) sc_draw.nd rfl (Or.inl rfl) (pe_dget hu (pv 0) pe_str (fun _ _ => rfl)))
      (pss_cons (ps_dput hu (pv 0) pe_str (pe_op op_add (pv 3) pe_int) rfl)
      (pss_cons (ps_set (i := 4) sc_draw.nd rfl (Or.inl rfl) (pe_op op_add (pe_op op_mul pe_int (pv 3)) pe_int))
      (pss_cons (ps_if (pt_cmpR (op_neNil hr.units0) (pe_dget hu (pv 0) pe_str (fun _ _ => rfl)) (pe_lst' pa_nil) (nomark _))
        (pss_one (ps_set (i := 4) sc_draw.nd rfl (Or.inl rfl) (pe_ix ix_list (pe_dget hu (pv 0) pe_str (fun _ _ => rfl)) (pe_op op_modN (pe_callTy call_int1 (by rfl) T.int (by decide +kernel) (pa_cons (pv 3) pa_nil))
          (pe_callB call_len_seq (by rfl) T.len PySem.boot_len (pa_cons (pe_dget hu (pv 0) pe_str (fun _ _ => rfl)) pa_nil))) (fun _ _ => rfl)))) pss_nil)
      (pss_cons (ps_if (PW.pt (pw_and (pt_cmpR op_lt (pv 3) (pe_callB call_len_seq (by rfl) T.len PySem.boot_len (pa_cons (pe_dget hu (pv 0) pe_str (fun _ _ => rfl)) pa_nil)) (nomark _))
          (pw_and1 (pt_cmpR op_ge (pe_callB call_abs (by rfl) T.abs (by decide +kernel) (pa_cons (pv 4) pa_nil)) (pe_op op_pow pe_int pe_int) (nomark _)))))
        (pss_cons (ps_dput hu (pv 0) pe_str (pe_op op_fdivW (pe_op op_sub (pe_callB call_abs (by rfl) T.abs (by decide +kernel) (pa_cons (pv 4) pa_nil)) (pe_op op_pow pe_int pe_int)) (pv 1)) rfl)
        (pss_one (ps_ret (pe_op op_modN (pe_op op_sub (pe_callB call_abs (by rfl) T.abs (by decide +kernel) (pa_cons (pv 4) pa_nil)) (pe_op op_pow pe_int pe_int)) (pv 1))))) pss_nil)
      (pss_cons (ps_set (i := 5) sc_draw.nd rfl (Or.inl rfl) (pe_op op_add (pe_op op_mulW (pe_op op_modN (pe_callTy call_int1 (by rfl) T.int (by decide +kernel) (pa_cons (pv 4) pa_nil)) pe_int) pe_int) (pe_op op_mulW (pe_op op_mulW pe_int (pv 3)) (pv 3))))
      (pss_cons (ps_set (i := 5) sc_draw.nd rfl (Or.inl rfl) (pe_op op_modN (pe_callTy call_int1 (by rfl) T.int (by decide +kernel) (pa_cons (pe_op op_add (pe_op op_add (pv 5) (pe_op op_mulW pe_int (pv 3))) pe_int) pa_nil)) pe_int))
      (pss_cons (ps_set (i := 5) sc_draw.nd rfl (Or.inl rfl) (pe_op op_modN (pe_callTy call_int1 (by rfl) T.int (by decide +kernel) (pa_cons (pe_op op_add (pe_op op_add (pe_op op_add (pe_op op_mulW (pv 5) (pv 5)) (pe_op op_mulW pe_int (pv 5))) (pe_op op_mulW pe_int (pv 3))) pe_int) pa_nil)) pe_int))
      (pss_cons (ps_set (i := 5) sc_draw.nd rfl (Or.inl rfl) (pe_op op_fdivW (pe_op op_modN (pe_callTy call_int1 (by rfl) T.int (by decide +kernel) (pa_cons (pe_op op_mulW (pv 5) (pe_op op_add (pv 5) pe_int)) pa_nil)) pe_int) pe_int))
      (pss_cons (ps_if (pt_cmpR op_gt (pv 1) pe_int (nomark _)) (pss_one ps_never) pss_nil)
      (pss_one (ps_ret (pe_op op_modN (pe_callTy call_int1 (by rfl) T.int (by decide +kernel) (pa_cons (pv 5) pa_nil)) (pv 1)))))))))))))), ?_⟩
    obtain ⟨cs, u, l, h1, h2, hu0, hun, hc⟩ := hP
    have hdiv : CDivW 0 m := wide_div hm0 (b := 30) (by omega) (by decide) (by decide)
    refine ⟨_, rfl, p, _, rfl, dget_left h1, _, _, rfl, rfl, _, rfl, ite2 (fun hl => ?_) (fun hl => ?_)⟩
    · refine ⟨_, rfl, p, _, rfl, dget_left h1, .inl ⟨_, rfl, _, rfl, _, _, rfl, rfl, (by omega), ?_⟩⟩
      refine ⟨_, rfl, p, _, rfl, dget_left h1, _, rfl, _, _, rfl, rfl, hdiv, _, rfl, p, _, rfl, dput_left h1, ?_⟩
      refine ⟨_, rfl, k _ _ ⟨Wr.mk'.but, cs, u, _, upd_same, ?_, hu0, by omega, hc⟩ (fmod_bounds _ hm0).1 (fmod_bounds _ hm0).2⟩
      rw [upd_ne (ne_of h2 h1 (by intro z; cases z))]
      exact h2
    · refine ⟨_, rfl, p, _, rfl, dget_used h1, ?_⟩
      refine ⟨_, rfl, _, _, rfl, rfl, _, rfl, p, _, rfl, dput_used h1, ?_⟩
      have hpc : c ≠ p := ne_of h2 h1 (by intro z; cases z)
      have w1 : Wr H p (.dK (penK c (u + 1) l)) (upd H p (.dK (penK c (u + 1) l))) := .mk'
      generalize upd H p (HO.dK (penK c (u + 1) l)) = H1 at w1 ⊢
      have g2 : H1 c = some (.lst (cs.map V.int)) := (w1.els c hpc).trans h2
      have hu62 : 0 ≤ u ∧ u < 2 ^ 60 := ⟨hu0, by omega⟩
      refine ⟨_, rfl, _, _, rfl, rfl, .inl (by decide), _, _, rfl, rfl, ?_⟩
      refine ⟨_, rfl, p, _, rfl, dget_cells w1.here, by decide, fun q H2 n2 => ⟨c, q, _, rfl, rfl, SqL.of (n2.same _ _ g2), n2.here, _, rfl, ?_⟩⟩
      have i1 := n2.same _ _ w1.here
      have i2 := n2.same _ _ g2
      have hD : ∀ H3, Same H1 H3 → DrewP H p c (n + 1) H3 := fun H3 s3 => ⟨w1.but.trans (.of s3), cs, u + 1, l, s3 _ _ w1.here, s3 _ _ g2, by omega, by omega, hc⟩
      have sq : Same H1 H2 := n2.same
      have hcl : (cs.map V.int).length = cs.length := List.length_map _
      have hle : ∀ z : Int, 0 ≤ z.fmod m ∧ z.fmod m < m := fun z => fmod_bounds z hm0
      refine ite2 (fun hb => ?_) (fun hb => ?_)
      · have hpos : 0 < cs.length := by
          cases cs with
          | nil => simp at hb
          | cons _ _ => simp
        obtain ⟨h0, h9⟩ := fmod_bounds u (m := ((cs.map V.int).length : Int)) (by rw [hcl]; omega)
        obtain ⟨j, hj⟩ : ∃ j : Nat, u.fmod ((cs.map V.int).length : Int) = j := ⟨_, (Int.toNat_of_nonneg h0).symm⟩
        have hjl : j < cs.length := by rw [hj, hcl] at h9; omega
        refine ⟨_, rfl, p, _, rfl, dget_cells i1, _, rfl, .inl ⟨_, rfl, _, rfl, p, _, rfl, dget_cells i1, c, _, rfl, .inl (SqL.of i2), _, _, rfl, rfl, (by rw [hcl]; omega), c, _, _, V.int cs[j], rfl, rfl, SqL.of i2, ?_, ?_⟩⟩
        · rw [hj, atI_nat]
          simp [hjl]
        generalize cs[j] = cell
        clear hj h0 h9 hjl hpos
        revert cell
        intro cell
        have pw : CPow 10 18 := ⟨by decide, by decide, by decide⟩
        have last : ∀ (b : Int) (H3 : Hp), Same H1 H3 → True := fun _ _ _ => trivial
        refine ⟨_, rfl, _, rfl, p, _, rfl, dget_cells i1, c, _, rfl, .inl (SqL.of i2), _, _, rfl, rfl, _, rfl, ?_⟩
        refine ite2 (fun hlt => ?_) (fun hlt => ?_)
        · refine ⟨_, rfl, _, rfl, _, _, rfl, rfl, pw, _, _, rfl, rfl, _, rfl, ?_⟩
          refine ite2 (fun hge => ?_) (fun hge => ?_)
          · refine ⟨_, rfl, _, rfl, _, _, rfl, rfl, pw, _, _, rfl, rfl, _, rfl, _, _, rfl, rfl, hdiv, _, rfl, p, _, rfl, dput_left i1, ?_⟩
            refine ⟨_, rfl, _, rfl, _, _, rfl, rfl, pw, _, _, rfl, rfl, _, rfl, _, _, rfl, rfl, (by omega), ?_⟩
            refine k _ _ ⟨(hD _ sq).but.trans Wr.mk'.but, cs, u + 1, _, upd_same, ?_, by omega, by omega, hc⟩ (hle _).1 (hle _).2
            rw [upd_ne hpc]
            exact i2
          · refine ⟨_, rfl, .inl ⟨_, rfl, _, _, rfl, rfl, (show (4294967231 : Int) ≠ 0 by decide), _, _, rfl, rfl, ?_, _, rfl, _, _, rfl, rfl, ?_, _, rfl, _, _, rfl, rfl, ?_, _, _, rfl, rfl, ?_⟩⟩
            · have := fmod_bounds cell (m := 4294967231) (by decide)
              exact cmul200 (by omega) (by decide)
            · exact cmul200 (by decide) (by omega)
            · exact cmul200 (by omega) (by omega)
            dsimp only
            generalize cell.fmod 4294967231 * 1103515 + 30011 * u * u = b1
            refine ⟨_, rfl, _, rfl, _, _, rfl, rfl, ?_, _, _, rfl, rfl, _, _, rfl, rfl, .inl ⟨_, rfl, _, _, rfl, rfl, (by intro z; cases z), ?_⟩⟩
            · exact cmul200 (by decide) (by omega)
            obtain ⟨g1, g3⟩ := fmod_bounds (b1 + 178481 * u + 23) (m := 4294967197) (by decide)
            dsimp only
            generalize (b1 + 178481 * u + 23).fmod 4294967197 = b2 at g1 g3 ⊢
            refine ⟨_, rfl, _, rfl, _, _, rfl, rfl, ?_, _, rfl, _, _, rfl, rfl, ?_, _, _, rfl, rfl, _, rfl, _, _, rfl, rfl, ?_, _, _, rfl, rfl, _, _, rfl, rfl, .inl ⟨_, rfl, _, _, rfl, rfl, (by intro z; cases z), ?_⟩⟩
            · exact cmul200 (by omega) (by omega)
            · exact cmul200 (by decide) (by omega)
            · exact cmul200 (by decide) (by omega)
            obtain ⟨g4, g5⟩ := fmod_bounds (b2 * b2 + 16769023 * b2 + 5 * u + 7) (m := 4294967189) (by decide)
            dsimp only
            generalize (b2 * b2 + 16769023 * b2 + 5 * u + 7).fmod 4294967189 = b3 at g4 g5 ⊢
            refine ⟨_, rfl, _, rfl, _, _, rfl, rfl, _, _, rfl, rfl, ?_, .inl ⟨_, rfl, _, _, rfl, rfl, (by intro z; cases z), _, _, rfl, rfl, ?_, ?_⟩⟩
            · exact cmul200 (by omega) (by omega)
            · exact wide_div (by decide) (b := 30) (by decide) (by decide) (by decide)
            refine ⟨_, rfl, _, _, rfl, rfl, _, rfl, ?_⟩
            refine ite2 (fun hgt => absurd (of_decide_eq_true hgt) (by omega)) (fun _ => ?_)
            refine ⟨_, rfl, .inl ⟨_, rfl, _, rfl, _, _, rfl, rfl, (by omega), ?_⟩⟩
            exact k _ _ (hD _ sq) (hle _).1 (hle _).2
        · refine iteF ?_
          refine ⟨_, rfl, .inl ⟨_, rfl, _, _, rfl, rfl, (show (4294967231 : Int) ≠ 0 by decide), _, _, rfl, rfl, ?_, _, rfl, _, _, rfl, rfl, ?_, _, rfl, _, _, rfl, rfl, ?_, _, _, rfl, rfl, ?_⟩⟩
          · have := fmod_bounds cell (m := 4294967231) (by decide)
            exact cmul200 (by omega) (by decide)
          · exact cmul200 (by decide) (by omega)
          · exact cmul200 (by omega) (by omega)
          dsimp only
          generalize cell.fmod 4294967231 * 1103515 + 30011 * u * u = b1
          refine ⟨_, rfl, _, rfl, _, _, rfl, rfl, ?_, _, _, rfl, rfl, _, _, rfl, rfl, .inl ⟨_, rfl, _, _, rfl, rfl, (by intro z; cases z), ?_⟩⟩
          · exact cmul200 (by decide) (by omega)
          obtain ⟨g1, g3⟩ := fmod_bounds (b1 + 178481 * u + 23) (m := 4294967197) (by decide)
          dsimp only
          generalize (b1 + 178481 * u + 23).fmod 4294967197 = b2 at g1 g3 ⊢
          refine ⟨_, rfl, _, rfl, _, _, rfl, rfl, ?_, _, rfl, _, _, rfl, rfl, ?_, _, _, rfl, rfl, _, rfl, _, _, rfl, rfl, ?_, _, _, rfl, rfl, _, _, rfl, rfl, .inl ⟨_, rfl, _, _, rfl, rfl, (by intro z; cases z), ?_⟩⟩
          · exact cmul200 (by omega) (by omega)
          · exact cmul200 (by decide) (by omega)
          · exact cmul200 (by decide) (by omega)
          obtain ⟨g4, g5⟩ := fmod_bounds (b2 * b2 + 16769023 * b2 + 5 * u + 7) (m := 4294967189) (by decide)
          dsimp only
          generalize (b2 * b2 + 16769023 * b2 + 5 * u + 7).fmod 4294967189 = b3 at g4 g5 ⊢
          refine ⟨_, rfl, _, rfl, _, _, rfl, rfl, _, _, rfl, rfl, ?_, .inl ⟨_, rfl, _, _, rfl, rfl, (by intro z; cases z), _, _, rfl, rfl, ?_, ?_⟩⟩
          · exact cmul200 (by omega) (by omega)
          · exact wide_div (by decide) (b := 30) (by decide) (by decide) (by decide)
          refine ⟨_, rfl, _, _, rfl, rfl, _, rfl, ?_⟩
          refine ite2 (fun hgt => absurd (of_decide_eq_true hgt) (by omega)) (fun _ => ?_)
          refine ⟨_, rfl, .inl ⟨_, rfl, _, rfl, _, _, rfl, rfl, (by omega), ?_⟩⟩
          exact k _ _ (hD _ sq) (hle _).1 (hle _).2
      · dsimp only
        generalize 43 * u + 7 = cell
        revert cell
        intro cell
        have pw : CPow 10 18 := ⟨by decide, by decide, by decide⟩
        have last : ∀ (b : Int) (H3 : Hp), Same H1 H3 → True := fun _ _ _ => trivial
        refine ⟨_, rfl, _, rfl, p, _, rfl, dget_cells i1, c, _, rfl, .inl (SqL.of i2), _, _, rfl, rfl, _, rfl, ?_⟩
        refine ite2 (fun hlt => ?_) (fun hlt => ?_)
        · refine ⟨_, rfl, _, rfl, _, _, rfl, rfl, pw, _, _, rfl, rfl, _, rfl, ?_⟩
          refine ite2 (fun hge => ?_) (fun hge => ?_)
          · refine ⟨_, rfl, _, rfl, _, _, rfl, rfl, pw, _, _, rfl, rfl, _, rfl, _, _, rfl, rfl, hdiv, _, rfl, p, _, rfl, dput_left i1, ?_⟩
            refine ⟨_, rfl, _, rfl, _, _, rfl, rfl, pw, _, _, rfl, rfl, _, rfl, _, _, rfl, rfl, (by omega), ?_⟩
            refine k _ _ ⟨(hD _ sq).but.trans Wr.mk'.but, cs, u + 1, _, upd_same, ?_, by omega, by omega, hc⟩ (hle _).1 (hle _).2
            rw [upd_ne hpc]
            exact i2
          · refine ⟨_, rfl, .inl ⟨_, rfl, _, _, rfl, rfl, (show (4294967231 : Int) ≠ 0 by decide), _, _, rfl, rfl, ?_, _, rfl, _, _, rfl, rfl, ?_, _, rfl, _, _, rfl, rfl, ?_, _, _, rfl, rfl, ?_⟩⟩
            · have := fmod_bounds cell (m := 4294967231) (by decide)
              exact cmul200 (by omega) (by decide)
            · exact cmul200 (by decide) (by omega)
            · exact cmul200 (by omega) (by omega)
            dsimp only
            generalize cell.fmod 4294967231 * 1103515 + 30011 * u * u = b1
            refine ⟨_, rfl, _, rfl, _, _, rfl, rfl, ?_, _, _, rfl, rfl, _, _, rfl, rfl, .inl ⟨_, rfl, _, _, rfl, rfl, (by intro z; cases z), ?_⟩⟩
            · exact cmul200 (by decide) (by omega)
            obtain ⟨g1, g3⟩ := fmod_bounds (b1 + 178481 * u + 23) (m := 4294967197) (by decide)
            dsimp only
            generalize (b1 + 178481 * u + 23).fmod 4294967197 = b2 at g1 g3 ⊢
            refine ⟨_, rfl, _, rfl, _, _, rfl, rfl, ?_, _, rfl, _, _, rfl, rfl, ?_, _, _, rfl, rfl, _, rfl, _, _, rfl, rfl, ?_, _, _, rfl, rfl, _, _, rfl, rfl, .inl ⟨_, rfl, _, _, rfl, rfl, (by intro z; cases z), ?_⟩⟩
            · exact cmul200 (by omega) (by omega)
            · exact cmul200 (by decide) (by omega)
            · exact cmul200 (by decide) (by omega)
            obtain ⟨g4, g5⟩ := fmod_bounds (b2 * b2 + 16769023 * b2 + 5 * u + 7) (m := 4294967189) (by decide)
            dsimp only
            generalize (b2 * b2 + 16769023 * b2 + 5 * u + 7).fmod 4294967189 = b3 at g4 g5 ⊢
            refine ⟨_, rfl, _, rfl, _, _, rfl, rfl, _, _, rfl, rfl, ?_, .inl ⟨_, rfl, _, _, rfl, rfl, (by intro z; cases z), _, _, rfl, rfl, ?_, ?_⟩⟩
            · exact cmul200 (by omega) (by omega)
            · exact wide_div (by decide) (b := 30) (by decide) (by decide) (by decide)
            refine ⟨_, rfl, _, _, rfl, rfl, _, rfl, ?_⟩
            refine ite2 (fun hgt => absurd (of_decide_eq_true hgt) (by omega)) (fun _ => ?_)
            refine ⟨_, rfl, .inl ⟨_, rfl, _, rfl, _, _, rfl, rfl, (by omega), ?_⟩⟩
            exact k _ _ (hD _ sq) (hle _).1 (hle _).2
        · refine iteF ?_
          refine ⟨_, rfl, .inl ⟨_, rfl, _, _, rfl, rfl, (show (4294967231 : Int) ≠ 0 by decide), _, _, rfl, rfl, ?_, _, rfl, _, _, rfl, rfl, ?_, _, rfl, _, _, rfl, rfl, ?_, _, _, rfl, rfl, ?_⟩⟩
          · have := fmod_bounds cell (m := 4294967231) (by decide)
            exact cmul200 (by omega) (by decide)
          · exact cmul200 (by decide) (by omega)
          · exact cmul200 (by omega) (by omega)
          dsimp only
          generalize cell.fmod 4294967231 * 1103515 + 30011 * u * u = b1
          refine ⟨_, rfl, _, rfl, _, _, rfl, rfl, ?_, _, _, rfl, rfl, _, _, rfl, rfl, .inl ⟨_, rfl, _, _, rfl, rfl, (by intro z; cases z), ?_⟩⟩
          · exact cmul200 (by decide) (by omega)
          obtain ⟨g1, g3⟩ := fmod_bounds (b1 + 178481 * u + 23) (m := 4294967197) (by decide)
          dsimp only
          generalize (b1 + 178481 * u + 23).fmod 4294967197 = b2 at g1 g3 ⊢
          refine ⟨_, rfl, _, rfl, _, _, rfl, rfl, ?_, _, rfl, _, _, rfl, rfl, ?_, _, _, rfl, rfl, _, rfl, _, _, rfl, rfl, ?_, _, _, rfl, rfl, _, _, rfl, rfl, .inl ⟨_, rfl, _, _, rfl, rfl, (by intro z; cases z), ?_⟩⟩
          · exact cmul200 (by omega) (by omega)
          · exact cmul200 (by decide) (by omega)
          · exact cmul200 (by decide) (by omega)
          obtain ⟨g4, g5⟩ := fmod_bounds (b2 * b2 + 16769023 * b2 + 5 * u + 7) (m := 4294967189) (by decide)
          dsimp only
          generalize (b2 * b2 + 16769023 * b2 + 5 * u + 7).fmod 4294967189 = b3 at g4 g5 ⊢
          refine ⟨_, rfl, _, rfl, _, _, rfl, rfl, _, _, rfl, rfl, ?_, .inl ⟨_, rfl, _, _, rfl, rfl, (by intro z; cases z), _, _, rfl, rfl, ?_, ?_⟩⟩
          · exact cmul200 (by omega) (by omega)
          · exact wide_div (by decide) (b := 30) (by decide) (by decide) (by decide)
          refine ⟨_, rfl, _, _, rfl, rfl, _, rfl, ?_⟩
          refine ite2 (fun hgt => absurd (of_decide_eq_true hgt) (by omega)) (fun _ => ?_)
          refine ⟨_, rfl, .inl ⟨_, rfl, _, rfl, _, _, rfl, rfl, (by omega), ?_⟩⟩
          exact k _ _ (hD _ sq) (hle _).1 (hle _).2
end
end My
end
section
set_option Elab.async false
set_option linter.all false
set_option maxRecDepth 100000
set_option maxHeartbeats 2000000
namespace My
open PySem PySem.Spec PyProof.Rows L2
/-- the signs of a text, one text each -/
def signs (z : Str) : List V := z.cps.toList.map fun c => V.str ⟨#[c]⟩
theorem signs_len (z : Str) : (signs z).length = z.length := by
  unfold signs
  rw [List.length_map, Array.length_toList]
  rfl
/-- what is iterated over: a list, a tuple, a text -/
inductive SqA (K : PySem.W.Frag) (H : Hp) : V → List V → Prop
  | lst {a : Addr} {xs : List V} : SqL K H a xs → SqA K H (.ref a) xs
  | tup {a : Addr} {xs : List V} : SqT K H a xs → SqA K H (.ref a) xs
  | str {z : Str} : z.length ≤ sizeLine → SqA K H (.str z) (signs z)
theorem vals_signs {z : Str} {acc : Array Value} (h : ItemsOf (SignAt z) acc z.cps.size) : Vals (signs z) acc.toList := by
  obtain ⟨hs, hi⟩ := h
  have aux : ∀ (l : List Nat) (us : List Value), us.length = l.length → (∀ (j : Nat) (u : Value), us[j]? = some u → ∃ c t, l[j]? = some c ∧ u = Value.str ⟨#[c]⟩ t) → Vals (l.map fun c => V.str ⟨#[c]⟩) us := by
    intro l
    induction l with
    | nil =>
      intro us hl _
      cases us with
      | nil => exact .nil
      | cons _ _ => simp at hl
    | cons c l ih =>
      intro us hl hg
      cases us with
      | nil => simp at hl
      | cons u us =>
        obtain ⟨c', t, e1, e2⟩ := hg 0 u rfl
        have e3 : c = c' := by simpa using e1
        subst e3
        exact .cons ⟨t, e2⟩ (ih us (by simpa using hl) fun j v hj => hg (j + 1) v (by simpa using hj))
  refine aux z.cps.toList acc.toList (by simpa using hs) fun j u hj => ?_
  obtain ⟨c, t, e1, e2⟩ := hi j u (by simpa using hj)
  exact ⟨c, t, by simpa using e1, e2⟩
section
variable {X : Cx}
theorem CallR.or {f : Value} {r r' : List V → Hp → VK → Prop} (h : CallR X f r) (h' : CallR X f r') : CallR X f (fun xs H Q => r xs H Q ∨ r' xs H Q) := fun pins s σ H xs us Q I rx q =>
  q.elim (h pins s σ H xs us Q I rx) (h' pins s σ H xs us Q I rx)
/-- list(z), z a text -/
theorem call_listStr (hh : X.A.handled = none) : CallR X (.type "list") (fun xs H Q => ∃ z, xs = [.str z] ∧ z.length ≤ sizeLine ∧ ∀ l H', New H l (.lst (signs z)) H' → Q (.ref l) H') := by
  intro pins s σ H xs us Q I r h
  obtain ⟨z, rfl, hz, q⟩ := h
  obtain ⟨u, rfl, t, rfl⟩ := vals1 r
  refine call_list_str hh z t (fun h' tk acc' c' hk hS hacc => ?_) hz
  have hn := I.hok.fresh (Nat.le_refl s.heap.objs.size)
  exact ⟨.ref s.heap.objs.size, _, I.laid (t' := tk) hk (Nat.le_refl _) (show ObjOk X.prog X.w _ h' _ (.lst (signs z)) from ⟨by rw [signs_len]; exact hz, acc'.toList, c', vals_signs hacc, by simpa using hS⟩), rfl, q _ _ (.mk' hn)⟩
/-- list(x), x a list, a tuple or a text -/
def qListAny (K : PySem.W.Frag) : List V → Hp → VK → Prop := fun xs H Q => ∃ x ys, xs = [x] ∧ SqA K H x ys ∧ ∀ l H', New H l (.lst ys) H' → Q (.ref l) H'
theorem call_listAny (hh : X.A.handled = none) : CallR X (.type "list") (qListAny X.K) := CallR.weak (CallR.or call_listOf (call_listStr hh)) fun xs H Q q => by
  obtain ⟨x, ys, rfl, h, k⟩ := q
  cases h with
  | lst h => exact .inl ⟨_, ys, rfl, .inl h, k⟩
  | tup h => exact .inl ⟨_, ys, rfl, .inr h, k⟩
  | str h => exact .inr ⟨_, rfl, h, k⟩
end
theorem SqA.same {K : PySem.W.Frag} {H H1 : Hp} {x : V} {xs : List V} (s : Same H H1) (h : SqA K H x xs) : SqA K H1 x xs := by
  cases h with
  | lst h => exact .lst (s.seq h)
  | tup h => exact .tup (by
      rcases h with (h | ⟨o, h⟩) | h
      · exact .inl (.inl (s _ _ h))
      · exact .inl (.inr ⟨o, s _ _ h⟩)
      · exact .inr h)
  | str h => exact .str h
theorem perm_eraseIdx {α : Type} {l : List α} {j : Nat} (h : j < l.length) : (l[j] :: l.eraseIdx j).Perm l := by
  have e : l = l.take j ++ l[j] :: l.drop (j + 1) := by
    rw [List.getElem_cons_drop, List.take_append_drop]
  rw [List.eraseIdx_eq_take_drop_succ]
  exact List.perm_middle.symm.trans (.of_eq e.symm)
/-! ### promises -/
/-- one of the items of a list -/
def sp_pick (K : PySem.W.Frag) : Sp := fun vs H Q _ => ∃ (p c a : Addr) (xs : List V) (n : Nat), vs = [.ref p, .ref a] ∧ PenAt H p c n ∧ n < 2 ^ 60 ∧ SqL K H a xs ∧ a ≠ p ∧ 0 < xs.length ∧ xs.length ≤ 1000000 ∧
  ∀ H' v, DrewP H p c (n + 1) H' → v ∈ xs → Q v H'
/-- the items in some order -/
def sp_shuf (K : PySem.W.Frag) : Sp := fun vs H Q _ => ∃ (p c : Addr) (x : V) (xs : List V) (n : Nat), vs = [.ref p, x] ∧ PenAt H p c n ∧ n + xs.length < 2 ^ 60 ∧ SqA K H x xs ∧ xs.length ≤ 1000000 ∧
  ∀ H' r ys, DrewP H p c (n + xs.length) H' → H r = none → H' r = some (.lst ys) → ys.Perm xs → Q (.ref r) H'
end My
end
section
set_option Elab.async false
set_option linter.all false
set_option maxRecDepth 100000
set_option maxHeartbeats 3200000
namespace My
open PySem PySem.Spec PyProof.Rows L2
/-! ### set(z), z a text -/
/-- each number once, at its first place -/
def once (l : List Nat) : List Nat := l.foldl (fun acc c => if c ∈ acc then acc else acc ++ [c]) []
theorem once_snoc (l : List Nat) (c : Nat) : once (l ++ [c]) = if c ∈ once l then once l else once l ++ [c] := by
  unfold once
  rw [List.foldl_append]
  rfl
theorem mem_once (l : List Nat) (c : Nat) : c ∈ once l ↔ c ∈ l := by
  have aux : ∀ (l acc : List Nat), c ∈ l.foldl (fun acc c => if c ∈ acc then acc else acc ++ [c]) acc ↔ c ∈ acc ∨ c ∈ l := by
    intro l
    induction l with
    | nil => intro acc; simp
    | cons d l ih =>
      intro acc
      rw [List.foldl_cons, ih]
      by_cases h : d ∈ acc
      · rw [if_pos h]
        constructor
        · rintro (a | b)
          · exact .inl a
          · exact .inr (List.mem_cons_of_mem _ b)
        · rintro (a | b)
          · exact .inl a
          · rcases List.mem_cons.mp b with e | b
            · exact .inl (e ▸ h)
            · exact .inr b
      · rw [if_neg h]
        simp only [List.mem_append, List.mem_cons, List.not_mem_nil, or_false, or_assoc]
  unfold once
  rw [aux]
  simp
theorem once_le (l : List Nat) : (once l).length ≤ l.length := by
  have aux : ∀ (l acc : List Nat), (l.foldl (fun acc c => if c ∈ acc then acc else acc ++ [c]) acc).length ≤ acc.length + l.length := by
    intro l
    induction l with
    | nil => intro acc; simp
    | cons d l ih =>
      intro acc
      rw [List.foldl_cons]
      refine Nat.le_trans (ih _) ?_
      split
      · simp only [List.length_cons]; omega
      · simp only [List.length_append, List.length_cons, List.length_nil]; omega
  have := aux l []
  simpa [once] using this
theorem once_eq (l : List Nat) : (once l).length = l.length ↔ l.Nodup := by
  have aux : ∀ (l acc : List Nat), (l.foldl (fun acc c => if c ∈ acc then acc else acc ++ [c]) acc).length ≤ acc.length + l.length ∧
      ((l.foldl (fun acc c => if c ∈ acc then acc else acc ++ [c]) acc).length = acc.length + l.length ↔ l.Nodup ∧ ∀ c ∈ l, c ∉ acc) := by
    intro l
    induction l with
    | nil => intro acc; simp
    | cons d l ih =>
      intro acc
      rw [List.foldl_cons]
      by_cases h : d ∈ acc
      · rw [if_pos h]
        obtain ⟨h1, h2⟩ := ih acc
        refine ⟨by simp only [List.length_cons]; omega, ⟨fun e => ?_, fun e => absurd h (e.2 d List.mem_cons_self)⟩⟩
        simp only [List.length_cons] at e
        omega
      · rw [if_neg h]
        obtain ⟨h1, h2⟩ := ih (acc ++ [d])
        simp only [List.length_append, List.length_cons, List.length_nil] at h1 h2 ⊢
        refine ⟨by omega, ?_⟩
        rw [show acc.length + (l.length + 1) = acc.length + (0 + 1) + l.length by omega, h2, List.nodup_cons]
        constructor
        · rintro ⟨a, b⟩
          refine ⟨⟨fun m => ?_, a⟩, fun c hc => ?_⟩
          · exact b d m (List.mem_append_right _ List.mem_cons_self)
          · rcases List.mem_cons.mp hc with e | hc
            · exact e ▸ h
            · exact fun m => b c hc (List.mem_append_left _ m)
        · rintro ⟨⟨a, b⟩, c⟩
          refine ⟨b, fun x hx m => ?_⟩
          rcases List.mem_append.mp m with m | m
          · exact c x (List.mem_cons_of_mem _ hx) m
          · have e : x = d := by simpa using m
            exact a (e ▸ hx)
  have := (aux l []).2
  simpa [once] using this
/-- the texts of one sign in a list of signs -/
def signIn (l : List Nat) : Str → Bool := fun k => l.any fun c => decide (k = ⟨#[c]⟩)
theorem signIn_iff (l : List Nat) (c : Nat) : signIn l ⟨#[c]⟩ = true ↔ c ∈ l := by
  unfold signIn
  rw [List.any_eq_true]
  constructor
  · rintro ⟨d, hd, e⟩
    have e' := of_decide_eq_true e
    have : c = d := by
      injection e' with e2
      simpa using e2
    exact this ▸ hd
  · intro h
    exact ⟨c, h, by simp⟩
section
variable {prog : Program} {w : World} {A : Around} {R : Result → Shared → Prop} {I : Addr} {fp wr : List Addr} {G : Array GenState → Array GenState → Prop} {St : Nat → Shared → Prop}
theorem set_loop {z : Str} (W : WalksS prog w A.in1 I fp wr G z.cps.size (SignAt z) St) (S : Addr) (notIn : S ∉ fp) (few : z.cps.size + 1 < scanBound) :
    ∀ (left i : Nat) (s : Shared), z.cps.size - i = left → i ≤ z.cps.size → St i s → s.heap.SetOf (PySem.strKind prog w) S (signIn (z.cps.toList.take i)) (once (z.cps.toList.take i)).length →
      (∀ s', Moved (S :: wr) G s s' → s'.heap.SetOf (PySem.strKind prog w) S (signIn z.cps.toList) (once z.cps.toList).length → R (.ok (.ret .none)) s') →
      codeAny (model prog w) A (.builtin "set.update.loop" ⟨[.ref S, .ref I], []⟩) R s := by
  have notW : S ∉ wr := fun m => notIn (W.sub _ m)
  have more : ∀ b ∈ wr, b ∈ S :: wr := fun b m => List.mem_cons_of_mem _ m
  have all : z.cps.toList.take z.cps.size = z.cps.toList := List.take_of_length_le (by simp)
  have stays : ∀ {s s' : Shared} {T : Str → Bool} {m : Nat}, Moved wr G s s' → s.heap.SetOf (PySem.strKind prog w) S T m → s'.heap.SetOf (PySem.strKind prog w) S T m := by
    rintro s s' T m mv ⟨o, es, ep, tb, ho, r⟩
    exact ⟨o, es, ep, tb, mv.heap S _ notW ho, r⟩
  intro left
  induction left with
  | zero =>
    intro i s hl hi st set_ fin
    obtain rfl : i = z.cps.size := by omega
    apply codeAny_builtin PyProof.Rows.F.entry_set_update_loop
    rw [Around.under_plainId PyProof.Rows.F.plain_set_update_loop _]
    show wpAny _ A.in1 (pyNext (.ref I) >>= _) _ _ s
    apply wpAny_bind
    apply W.done s _ _ st
    intro s' mv
    apply wpAny_pure
    apply fin s' (mv.mono more)
    have := stays mv set_
    rw [all] at this
    exact this
  | succ left ih =>
    intro i s hl hi st set_ fin
    have lt : i < z.cps.size := by omega
    apply codeAny_builtin PyProof.Rows.F.entry_set_update_loop
    rw [Around.under_plainId PyProof.Rows.F.plain_set_update_loop _]
    show wpAny _ A.in1 (pyNext (.ref I) >>= _) _ _ s
    apply wpAny_bind
    apply W.item i s _ _ lt st
    intro v s' at_ st' mv
    obtain ⟨c, t, hc, rfl⟩ := at_
    have set' := stays mv set_
    have nx : z.cps.toList.take (i + 1) = z.cps.toList.take i ++ [c] := by
      have hc' : z.cps.toList[i]? = some c := by simpa using hc
      rw [List.take_add_one, hc']
      rfl
    show wpAny _ A.in1 (holding [Value.str ⟨#[c]⟩ t] (setAdd S (.str ⟨#[c]⟩ t)) >>= _) _ _ s'
    apply wpAny_bind
    apply wpAny_holding
    unfold setAdd
    apply wpAny_holding
    apply wpAny_bind
    apply (PySem.strKind prog w).pyHash (k := ⟨#[c]⟩) (strKind_is _ _ _ _)
    have room : (once (z.cps.toList.take i)).length + 1 < scanBound := by
      have h1 := once_le (z.cps.toList.take i)
      rw [List.length_take] at h1
      omega
    refine wpAny_setAddHashed_of (knd := PySem.strKind prog w) (s := { s' with toks := s'.toks + 1 }) (strKind_is _ _ _ _) rfl set' room fun h' but set2 => ?_
    have set3 : h'.SetOf (PySem.strKind prog w) S (signIn (z.cps.toList.take (i + 1))) (once (z.cps.toList.take (i + 1))).length := by
      refine SetOf_congr set2 (fun k => ?_) ?_
      · show (signIn (z.cps.toList.take i) k || decide (k = ⟨#[c]⟩)) = signIn (z.cps.toList.take (i + 1)) k
        rw [nx]
        unfold signIn
        rw [List.any_append]
        simp
      · rw [nx, once_snoc]
        by_cases m : c ∈ once (z.cps.toList.take i)
        · rw [if_pos m, if_pos ((signIn_iff _ c).mpr ((mem_once _ c).mp m))]
        · rw [if_neg m, if_neg (fun y => m ((mem_once _ c).mpr ((signIn_iff _ c).mp y))), List.length_append]
          rfl
    refine wpAny_pure ⟨plainId_quiet PyProof.Rows.F.plain_set_update_loop _, ih (i + 1) _ (by omega) lt (W.frame _ s' _ _ st' (Nat.le_succ _) fun b hb o e => ?_) set3 fun s'' mv2 set4 => ?_⟩
    · rw [but.2 b (fun e2 => notIn (e2 ▸ hb))]
      exact e
    · refine fin s'' (Moved.trans W.gtrans ((mv.mono more).then_heap (Nat.le_succ _) fun b o hb e => ?_) mv2) set4
      rw [but.2 b (fun e2 => hb (e2 ▸ List.mem_cons_self))]
      exact e
end
section
variable {prog : Program} {w : World} {A : Around} {E : Value → Shared → Prop} {s : Shared}
abbrev newSet (led : Bool) : Obj := { cls := .type "set", dict := none, data := .set #[] 0 (.fresh 0 0 led) }
/-- the body of set.__init__ over a text -/
theorem set_init_str {A2 : Around} (hh : A2.handled = none) {z : Str} {t : Tok} {led : Bool} {Qf : Fin → Shared → Prop} {Ef : Value → Shared → Prop} (few : z.cps.size + 1 < scanBound)
    (fin : ∀ h' tk, h'.SetOf (PySem.strKind prog w) s.heap.objs.size (signIn z.cps.toList) (once z.cps.toList).length → (∀ b o, s.heap.get? b = some o → h'.get? b = some o) → Qf (.done (.ret .none)) { s with heap := h', toks := tk }) :
    wpAny (model prog w) A2 (Builtin.«set.__init__» ⟨[.ref s.heap.objs.size, .str z t], []⟩) Qf Ef { s with heap := s.heap.push (newSet led) } := by
  have at_ : (s.heap.push (newSet led)).get? s.heap.objs.size = some (newSet led) := Heap.get?_push_size _ rfl
  have ty : Shared.TypeIs { s with heap := s.heap.push (newSet led) } (.ref s.heap.objs.size) "set" := ⟨_, at_, rfl⟩
  have no1 := PySem.F.sub_str_set
  have no2 := PySem.F.sub_str_frozenset
  have no3 : (Value.type "str" == Value.type "dict") = false := by decide
  unfold Builtin.«set.__init__» noKeywords Builtin.Frozenset.updateFrom
  generalize walkOf : pyIter = PI
  wp_walk
  subst walkOf
  refine wpAny_pyIter_str fun o St W st => ?_
  refine wpAny_bind (wpAny_runValue ?_)
  have sz : (s.heap.push (newSet led)).objs.size = s.heap.objs.size + 1 := Heap.size_push _ _
  have apart : s.heap.objs.size ∉ [(s.heap.push (newSet led)).objs.size] := by
    rw [sz]
    simp
  have hh2 : A2.in1.handled = none := hh
  refine set_loop ((W A2.in1 hh2).toS) s.heap.objs.size apart few (z.cps.size - 0) 0 _ rfl (Nat.zero_le _) st ?_ ?_
  · have at2 : ((s.heap.push (newSet led)).push o).get? s.heap.objs.size = some (newSet led) := Heap.get?_push_of_some _ at_
    exact SetOf_congr ((PyProof.Rows.setObjOf_fresh (knd := PySem.strKind prog w) led).setOf at2 (by unfold scanBound; omega)) (fun _ => rfl) rfl
  · intro s' mv set_
    obtain ⟨h', g', d', tk', os'⟩ := s'
    obtain rfl : g' = s.gens := mv.gens
    obtain rfl : d' = s.drawn := mv.drawn
    obtain rfl : os' = s.os := mv.os
    show wpAny _ _ _ _ _ _
    refine wpAny_pure ?_
    show wpAny _ _ (ret Value.none) _ _ _
    refine wpAny_pure (fin h' tk' set_ fun b ob e => ?_)
    have lt := Heap.lt_size e
    refine mv.heap b ob (fun m => ?_) (Heap.get?_push_of_some _ (Heap.get?_push_of_some _ e))
    rw [sz] at m
    rcases List.mem_cons.mp m with e2 | m
    · exact Nat.ne_of_lt lt e2
    · exact Nat.ne_of_lt (Nat.lt_succ_of_lt lt) (List.mem_singleton.mp m)
set_option maxHeartbeats 6400000 in
theorem call_set_text (hh : A.handled = none) {z : Str} {t : Tok} {Q : Value → Shared → Prop} (few : z.cps.size + 1 < scanBound)
    (fin : ∀ h' tk, h'.SetOf (PySem.strKind prog w) s.heap.objs.size (signIn z.cps.toList) (once z.cps.toList).length → (∀ b o, s.heap.get? b = some o → h'.get? b = some o) → Q (.ref s.heap.objs.size) { s with heap := h', toks := tk }) :
    wpAny (model prog w) A (call (.type "set") [.str z t]) Q E s := by
  obtain ⟨c, tl, mro_⟩ := PySem.F.called_set.mro
  have made_ := PySem.F.called_set.made
  have sub_ := PySem.F.called_set.sub
  apply wpAny_call
  apply codeAny_of_tree
  show wpAny _ _ (callAny (.type "set") _) _ _ _
  refine wpAny_pure ⟨Code.quiet_builtin _ (by decide +kernel), codeAny_builtin PySem.F.entry_type_call ?_⟩
  rw [Around.under_plain (weight_type_call_type "set" [.str z t] []) rfl]
  have nt_ := PySem.F.called_set.notType
  have can_ := PySem.F.called_set.canCreate
  have chk_ := PySem.F.typeCall_set_1 (.str z t)
  repeat (any_goals (first | assumption | wp_step))
  apply codeAny_mono (code_set_new_1 (.str z t) (E := E) (Q₁ := fun ob s1 => ∃ led : Bool, ob = .ref s.heap.objs.size ∧ s1 = { s with heap := s.heap.push (newSet led) }) fun led => ⟨led, rfl, rfl⟩)
  intro r s1 hr
  match r, hr with
  | .error _, hr => exact hr
  | .ok .next, hr => exact hr.elim
  | .ok .brk, hr => exact hr.elim
  | .ok .cont, hr => exact hr.elim
  | .ok (.ret ob), hr =>
    obtain ⟨led, rfl, rfl⟩ := hr
    have at_ : (s.heap.push (newSet led)).get? s.heap.objs.size = some (newSet led) := Heap.get?_push_size _ rfl
    have ty : Shared.TypeIs { s with heap := s.heap.push (newSet led) } (.ref s.heap.objs.size) "set" := ⟨_, at_, rfl⟩
    have look_ := PySem.F.called_set.init.lookup
    have bind_ := PySem.F.called_set.init.bind (.ref s.heap.objs.size)
    repeat (any_goals (first | assumption | wp_step))
    refine codeAny_mono (codeAny_call_builtin (R := wants (fun r s2 => r = .none ∧ ∃ h' tk, s2 = { s with heap := h', toks := tk } ∧ h'.SetOf (PySem.strKind prog w) s.heap.objs.size (signIn z.cps.toList) (once z.cps.toList).length ∧
        ∀ b o, s.heap.get? b = some o → h'.get? b = some o) E) PySem.F.called_set.init.plain PySem.F.entry_set_init (check_set_init_1 ty (set_init_str (A2 := A.in1.in1) hh few fun h' tk h1 h2 => ⟨rfl, h', tk, rfl, h1, h2⟩))) ?_
    intro r2 s2 hr2
    match r2, hr2 with
    | .error _, hr2 => exact hr2
    | .ok .next, hr2 => exact hr2.elim
    | .ok .brk, hr2 => exact hr2.elim
    | .ok .cont, hr2 => exact hr2.elim
    | .ok (.ret _), hr2 =>
      obtain ⟨rfl, h', tk, rfl, h1, h2⟩ := hr2
      repeat (any_goals (first | assumption | wp_step))
      exact fin h' tk h1 h2
end
section
variable {X : Cx}
/-- len(set(z)), z a text -/
def qLenSet (ta : TE) : TE := fun σ H Q => ta σ H fun x H1 => ∃ z : Str, x = .str z ∧ z.length ≤ 4000 ∧ Q (.int ((once z.cps.toList).length : Nat)) H1
theorem pe_lenSet {a : Expr} {ta : TE} {p p2 q pos : Pos} (hg : Gl X "len") (hm : X.mg "len" = none) (hg2 : Gl X "set") (hm2 : X.mg "set" = none) (ha : PE X a ta) (hc : X.calm = true := by rfl)
    (na : starEach [a] X.env = (false, eval a X.env) :: starEach [] X.env := by rfl) : PE X (.Call (.Name "len" p) [.Call (.Name "set" p2) [a] [] q] [] pos) (qLenSet ta) := by
  constructor
  intro pins s σ H Q I h
  apply Call_ (ld_blt I hg hm boot_len _)
  apply PyProof.Rows.callWith_builtin1 (PyProof.Rows.args_cons _ rfl) rfl rfl
  apply Call_ (ld_blt I hg2 hm2 boot_set _)
  refine PyProof.Rows.callWith_type1 (PyProof.Rows.args_cons (thn (ha.run pins s σ H _ I h) fun v s1 ⟨x, H1, I1, r1, q1⟩ => PyProof.Rows.args_nil ?_) na) na rfl
  obtain ⟨z, rfl, hz, q1⟩ := q1
  obtain ⟨t, rfl⟩ := r1
  have few : z.cps.size + 1 < scanBound := by
    have : z.cps.size ≤ 4000 := hz
    unfold scanBound
    omega
  refine call_set_text (I1.ok.hd hc) few fun h' tk set_ kept => ?_
  apply PyProof.Rows.args_nil
  obtain ⟨o, es, ep, tb, ho, ex, hd, _, _, _, fits, hn⟩ := set_
  have I2 : Inv X pins σ H1 { s1 with heap := h', toks := tk } := I1.kept kept
  have le : es.size ≤ 4000 := by
    rw [hn]
    refine Nat.le_trans (once_le _) ?_
    rw [Array.length_toList]
    exact hz
  rw [← hn] at q1
  exact call_len_set ho ex hd fits (by omega) ⟨.int (es.size : Nat), H1, I2.tok _, ⟨_, rfl⟩, q1⟩
end
end My
end
section
set_option Elab.async false
set_option linter.all false
set_option maxRecDepth 100000
set_option maxHeartbeats 2000000
namespace My
open PySem PySem.Spec PyProof.Rows L2
/-! ### data of any kind, apart from the object at p; st: no list of it stands at sys.modules' place -/
/-- an empty tuple of the written part -/
structure KEmp (K : PySem.W.Frag) (a : Addr) : Prop where
  ex : ∃ (o : Obj) (n : Nat), K.lookup a = some o ∧ o.cls = .type "tuple" ∧ o.data = .seq #[] n
theorem KEmp.sq {K : PySem.W.Frag} {H : Hp} {a : Addr} (h : KEmp K a) : SqT K H a [] := by
  obtain ⟨o, n, h1, h2, h3⟩ := h.ex
  exact .inr ⟨o, #[], n, h1, h2, h3, Nat.zero_le _, .nil⟩
mutual
inductive Rp (K : PySem.W.Frag) (p : Addr) (H : Hp) : Bool → V → PyData → Prop
  | non (st : Bool) : Rp K p H st .non .none
  | bl (st b : Bool) : Rp K p H st (.bl b) (.bool b)
  | int (st : Bool) (i : Int) : Rp K p H st (.int i) (.int i)
  | str (st : Bool) (z : Str) : Rp K p H st (.str z) (.str z)
  | lst {st : Bool} {a : Addr} {xs : List V} {ds : List PyData} : H a = some (.lst xs) → a ≠ p → ((st || PyData.hasDictAll ds) = true → a ≠ sysModules) → RpAll K p H (st || PyData.hasDictAll ds) xs ds → Rp K p H st (.ref a) (.list ds)
  | tup {st : Bool} {a : Addr} {xs : List V} {ds : List PyData} : H a = some (.tup xs) → a ≠ p → RpAll K p H (st || PyData.hasDictAll ds) xs ds → Rp K p H st (.ref a) (.tuple ds)
  | dct {st : Bool} {a : Addr} {kvs : List (Key × V)} {ks vs : List PyData} : H a = some (.dK kvs) → a ≠ p → RpAll K p H true (kvs.map fun e => kV e.1) ks → RpAll K p H true (kvs.map (·.2)) vs → ks.length = vs.length → Rp K p H st (.ref a) (.dict (ks.zip vs))
  | emp {st : Bool} {a : Addr} : KEmp K a → Rp K p H st (.ref a) (.tuple [])
inductive RpAll (K : PySem.W.Frag) (p : Addr) (H : Hp) : Bool → List V → List PyData → Prop
  | nil (st : Bool) : RpAll K p H st [] []
  | cons {st : Bool} {v : V} {vs : List V} {d : PyData} {ds : List PyData} : Rp K p H st v d → RpAll K p H st vs ds → RpAll K p H st (v :: vs) (d :: ds)
end
section
variable {K : PySem.W.Frag} {p : Addr} {H H1 : Hp}
mutual
theorem Rp.but (s : But p H H1) : ∀ {st : Bool} {d : PyData} {v : V}, Rp K p H st v d → Rp K p H1 st v d
  | _, _, _, .non _ => .non _
  | _, _, _, .bl _ b => .bl _ b
  | _, _, _, .int _ i => .int _ i
  | _, _, _, .str _ z => .str _ z
  | _, _, _, .lst h n m r => .lst (s _ _ n h) n m (RpAll.but s r)
  | _, _, _, .tup h n r => .tup (s _ _ n h) n (RpAll.but s r)
  | _, _, _, .dct h n r1 r2 e => .dct (s _ _ n h) n (RpAll.but s r1) (RpAll.but s r2) e
  | _, _, _, .emp h => .emp h
theorem RpAll.but (s : But p H H1) : ∀ {st : Bool} {ds : List PyData} {vs : List V}, RpAll K p H st vs ds → RpAll K p H1 st vs ds
  | _, _, _, .nil _ => .nil _
  | _, _, _, .cons a b => .cons (Rp.but s a) (RpAll.but s b)
end
mutual
theorem Rp.loose : ∀ {d : PyData} {v : V}, Rp K p H true v d → ∀ st, Rp K p H st v d
  | _, _, .non _, _ => .non _
  | _, _, .bl _ b, _ => .bl _ b
  | _, _, .int _ i, _ => .int _ i
  | _, _, .str _ z, _ => .str _ z
  | _, _, .lst h n m r, _ => .lst h n (fun _ => m (Bool.true_or _)) (RpAll.loose r _)
  | _, _, .tup h n r, _ => .tup h n (RpAll.loose r _)
  | _, _, .dct h n r1 r2 e, _ => .dct h n r1 r2 e
  | _, _, .emp h, _ => .emp h
theorem RpAll.loose : ∀ {b : Bool} {ds : List PyData} {vs : List V}, RpAll K p H (true || b) vs ds → ∀ st, RpAll K p H st vs ds
  | _, _, _, .nil _, _ => .nil _
  | _, _, _, .cons x y, _ => .cons (Rp.loose x _) (RpAll.loose (b := true) y _)
end
end
section
variable {K : PySem.W.Frag} {p : Addr} {H H1 : Hp}
theorem RpAll.len : ∀ {st : Bool} {ds : List PyData} {vs : List V}, RpAll K p H st vs ds → vs.length = ds.length
  | _, _, _, .nil _ => rfl
  | _, _, _, .cons _ b => by simp [RpAll.len b]
theorem RpAll.at : ∀ {st : Bool} {ds : List PyData} {vs : List V} {j : Nat} {v : V} {d : PyData}, RpAll K p H st vs ds → vs[j]? = some v → ds[j]? = some d → Rp K p H st v d
  | _, _, _, _, _, _, .nil _, h, _ => by simp at h
  | _, _, _, 0, _, _, .cons a _, h, e => by
    simp at h e
    exact h ▸ e ▸ a
  | _, _, _, j + 1, _, _, .cons _ b, h, e => RpAll.at (j := j) b (by simpa using h) (by simpa using e)
theorem Rp.loose2 {st : Bool} {v : V} {d : PyData} (h : Rp K p H st v d) : Rp K p H false v d := by
  cases st with
  | true => exact h.loose _
  | false => exact h
end
theorem pairs_keys {P : Program} {w : World} : ∀ {es : List DictEntry} {kvs : List (Key × V)} {rs : List (Key × Value)}, KV kvs rs → Pairs (mixKind P w) es rs → Vals (kvs.map fun e => kV e.1) (es.map (·.key)) ∧ Vals (kvs.map (·.2)) (es.map (·.val))
  | _, _, _, .nil, .nil => ⟨.nil, .nil⟩
  | _, (k, v) :: _, _, .cons r t, .cons h1 h2 h3 => by
    obtain ⟨a, b⟩ := pairs_keys t h3
    obtain ⟨e1, rv⟩ := r
    refine ⟨.cons ?_ a, .cons (h2.symm ▸ rv : L2.RelV v (DictEntry.val _)) b⟩
    show L2.RelV (kV k) _
    rw [mixKind_is, ← e1] at h1
    rcases keyIs_shape h1 with ⟨i, t, e2, e3⟩ | ⟨x, t, e2, e3⟩
    · subst e2
      exact ⟨t, e3⟩
    · subst e2
      exact ⟨t, e3⟩
section
variable {X : Cx} {pins : List (Addr × Obj)} {σ : L2.St} {p : Addr} {H : Hp} {s : Shared}
theorem zip_fst {α β : Type} : ∀ {l : List α} {r : List β}, l.length = r.length → (l.zip r).map (·.1) = l
  | [], _, _ => by simp
  | _ :: _, [], h => by simp at h
  | a :: l, b :: r, h => by simp [zip_fst (l := l) (r := r) (by simpa using h)]
theorem zip_snd {α β : Type} : ∀ {l : List α} {r : List β}, l.length = r.length → (l.zip r).map (·.2) = r
  | [], r, h => by cases r with | nil => rfl | cons _ _ => simp at h
  | _ :: _, [], h => by simp at h
  | a :: l, b :: r, h => by simp [zip_snd (l := l) (r := r) (by simpa using h)]
theorem or_split {a b : Bool} (h : (a || b) = true) : a = true ∨ b = true := by
  cases a with
  | true => exact .inl rfl
  | false => exact .inr h
mutual
theorem Rp.reads (I : Inv X pins σ H s) : ∀ {st : Bool} {d : PyData} {v : V} {u : Value}, Rp X.K p H st v d → RelV v u → ∃ as, Reads s.heap u d as ∧ ((st || d.hasDict) = true → sysModules ∉ as)
  | _, _, _, _, .non _, r => by
    cases r
    exact ⟨_, Reads.none, fun _ => by simp⟩
  | _, _, _, _, .bl _ b, r => by
    cases r
    exact ⟨_, Reads.bool b, fun _ => by simp⟩
  | _, _, _, _, .int _ i, r => by
    obtain ⟨t, rfl⟩ := r
    exact ⟨_, Reads.int i t, fun _ => by simp⟩
  | _, _, _, _, .str _ z, r => by
    obtain ⟨t, rfl⟩ := r
    exact ⟨_, Reads.str z t, fun _ => by simp⟩
  | _, _, _, _, .lst h n m q, r => by
    cases r
    obtain ⟨its, rv, ⟨o, k, ho, hc, _, hd⟩, _⟩ := I.list (SqL.of h : SqL X.K H _ _)
    obtain ⟨as, q1, q2⟩ := RpAll.reads I q rv
    refine ⟨_, Reads.list ho hc hd q1, fun e => ?_⟩
    simp only [PyData.hasDict] at e
    rw [List.mem_cons]
    rintro (z | z)
    · exact m e z.symm
    · exact q2 e z
  | _, _, _, _, .tup h n q, r => by
    cases r
    obtain ⟨its, rv, ⟨o, ho, hc, k, hd⟩, _⟩ := I.tuple (SqT.of h : SqT X.K H _ _)
    obtain ⟨as, q1, q2⟩ := RpAll.reads I q rv
    refine ⟨_, Reads.tuple ho hc hd q1, fun e => ?_⟩
    simp only [PyData.hasDict] at e
    exact q2 e
  | _, _, _, _, .dct h n k1 k2 el, r => by
    cases r
    obtain ⟨_, ns, rs, rk, o, es, ep, ho, hx, hd, _, hp, _⟩ := dk_of I.hok h
    obtain ⟨v1, v2⟩ := pairs_keys rk hp
    obtain ⟨as, q1, q2⟩ := RpAll.reads I k1 v1
    obtain ⟨bs, q3, q4⟩ := RpAll.reads I k2 v2
    refine ⟨_, Reads.dict ho hx.1 hd (by rw [zip_fst el]; exact q1) (by rw [zip_snd el]; exact q3), fun _ => ?_⟩
    rw [List.cons_append, List.mem_cons, List.mem_append]
    rintro (e | m | m)
    · rw [← e] at ns
      exact absurd ns (by decide)
    · exact q2 rfl m
    · exact q4 rfl m
  | _, _, _, _, .emp h, r => by
    cases r
    obtain ⟨its, rv, ⟨o, ho, hc, k, hd⟩, _⟩ := I.tuple (h.sq : SqT X.K H _ _)
    cases rv
    exact ⟨_, Reads.tuple ho hc hd ReadsAll.nil, fun _ => by simp⟩
theorem RpAll.reads (I : Inv X pins σ H s) : ∀ {st : Bool} {ds : List PyData} {vs : List V} {us : List Value}, RpAll X.K p H st vs ds → Vals vs us → ∃ as, ReadsAll s.heap us ds as ∧ (st = true → sysModules ∉ as)
  | _, _, _, _, .nil _, r => by
    cases r
    exact ⟨_, ReadsAll.nil, fun _ => by simp⟩
  | st, _, _, _, .cons a b, r => by
    cases r with
    | cons r1 r2 =>
      obtain ⟨as, q1, q2⟩ := Rp.reads I a r1
      obtain ⟨bs, q3, q4⟩ := RpAll.reads I b r2
      exact ⟨_, ReadsAll.cons q1 q3, fun e z => (List.mem_append.mp z).elim (q2 (by rw [e, Bool.true_or])) (q4 e)⟩
end
/-- repr(x) of data, no repr under way -/
def qReprD (K : PySem.W.Frag) : List V → Hp → VK → Prop := fun xs H Q => ∃ x d p, xs = [x] ∧ Rp K p H false x d ∧ d.showable = true ∧ d.shown.length ≤ sizeLine ∧ d.depth ≤ 60 ∧ Q (.str d.shown) H
theorem call_reprD (g : X.A.guards = some []) (hu : X.A.units + 64 < cLine) : CallR X (.builtin "repr") (qReprD X.K) := by
  intro pins s σ H xs us Q I r h
  obtain ⟨x, d, p, rfl, hd, h1, h3, h4, q⟩ := h
  obtain ⟨u, rfl, rx⟩ := vals1 r
  obtain ⟨as, rd, nos⟩ := Rp.reads I hd rx
  rw [Bool.false_or] at nos
  have fin : ∀ (h' : Heap) (t : Tok) (tk : Nat), (∀ b o, s.heap.get? b = some o → h'.get? b = some o) → EP X pins σ Q (.str d.shown t) { s with heap := h', toks := tk } := by
    intro h' t tk hk
    exact ⟨.str d.shown, H, I.kept (t' := tk) hk, ⟨t, rfl⟩, q⟩
  have big : ∀ a, u = .ref a → wpAny (model X.prog X.w) X.A (call (.builtin "repr") [u]) (EP X pins σ Q) X.xe s := by
    rintro a rfl
    exact repr_of_reads' rd h1 nos g (by omega) (fun _ _ z => z) (fun h' t tk hk => fin h' t tk hk) h3
  cases hd with
  | non =>
    cases rx
    exact PySem.P.repr_of_none (fin _ _ _ fun _ _ z => z)
  | bl _ b =>
    cases rx
    exact PySem.P.repr_of_bool (fin _ _ _ fun _ _ z => z)
  | int _ i =>
    obtain ⟨t, rfl⟩ := rx
    exact PySem.P.repr_of_int (by simpa [PyData.showable] using h1) (fin _ _ _ fun _ _ z => z)
  | str _ z =>
    obtain ⟨t, rfl⟩ := rx
    exact PySem.P.repr_of_str (fin _ _ _ fun _ _ z => z) (by simpa only [PyData.shown] using h3)
  | lst _ _ _ _ => exact big _ rx
  | tup _ _ _ => exact big _ rx
  | dct _ _ _ _ _ => exact big _ rx
  | emp _ => exact big _ rx
/-! ### kinds of data -/
def tyName : PyData → String
  | .none => "NoneType" | .bool _ => "bool" | .int _ => "int" | .str _ => "str" | .list _ => "list" | .tuple _ => "tuple" | .dict _ => "dict"
theorem Rp.ty {K : PySem.W.Frag} {st : Bool} {d : PyData} {v : V} (h : Rp K p H st v d) : TyX K H v (.type (tyName d)) := by
  cases h with
  | non => exact .base .non
  | bl _ b => exact .base (.bl b)
  | int _ i => exact .base (.int i)
  | str _ z => exact .base (.str z)
  | lst h _ _ _ => exact .base (.lst h)
  | tup h _ _ => exact .base (.tup h)
  | dct h _ _ _ _ => exact .base (.dK h)
  | emp h =>
    obtain ⟨o, n, h1, h2, _⟩ := h.ex
    exact .kTuple h1 h2
def isStrD : PyData → Bool | .str _ => true | _ => false
def isTupD : PyData → Bool | .tuple _ => true | _ => false
def isSeqD : PyData → Bool | .tuple _ => true | .list _ => true | _ => false
theorem kit_str {K : PySem.W.Frag} (d : PyData) : PySem.W.kitOne K (.type (tyName d)) (.type "str") = some (isStrD d) := by
  cases d
  · exact kit_ty (show kitB "NoneType" "str" = some false by decide +kernel)
  · exact kit_ty (show kitB "bool" "str" = some false by decide +kernel)
  · exact kit_ty (show kitB "int" "str" = some false by decide +kernel)
  · exact kit_ty (show kitB "str" "str" = some true by decide +kernel)
  · exact kit_ty (show kitB "list" "str" = some false by decide +kernel)
  · exact kit_ty (show kitB "tuple" "str" = some false by decide +kernel)
  · exact kit_ty (show kitB "dict" "str" = some false by decide +kernel)
theorem kit_tup {K : PySem.W.Frag} (d : PyData) : PySem.W.kitOne K (.type (tyName d)) (.type "tuple") = some (isTupD d) := by
  cases d
  · exact kit_ty (show kitB "NoneType" "tuple" = some false by decide +kernel)
  · exact kit_ty (show kitB "bool" "tuple" = some false by decide +kernel)
  · exact kit_ty (show kitB "int" "tuple" = some false by decide +kernel)
  · exact kit_ty (show kitB "str" "tuple" = some false by decide +kernel)
  · exact kit_ty (show kitB "list" "tuple" = some false by decide +kernel)
  · exact kit_ty (show kitB "tuple" "tuple" = some true by decide +kernel)
  · exact kit_ty (show kitB "dict" "tuple" = some false by decide +kernel)
theorem Rp.tupS {K : PySem.W.Frag} {st : Bool} {v : V} {ds : List PyData} (h : Rp K p H st v (.tuple ds)) : ∃ a xs st2, v = .ref a ∧ SqT K H a xs ∧ RpAll K p H st2 xs ds := by
  cases h with
  | tup ha _ r => exact ⟨_, _, _, rfl, SqT.of ha, r⟩
  | emp h => exact ⟨_, [], st, rfl, h.sq, .nil _⟩
end
end My
end
section
set_option Elab.async false
set_option linter.all false
set_option maxRecDepth 100000
set_option maxHeartbeats 2000000
namespace My
open PySem PySem.Spec PyProof.Rows L2
/-- what a caller wants of a def that stands at module level -/
structure Def (K : PySem.W.Frag) (mg : Str → Option Value) (x : Str) (f : Addr) (fd : FuncData) (ps : List Str) : Prop where
  mgf : mg x = some (.ref f)
  kp : PySem.W.keepIn K (.ref f) = true
  bd : Binds K fd ps []
/-- built-ins that the module does not give another meaning -/
structure TB (mg : Str → Option Value) : Prop where
  int : mg "int" = none
  len : mg "len" = none
  abs : mg "abs" = none
  list : mg "list" = none
  tuple : mg "tuple" = none
  str : mg "str" = none
  set : mg "set" = none
  all : mg "all" = none
  isi : mg "isinstance" = none
  repr : mg "repr" = none
  range : mg "range" = none
/-- texts that are not too long, at any depth -/
def textFits (n : Nat) : PyData → Prop
  | .str z => z.length ≤ n
  | _ => True
/-- whether a value is one of the signs -/
def signD (S : Str) : PyData → Bool
  | .str z => decide (z.length = 1) && z.cps.toList.all fun c => decide (c ∈ S.cps.toList)
  | _ => false
/-- whether a value is a text of different ones of the signs -/
def setD (S : Str) : PyData → Bool
  | .str z => decide z.cps.toList.Nodup && z.cps.toList.all fun c => decide (c ∈ S.cps.toList)
  | _ => false
theorem signD_str (S z : Str) : signD S (.str z) = (decide (z.length = 1) && z.cps.toList.all fun c => decide (c ∈ S.cps.toList)) := rfl
theorem setD_str (S z : Str) : setD S (.str z) = (decide z.cps.toList.Nodup && z.cps.toList.all fun c => decide (c ∈ S.cps.toList)) := rfl
theorem mem_signs {z : Str} {x : V} (h : x ∈ signs z) : ∃ c, c ∈ z.cps.toList ∧ x = .str ⟨#[c]⟩ := by
  obtain ⟨c, h1, h2⟩ := List.mem_map.mp h
  exact ⟨c, h1, h2.symm⟩
theorem kit_list {K : PySem.W.Frag} (d : PyData) : PySem.W.kitOne K (.type (tyName d)) (.type "list") = some (match d with | .list _ => true | _ => false) := by
  cases d
  · exact kit_ty (show kitB "NoneType" "list" = some false by decide +kernel)
  · exact kit_ty (show kitB "bool" "list" = some false by decide +kernel)
  · exact kit_ty (show kitB "int" "list" = some false by decide +kernel)
  · exact kit_ty (show kitB "str" "list" = some false by decide +kernel)
  · exact kit_ty (show kitB "list" "list" = some true by decide +kernel)
  · exact kit_ty (show kitB "tuple" "list" = some false by decide +kernel)
  · exact kit_ty (show kitB "dict" "list" = some false by decide +kernel)
theorem kit_seq {K : PySem.W.Frag} (d : PyData) : PySem.W.kitAny K (.type (tyName d)) [.type "list", .type "tuple"] = some (isSeqD d) := by
  refine kitAny_cons (kit_list d) (fun h => kitAny_cons (kit_tup d) (fun h2 => ?_) fun h2 => ?_) fun h => ?_
  · rw [kitAny_nil]
    cases d <;> first | rfl | exact absurd (show true = false from h) (by decide) | exact absurd (show true = false from h2) (by decide)
  · cases d <;> first | rfl | exact absurd (show false = true from h2) (by decide)
  · cases d <;> first | rfl | exact absurd (show false = true from h) (by decide)
theorem one_sign {z : Str} (h : z.length = 1) : ∃ c, z = ⟨#[c]⟩ := by
  obtain ⟨⟨l⟩⟩ := z
  have h' : l.length = 1 := h
  obtain ⟨c, rfl⟩ := List.length_eq_one_iff.mp h'
  exact ⟨c, rfl⟩
/-! ### promises of the program's helpers -/
def sp_isSign (K : PySem.W.Frag) : Sp := fun vs H Q _ => ∃ (S : Str) (v : V) (d : PyData) (p : Addr), vs = [.str S, v] ∧ Rp K p H false v d ∧ textFits sizeLine d ∧ Q (.bl (signD S d)) H
def sp_isSet (K : PySem.W.Frag) : Sp := fun vs H Q _ => ∃ (S : Str) (v : V) (d : PyData) (p : Addr), vs = [.str S, v] ∧ Rp K p H false v d ∧ textFits 4000 d ∧ ∀ H', Same H H' → Q (.bl (setD S d)) H'
def alphabet : Str := "0123456789abcdefghijklmnopqrstuvwxyz"
/-- whether a value is the signs of a font -/
def fontD (d : PyData) : Bool := match d with
  | .str z => decide (2 ≤ z.length ∧ z.length ≤ 10) && setD alphabet (.str z)
  | _ => false
theorem fontD_str (z : Str) : fontD (.str z) = (decide (2 ≤ z.length ∧ z.length ≤ 10) && setD alphabet (.str z)) := rfl
def sp_isFont (K : PySem.W.Frag) : Sp := fun vs H Q _ => ∃ (v : V) (d : PyData) (p : Addr), vs = [v] ∧ Rp K p H false v d ∧ textFits 4000 d ∧ ∀ H', Same H H' → Q (.bl (fontD d)) H'
/-- a class whose values are read off it -/
structure ClassV (K : PySem.W.Frag) (C : Addr) (f : Str) (v : V) : Prop where
  ok : ∃ mc u, ClX.CRead K C mc ∧ ClX.CVal K C mc f v u
/-! ### comprehensions whose parts change nothing that is tracked -/
theorem walk_signs {z : Str} : Walk (Its z) (signs z).length (fun _ => True) (YAt (signs z)) := by
  have e : (signs z).length = z.cps.size := by rw [signs_len]; rfl
  rw [e]
  refine ⟨fun _ _ hi _ => hi, fun _ _ => Nat.le_refl _, fun i H x H' hi _ y => ?_⟩
  obtain ⟨e1, c, hc, e2⟩ := y
  refine ⟨e1, ?_⟩
  unfold signs
  rw [List.getElem?_map, Array.getElem?_toList, hc, e2]
  rfl
theorem lc_ff {J : It} {xs : List V} {G : Hp → Prop} (w : Walk J xs.length G (YAt xs)) {i : Nat} {tt : TT} {te : TE} {vs : List Nat} {σ : L2.St} {H1 : Hp} {D : Addr} {Qd : Hp → Prop} (p : V → Bool) (f : V → V) (free : H1 D = none)
    (hG : ∀ H', Same H1 H' → G H') (small : xs.length < sizeLine) (hw : ∀ x, wipe ((wipe σ vs).set i (some x)) vs = wipe σ vs)
    (ht : ∀ x H' (C : Bool → Hp → Prop), x ∈ xs → Same H1 H' → (∀ H3, Same H' H3 → C (p x) H3) → tt ((wipe σ vs).set i (some x)) H' C)
    (he : ∀ x H' (C : VK), x ∈ xs → p x = true → Same H1 H' → (∀ H4, Same H' H4 → C (f x) H4) → te ((wipe σ vs).set i (some x)) H' C)
    (hd : ∀ H', Same H1 H' → H' D = some (.lst ((xs.filter p).map f)) → Qd H') :
    ∃ W : Nat → Nat → Hp → Prop, (∃ m, W 0 m (upd H1 D (.lst []))) ∧ ∀ j m H, W j m H →
      (J.stop j H ∧ Qd H) ∨ (J.go j H ∧ ∃ Nx : Hp → Prop, (∀ H', Nx H' → ∃ m', m' < m ∧ W (j + 1) m' H') ∧ ∀ x H', J.yld j H x H' → gName i x (wipe σ vs) H' fun σ2 H2 => wipe σ2 vs = wipe σ vs ∧ tt σ2 H2 fun b H3 =>
        if b = true then te σ2 H3 fun y H4 => ∃ acc, H4 D = some (.lst acc) ∧ acc.length < sizeLine ∧ Nx (upd H4 D (.lst (acc ++ [y]))) else Nx H3) := by
  refine lc_it w (fun j H' => Same H1 H' ∧ H' D = some (.lst (((xs.take j).filter p).map f))) ⟨Same.wr (Same.refl H1) free .mk', upd_same⟩ (fun j H' _ q => hG H' q.1) ?_ ?_
  · rintro j x H2 H3 hj ⟨s, hD⟩ ⟨rfl, hx⟩
    have mem : x ∈ xs := List.mem_of_getElem? hx
    have nx : xs.take (j + 1) = xs.take j ++ [x] := by
      rw [List.take_add_one, hx]
      rfl
    refine ⟨hw x, ht x H3 _ mem s fun H4 s4 => ?_⟩
    have hD4 := s4 _ _ hD
    cases hp : p x with
    | true =>
      rw [if_pos rfl]
      refine he x H4 _ mem hp (s.trans s4) fun H5 s5 => ⟨_, s5 _ _ hD4, ?_, ?_, ?_⟩
      · rw [List.length_map]
        have h1 : ((xs.take j).filter p).length ≤ (xs.take j).length := List.length_filter_le _ _
        have h2 : (xs.take j).length ≤ xs.length := by rw [List.length_take]; omega
        omega
      · exact Same.wr ((s.trans s4).trans s5) free .mk'
      · rw [upd_same, nx, List.filter_append, List.map_append]
        simp [hp]
    | false =>
      rw [if_neg Bool.false_ne_true]
      refine ⟨s.trans s4, ?_⟩
      rw [hD4, nx, List.filter_append]
      simp [hp]
  · rintro H' ⟨s, hD⟩
    rw [List.take_length] at hD
    exact hd H' s hD
end My
end
section
set_option Elab.async false
set_option linter.all false
set_option maxRecDepth 100000
set_option maxHeartbeats 4000000
/-! A1D: draws of great numbers. -/
namespace My
open PySem PySem.Spec PyProof.Rows L2
/-- a number from 0 to m - 1, m at most B, in at most d draws -/
def sp_drawB (B : Int) (d : Nat) : Sp := fun vs H Q _ => ∃ (p c : Addr) (m : Int) (n : Nat), vs = [.ref p, .int m] ∧ PenAt H p c n ∧ n + d < 2 ^ 60 ∧ 0 < m ∧ m ≤ B ∧ ∀ H' r, DrewP H p c (n + d) H' → 0 ≤ r → r < m → Q (.int r) H'
section
variable {P : Program} {w : World} {K : PySem.W.Frag} {mg : Str → Option Value} {base : Heap}
theorem ok_drawS {f : Addr} {fd : FuncData} {B B' : Int} {d j : Nat} (F : Fun K "_law_draw" "_law_draw" s_draw f fd) (T : TDraw mg) (hB : B ≤ 2 ^ 190) (hB' : B' ≤ 2 ^ 190) (hs : ∀ m : Int, 60000000 < m → m ≤ B' → 0 < m / 60000000 + 1 ∧ m / 60000000 + 1 ≤ B)
    (D : Def K mg "_law_draw" f fd ["_law_pen_here", "_law_many"]) (G : FnOk P w K mg base CX0 j f fd ["_law_pen_here", "_law_many"] (sp_drawB B d)) :
    FnOk P w K mg base CX0 (j + 1) f fd ["_law_pen_here", "_law_many"] (sp_drawB B' (d + 1)) := by
  refine F.ok sc_draw (fun vs H Q E h => ?_) (fun cdv A outer s H vs Q E hr h => ?_)
  · obtain ⟨a, c, m, n, rfl, _⟩ := h
    rfl
  · obtain ⟨p, c, m, n, rfl, hP, hn, hm0, hm1, k⟩ := h
    have hu : (A.deeper (envOfC "_law_draw" (defScope s_draw) s.heap.objs.size f cdv)).units + 1 < cLine := by have := hr.un; omega
    refine ⟨_, pss_cons (ps_if (pt_cmpR op_gt (pe_dget hu (pv 0) pe_str (fun _ _ => rfl)) pe_int (nomark _))
        (pss_cons (ps_set (i := 2) sc_draw.nd rfl (Or.inl rfl) (pe_op op_modN (pe_callTy call_int1 (by rfl) T.int (by decide +kernel) (pa_cons (pe_dget hu (pv 0) pe_str (fun _ _ => rfl)) pa_nil)) (pv 1)))
        (pss_cons (ps_dput hu (pv 0) pe_str (pe_op op_fdivW (pe_dget hu (pv 0) pe_str (fun _ _ => rfl)) (pv 1)) rfl)
        (pss_one (ps_ret (pv 2))))) pss_nil)
      (pss_cons (ps_set (i := 3) sc_draw.nd rfl (Or.inl rfl) (pe_dget hu (pv 0) pe_str (fun _ _ => rfl)))
      (pss_cons (ps_dput hu (pv 0) pe_str (pe_op op_add (pv 3) pe_int) rfl)
      (pss_cons (ps_set (i := 4) sc_draw.nd rfl (Or.inl rfl) (pe_op op_add (pe_op op_mul pe_int (pv 3)) pe_int))
      (pss_cons (ps_if (pt_cmpR (op_neNil hr.units0) (pe_dget hu (pv 0) pe_str (fun _ _ => rfl)) (pe_lst' pa_nil) (nomark _))
        (pss_one (ps_set (i := 4) sc_draw.nd rfl (Or.inl rfl) (pe_ix ix_list (pe_dget hu (pv 0) pe_str (fun _ _ => rfl)) (pe_op op_modN (pe_callTy call_int1 (by rfl) T.int (by decide +kernel) (pa_cons (pv 3) pa_nil))
          (pe_callB call_len_seq (by rfl) T.len PySem.boot_len (pa_cons (pe_dget hu (pv 0) pe_str (fun _ _ => rfl)) pa_nil))) (fun _ _ => rfl)))) pss_nil)
      (pss_cons (ps_if (PW.pt (pw_and (pt_cmpR op_lt (pv 3) (pe_callB call_len_seq (by rfl) T.len PySem.boot_len (pa_cons (pe_dget hu (pv 0) pe_str (fun _ _ => rfl)) pa_nil)) (nomark _))
          (pw_and1 (pt_cmpR op_ge (pe_callB call_abs (by rfl) T.abs (by decide +kernel) (pa_cons (pv 4) pa_nil)) (pe_op op_pow pe_int pe_int) (nomark _)))))
        (pss_cons (ps_dput hu (pv 0) pe_str (pe_op op_fdivW (pe_op op_sub (pe_callB call_abs (by rfl) T.abs (by decide +kernel) (pa_cons (pv 4) pa_nil)) (pe_op op_pow pe_int pe_int)) (pv 1)) rfl)
        (pss_one (ps_ret (pe_op op_modN (pe_op op_sub (pe_callB call_abs (by rfl) T.abs (by decide +kernel) (pa_cons (pv 4) pa_nil)) (pe_op op_pow pe_int pe_int)) (pv 1))))) pss_nil)
      (pss_cons (ps_set (i := 5) sc_draw.nd rfl (Or.inl rfl) (pe_op op_add (pe_op op_mulW (pe_op op_modN (pe_callTy call_int1 (by rfl) T.int (by decide +kernel) (pa_cons (pv 4) pa_nil)) pe_int) pe_int) (pe_op op_mulW (pe_op op_mulW pe_int (pv 3)) (pv 3))))
      (pss_cons (ps_set (i := 5) sc_draw.nd rfl (Or.inl rfl) (pe_op op_modN (pe_callTy call_int1 (by rfl) T.int (by decide +kernel) (pa_cons (pe_op op_add (pe_op op_add (pv 5) (pe_op op_mulW pe_int (pv 3))) pe_int) pa_nil)) pe_int))
      (pss_cons (ps_set (i := 5) sc_draw.nd rfl (Or.inl rfl) (pe_op op_modN (pe_callTy call_int1 (by rfl) T.int (by decide +kernel) (pa_cons (pe_op op_add (pe_op op_add (pe_op op_add (pe_op op_mulW (pv 5) (pv 5)) (pe_op op_mulW pe_int (pv 5))) (pe_op op_mulW pe_int (pv 3))) pe_int) pa_nil)) pe_int))
      (pss_cons (ps_set (i := 5) sc_draw.nd rfl (Or.inl rfl) (pe_op op_fdivW (pe_op op_modN (pe_callTy call_int1 (by rfl) T.int (by decide +kernel) (pa_cons (pe_op op_mulW (pv 5) (pe_op op_add (pv 5) pe_int)) pa_nil)) pe_int) pe_int))
      (pss_cons (ps_if (pt_cmpR op_gt (pv 1) pe_int (nomark _)) (pss_one (ps_set (i := 5) sc_draw.nd rfl (Or.inl rfl) (pe_op op_add (pv 5) (pe_op op_mulW pe_int (pe_call G hr rfl D.mgf D.kp D.bd .nil pass0 (pa_cons (pv 0) (pa_cons (pe_op op_add (pe_op op_fdivW (pv 1) pe_int) pe_int) pa_nil))))))) pss_nil)
      (pss_one (ps_ret (pe_op op_modN (pe_callTy call_int1 (by rfl) T.int (by decide +kernel) (pa_cons (pv 5) pa_nil)) (pv 1)))))))))))))), ?_⟩
    obtain ⟨cs, u, l, h1, h2, hu0, hun, hc⟩ := hP
    have hdiv : CDivW 0 m := wide_div hm0 (b := 200) (by omega) (by decide) (by decide)
    refine ⟨_, rfl, p, _, rfl, dget_left h1, _, _, rfl, rfl, _, rfl, ite2 (fun hl => ?_) (fun hl => ?_)⟩
    · refine ⟨_, rfl, p, _, rfl, dget_left h1, .inl ⟨_, rfl, _, rfl, _, _, rfl, rfl, (by omega), ?_⟩⟩
      refine ⟨_, rfl, p, _, rfl, dget_left h1, _, rfl, _, _, rfl, rfl, hdiv, _, rfl, p, _, rfl, dput_left h1, ?_⟩
      refine ⟨_, rfl, k _ _ ⟨Wr.mk'.but, cs, u, _, upd_same, ?_, hu0, by omega, hc⟩ (fmod_bounds _ hm0).1 (fmod_bounds _ hm0).2⟩
      rw [upd_ne (ne_of h2 h1 (by intro z; cases z))]
      exact h2
    · refine ⟨_, rfl, p, _, rfl, dget_used h1, ?_⟩
      refine ⟨_, rfl, _, _, rfl, rfl, _, rfl, p, _, rfl, dput_used h1, ?_⟩
      have hpc : c ≠ p := ne_of h2 h1 (by intro z; cases z)
      have w1 : Wr H p (.dK (penK c (u + 1) l)) (upd H p (.dK (penK c (u + 1) l))) := .mk'
      generalize upd H p (HO.dK (penK c (u + 1) l)) = H1 at w1 ⊢
      have g2 : H1 c = some (.lst (cs.map V.int)) := (w1.els c hpc).trans h2
      have hu62 : 0 ≤ u ∧ u < 2 ^ 60 := ⟨hu0, by omega⟩
      refine ⟨_, rfl, _, _, rfl, rfl, .inl (by decide), _, _, rfl, rfl, ?_⟩
      refine ⟨_, rfl, p, _, rfl, dget_cells w1.here, by decide, fun q H2 n2 => ⟨c, q, _, rfl, rfl, SqL.of (n2.same _ _ g2), n2.here, _, rfl, ?_⟩⟩
      have i1 := n2.same _ _ w1.here
      have i2 := n2.same _ _ g2
      have hD : ∀ H3, Same H1 H3 → DrewP H p c (n + 1) H3 := fun H3 s3 => ⟨w1.but.trans (.of s3), cs, u + 1, l, s3 _ _ w1.here, s3 _ _ g2, by omega, by omega, hc⟩
      have sq : Same H1 H2 := n2.same
      have hcl : (cs.map V.int).length = cs.length := List.length_map _
      have hle : ∀ z : Int, 0 ≤ z.fmod m ∧ z.fmod m < m := fun z => fmod_bounds z hm0
      have hD1 : ∀ H3, Same H1 H3 → DrewP H p c (n + (d + 1)) H3 := fun H3 s3 => (hD H3 s3).mono (by omega)
      refine ite2 (fun hb => ?_) (fun hb => ?_)
      · have hpos : 0 < cs.length := by
          cases cs with
          | nil => simp at hb
          | cons _ _ => simp
        obtain ⟨h0, h9⟩ := fmod_bounds u (m := ((cs.map V.int).length : Int)) (by rw [hcl]; omega)
        obtain ⟨j, hj⟩ : ∃ j : Nat, u.fmod ((cs.map V.int).length : Int) = j := ⟨_, (Int.toNat_of_nonneg h0).symm⟩
        have hjl : j < cs.length := by rw [hj, hcl] at h9; omega
        refine ⟨_, rfl, p, _, rfl, dget_cells i1, _, rfl, .inl ⟨_, rfl, _, rfl, p, _, rfl, dget_cells i1, c, _, rfl, .inl (SqL.of i2), _, _, rfl, rfl, (by rw [hcl]; omega), c, _, _, V.int cs[j], rfl, rfl, SqL.of i2, ?_, ?_⟩⟩
        · rw [hj, atI_nat]
          simp [hjl]
        generalize cs[j] = cell
        clear hj h0 h9 hjl hpos
        revert cell
        intro cell
        have pw : CPow 10 18 := ⟨by decide, by decide, by decide⟩
        have last : ∀ (b : Int) (H3 : Hp), Same H1 H3 → True := fun _ _ _ => trivial
        refine ⟨_, rfl, _, rfl, p, _, rfl, dget_cells i1, c, _, rfl, .inl (SqL.of i2), _, _, rfl, rfl, _, rfl, ?_⟩
        refine ite2 (fun hlt => ?_) (fun hlt => ?_)
        · refine ⟨_, rfl, _, rfl, _, _, rfl, rfl, pw, _, _, rfl, rfl, _, rfl, ?_⟩
          refine ite2 (fun hge => ?_) (fun hge => ?_)
          · refine ⟨_, rfl, _, rfl, _, _, rfl, rfl, pw, _, _, rfl, rfl, _, rfl, _, _, rfl, rfl, hdiv, _, rfl, p, _, rfl, dput_left i1, ?_⟩
            refine ⟨_, rfl, _, rfl, _, _, rfl, rfl, pw, _, _, rfl, rfl, _, rfl, _, _, rfl, rfl, (by omega), ?_⟩
            refine k _ _ ⟨(hD _ sq).but.trans Wr.mk'.but, cs, u + 1, _, upd_same, ?_, by omega, by omega, hc⟩ (hle _).1 (hle _).2
            rw [upd_ne hpc]
            exact i2
          · refine ⟨_, rfl, .inl ⟨_, rfl, _, _, rfl, rfl, (show (4294967231 : Int) ≠ 0 by decide), _, _, rfl, rfl, ?_, _, rfl, _, _, rfl, rfl, ?_, _, rfl, _, _, rfl, rfl, ?_, _, _, rfl, rfl, ?_⟩⟩
            · have := fmod_bounds cell (m := 4294967231) (by decide)
              exact cmul200 (by omega) (by decide)
            · exact cmul200 (by decide) (by omega)
            · exact cmul200 (by omega) (by omega)
            dsimp only
            generalize cell.fmod 4294967231 * 1103515 + 30011 * u * u = b1
            refine ⟨_, rfl, _, rfl, _, _, rfl, rfl, ?_, _, _, rfl, rfl, _, _, rfl, rfl, .inl ⟨_, rfl, _, _, rfl, rfl, (by intro z; cases z), ?_⟩⟩
            · exact cmul200 (by decide) (by omega)
            obtain ⟨g1, g3⟩ := fmod_bounds (b1 + 178481 * u + 23) (m := 4294967197) (by decide)
            dsimp only
            generalize (b1 + 178481 * u + 23).fmod 4294967197 = b2 at g1 g3 ⊢
            refine ⟨_, rfl, _, rfl, _, _, rfl, rfl, ?_, _, rfl, _, _, rfl, rfl, ?_, _, _, rfl, rfl, _, rfl, _, _, rfl, rfl, ?_, _, _, rfl, rfl, _, _, rfl, rfl, .inl ⟨_, rfl, _, _, rfl, rfl, (by intro z; cases z), ?_⟩⟩
            · exact cmul200 (by omega) (by omega)
            · exact cmul200 (by decide) (by omega)
            · exact cmul200 (by decide) (by omega)
            obtain ⟨g4, g5⟩ := fmod_bounds (b2 * b2 + 16769023 * b2 + 5 * u + 7) (m := 4294967189) (by decide)
            dsimp only
            generalize (b2 * b2 + 16769023 * b2 + 5 * u + 7).fmod 4294967189 = b3 at g4 g5 ⊢
            refine ⟨_, rfl, _, rfl, _, _, rfl, rfl, _, _, rfl, rfl, ?_, .inl ⟨_, rfl, _, _, rfl, rfl, (by intro z; cases z), _, _, rfl, rfl, ?_, ?_⟩⟩
            · exact cmul200 (by omega) (by omega)
            · exact wide_div (by decide) (b := 30) (by decide) (by decide) (by decide)
            refine ⟨_, rfl, _, _, rfl, rfl, _, rfl, ?_⟩
            refine ite2 (fun hgt => ?_) (fun _ => ?_)
            · have hm := hs m (of_decide_eq_true hgt) hm1
              refine ⟨_, rfl, _, rfl, _, rfl, _, _, rfl, rfl, wide_div (by decide) (b := 30) (by decide) (by decide) (by decide), _, _, rfl, rfl, p, c, _, n + 1, rfl, (hD _ sq).pen, by omega, hm.1, hm.2, fun H4 r d4 r0 r1 => ?_⟩
              refine ⟨_, _, rfl, rfl, cmul200 (by decide) (by omega), _, _, rfl, rfl, ?_⟩
              refine ⟨_, rfl, .inl ⟨_, rfl, _, rfl, _, _, rfl, rfl, (by omega), ?_⟩⟩
              exact k _ _ (((hD _ sq).trans d4).mono (by omega)) (hle _).1 (hle _).2
            refine ⟨_, rfl, .inl ⟨_, rfl, _, rfl, _, _, rfl, rfl, (by omega), ?_⟩⟩
            exact k _ _ (hD1 _ sq) (hle _).1 (hle _).2
        · refine iteF ?_
          refine ⟨_, rfl, .inl ⟨_, rfl, _, _, rfl, rfl, (show (4294967231 : Int) ≠ 0 by decide), _, _, rfl, rfl, ?_, _, rfl, _, _, rfl, rfl, ?_, _, rfl, _, _, rfl, rfl, ?_, _, _, rfl, rfl, ?_⟩⟩
          · have := fmod_bounds cell (m := 4294967231) (by decide)
            exact cmul200 (by omega) (by decide)
          · exact cmul200 (by decide) (by omega)
          · exact cmul200 (by omega) (by omega)
          dsimp only
          generalize cell.fmod 4294967231 * 1103515 + 30011 * u * u = b1
          refine ⟨_, rfl, _, rfl, _, _, rfl, rfl, ?_, _, _, rfl, rfl, _, _, rfl, rfl, .inl ⟨_, rfl, _, _, rfl, rfl, (by intro z; cases z), ?_⟩⟩
          · exact cmul200 (by decide) (by omega)
          obtain ⟨g1, g3⟩ := fmod_bounds (b1 + 178481 * u + 23) (m := 4294967197) (by decide)
          dsimp only
          generalize (b1 + 178481 * u + 23).fmod 4294967197 = b2 at g1 g3 ⊢
          refine ⟨_, rfl, _, rfl, _, _, rfl, rfl, ?_, _, rfl, _, _, rfl, rfl, ?_, _, _, rfl, rfl, _, rfl, _, _, rfl, rfl, ?_, _, _, rfl, rfl, _, _, rfl, rfl, .inl ⟨_, rfl, _, _, rfl, rfl, (by intro z; cases z), ?_⟩⟩
          · exact cmul200 (by omega) (by omega)
          · exact cmul200 (by decide) (by omega)
          · exact cmul200 (by decide) (by omega)
          obtain ⟨g4, g5⟩ := fmod_bounds (b2 * b2 + 16769023 * b2 + 5 * u + 7) (m := 4294967189) (by decide)
          dsimp only
          generalize (b2 * b2 + 16769023 * b2 + 5 * u + 7).fmod 4294967189 = b3 at g4 g5 ⊢
          refine ⟨_, rfl, _, rfl, _, _, rfl, rfl, _, _, rfl, rfl, ?_, .inl ⟨_, rfl, _, _, rfl, rfl, (by intro z; cases z), _, _, rfl, rfl, ?_, ?_⟩⟩
          · exact cmul200 (by omega) (by omega)
          · exact wide_div (by decide) (b := 30) (by decide) (by decide) (by decide)
          refine ⟨_, rfl, _, _, rfl, rfl, _, rfl, ?_⟩
          refine ite2 (fun hgt => ?_) (fun _ => ?_)
          · have hm := hs m (of_decide_eq_true hgt) hm1
            refine ⟨_, rfl, _, rfl, _, rfl, _, _, rfl, rfl, wide_div (by decide) (b := 30) (by decide) (by decide) (by decide), _, _, rfl, rfl, p, c, _, n + 1, rfl, (hD _ sq).pen, by omega, hm.1, hm.2, fun H4 r d4 r0 r1 => ?_⟩
            refine ⟨_, _, rfl, rfl, cmul200 (by decide) (by omega), _, _, rfl, rfl, ?_⟩
            refine ⟨_, rfl, .inl ⟨_, rfl, _, rfl, _, _, rfl, rfl, (by omega), ?_⟩⟩
            exact k _ _ (((hD _ sq).trans d4).mono (by omega)) (hle _).1 (hle _).2
          refine ⟨_, rfl, .inl ⟨_, rfl, _, rfl, _, _, rfl, rfl, (by omega), ?_⟩⟩
          exact k _ _ (hD1 _ sq) (hle _).1 (hle _).2
      · dsimp only
        generalize 43 * u + 7 = cell
        revert cell
        intro cell
        have pw : CPow 10 18 := ⟨by decide, by decide, by decide⟩
        have last : ∀ (b : Int) (H3 : Hp), Same H1 H3 → True := fun _ _ _ => trivial
        refine ⟨_, rfl, _, rfl, p, _, rfl, dget_cells i1, c, _, rfl, .inl (SqL.of i2), _, _, rfl, rfl, _, rfl, ?_⟩
        refine ite2 (fun hlt => ?_) (fun hlt => ?_)
        · refine ⟨_, rfl, _, rfl, _, _, rfl, rfl, pw, _, _, rfl, rfl, _, rfl, ?_⟩
          refine ite2 (fun hge => ?_) (fun hge => ?_)
          · refine ⟨_, rfl, _, rfl, _, _, rfl, rfl, pw, _, _, rfl, rfl, _, rfl, _, _, rfl, rfl, hdiv, _, rfl, p, _, rfl, dput_left i1, ?_⟩
            refine ⟨_, rfl, _, rfl, _, _, rfl, rfl, pw, _, _, rfl, rfl, _, rfl, _, _, rfl, rfl, (by omega), ?_⟩
            refine k _ _ ⟨(hD _ sq).but.trans Wr.mk'.but, cs, u + 1, _, upd_same, ?_, by omega, by omega, hc⟩ (hle _).1 (hle _).2
            rw [upd_ne hpc]
            exact i2
          · refine ⟨_, rfl, .inl ⟨_, rfl, _, _, rfl, rfl, (show (4294967231 : Int) ≠ 0 by decide), _, _, rfl, rfl, ?_, _, rfl, _, _, rfl, rfl, ?_, _, rfl, _, _, rfl, rfl, ?_, _, _, rfl, rfl, ?_⟩⟩
            · have := fmod_bounds cell (m := 4294967231) (by decide)
              exact cmul200 (by omega) (by decide)
            · exact cmul200 (by decide) (by omega)
            · exact cmul200 (by omega) (by omega)
            dsimp only
            generalize cell.fmod 4294967231 * 1103515 + 30011 * u * u = b1
            refine ⟨_, rfl, _, rfl, _, _, rfl, rfl, ?_, _, _, rfl, rfl, _, _, rfl, rfl, .inl ⟨_, rfl, _, _, rfl, rfl, (by intro z; cases z), ?_⟩⟩
            · exact cmul200 (by decide) (by omega)
            obtain ⟨g1, g3⟩ := fmod_bounds (b1 + 178481 * u + 23) (m := 4294967197) (by decide)
            dsimp only
            generalize (b1 + 178481 * u + 23).fmod 4294967197 = b2 at g1 g3 ⊢
            refine ⟨_, rfl, _, rfl, _, _, rfl, rfl, ?_, _, rfl, _, _, rfl, rfl, ?_, _, _, rfl, rfl, _, rfl, _, _, rfl, rfl, ?_, _, _, rfl, rfl, _, _, rfl, rfl, .inl ⟨_, rfl, _, _, rfl, rfl, (by intro z; cases z), ?_⟩⟩
            · exact cmul200 (by omega) (by omega)
            · exact cmul200 (by decide) (by omega)
            · exact cmul200 (by decide) (by omega)
            obtain ⟨g4, g5⟩ := fmod_bounds (b2 * b2 + 16769023 * b2 + 5 * u + 7) (m := 4294967189) (by decide)
            dsimp only
            generalize (b2 * b2 + 16769023 * b2 + 5 * u + 7).fmod 4294967189 = b3 at g4 g5 ⊢
            refine ⟨_, rfl, _, rfl, _, _, rfl, rfl, _, _, rfl, rfl, ?_, .inl ⟨_, rfl, _, _, rfl, rfl, (by intro z; cases z), _, _, rfl, rfl, ?_, ?_⟩⟩
            · exact cmul200 (by omega) (by omega)
            · exact wide_div (by decide) (b := 30) (by decide) (by decide) (by decide)
            refine ⟨_, rfl, _, _, rfl, rfl, _, rfl, ?_⟩
            refine ite2 (fun hgt => ?_) (fun _ => ?_)
            · have hm := hs m (of_decide_eq_true hgt) hm1
              refine ⟨_, rfl, _, rfl, _, rfl, _, _, rfl, rfl, wide_div (by decide) (b := 30) (by decide) (by decide) (by decide), _, _, rfl, rfl, p, c, _, n + 1, rfl, (hD _ sq).pen, by omega, hm.1, hm.2, fun H4 r d4 r0 r1 => ?_⟩
              refine ⟨_, _, rfl, rfl, cmul200 (by decide) (by omega), _, _, rfl, rfl, ?_⟩
              refine ⟨_, rfl, .inl ⟨_, rfl, _, rfl, _, _, rfl, rfl, (by omega), ?_⟩⟩
              exact k _ _ (((hD _ sq).trans d4).mono (by omega)) (hle _).1 (hle _).2
            refine ⟨_, rfl, .inl ⟨_, rfl, _, rfl, _, _, rfl, rfl, (by omega), ?_⟩⟩
            exact k _ _ (hD1 _ sq) (hle _).1 (hle _).2
        · refine iteF ?_
          refine ⟨_, rfl, .inl ⟨_, rfl, _, _, rfl, rfl, (show (4294967231 : Int) ≠ 0 by decide), _, _, rfl, rfl, ?_, _, rfl, _, _, rfl, rfl, ?_, _, rfl, _, _, rfl, rfl, ?_, _, _, rfl, rfl, ?_⟩⟩
          · have := fmod_bounds cell (m := 4294967231) (by decide)
            exact cmul200 (by omega) (by decide)
          · exact cmul200 (by decide) (by omega)
          · exact cmul200 (by omega) (by omega)
          dsimp only
          generalize cell.fmod 4294967231 * 1103515 + 30011 * u * u = b1
          refine ⟨_, rfl, _, rfl, _, _, rfl, rfl, ?_, _, _, rfl, rfl, _, _, rfl, rfl, .inl ⟨_, rfl, _, _, rfl, rfl, (by intro z; cases z), ?_⟩⟩
          · exact cmul200 (by decide) (by omega)
          obtain ⟨g1, g3⟩ := fmod_bounds (b1 + 178481 * u + 23) (m := 4294967197) (by decide)
          dsimp only
          generalize (b1 + 178481 * u + 23).fmod 4294967197 = b2 at g1 g3 ⊢
          refine ⟨_, rfl, _, rfl, _, _, rfl, rfl, ?_, _, rfl, _, _, rfl, rfl, ?_, _, _, rfl, rfl, _, rfl, _, _, rfl, rfl, ?_, _, _, rfl, rfl, _, _, rfl, rfl, .inl ⟨_, rfl, _, _, rfl, rfl, (by intro z; cases z), ?_⟩⟩
          · exact cmul200 (by omega) (by omega)
          · exact cmul200 (by decide) (by omega)
          · exact cmul200 (by decide) (by omega)
          obtain ⟨g4, g5⟩ := fmod_bounds (b2 * b2 + 16769023 * b2 + 5 * u + 7) (m := 4294967189) (by decide)
          dsimp only
          generalize (b2 * b2 + 16769023 * b2 + 5 * u + 7).fmod 4294967189 = b3 at g4 g5 ⊢
          refine ⟨_, rfl, _, rfl, _, _, rfl, rfl, _, _, rfl, rfl, ?_, .inl ⟨_, rfl, _, _, rfl, rfl, (by intro z; cases z), _, _, rfl, rfl, ?_, ?_⟩⟩
          · exact cmul200 (by omega) (by omega)
          · exact wide_div (by decide) (b := 30) (by decide) (by decide) (by decide)
          refine ⟨_, rfl, _, _, rfl, rfl, _, rfl, ?_⟩
          refine ite2 (fun hgt => ?_) (fun _ => ?_)
          · have hm := hs m (of_decide_eq_true hgt) hm1
            refine ⟨_, rfl, _, rfl, _, rfl, _, _, rfl, rfl, wide_div (by decide) (b := 30) (by decide) (by decide) (by decide), _, _, rfl, rfl, p, c, _, n + 1, rfl, (hD _ sq).pen, by omega, hm.1, hm.2, fun H4 r d4 r0 r1 => ?_⟩
            refine ⟨_, _, rfl, rfl, cmul200 (by decide) (by omega), _, _, rfl, rfl, ?_⟩
            refine ⟨_, rfl, .inl ⟨_, rfl, _, rfl, _, _, rfl, rfl, (by omega), ?_⟩⟩
            exact k _ _ (((hD _ sq).trans d4).mono (by omega)) (hle _).1 (hle _).2
          refine ⟨_, rfl, .inl ⟨_, rfl, _, rfl, _, _, rfl, rfl, (by omega), ?_⟩⟩
          exact k _ _ (hD1 _ sq) (hle _).1 (hle _).2
end
end My
end
section
set_option Elab.async false
set_option linter.all false
set_option maxRecDepth 100000
set_option maxHeartbeats 4000000
/-! A1D4: a law's draws of great numbers, up to 5 * 10 ** 30. -/
namespace My
open PySem PySem.Spec PyProof.Rows L2
section
variable {P : Program} {w : World} {K : PySem.W.Frag} {mg : Str → Option Value} {base : Heap}
theorem ok_drawB1 {f : Addr} {fd : FuncData} (F : Fun K "_law_draw" "_law_draw" s_draw f fd) (T : TDraw mg) : FnOk P w K mg base CX0 1 f fd ["_law_pen_here", "_law_many"] (sp_drawB 60000000 1) :=
  (ok_draw F T).imp fun vs H Q E h => by
    obtain ⟨p, c, m, n, rfl, hP, hn, h0, h1, k⟩ := h
    exact ⟨p, c, m, n, rfl, hP, by omega, h0, h1, k⟩
theorem up_B {B B' : Int} (h : B' ≤ 60000000 * (B - 1)) : ∀ m : Int, 60000000 < m → m ≤ B' → 0 < m / 60000000 + 1 ∧ m / 60000000 + 1 ≤ B := fun m h1 h2 => by omega
/-- up to 5 * 10 ** 30 -/
theorem ok_drawB4 {f : Addr} {fd : FuncData} (F : Fun K "_law_draw" "_law_draw" s_draw f fd) (T : TDraw mg) (D : Def K mg "_law_draw" f fd ["_law_pen_here", "_law_many"]) : FnOk P w K mg base CX0 4 f fd ["_law_pen_here", "_law_many"] (sp_drawB 5000000000000000000000000000000 4) := by
  have g1 : FnOk P w K mg base CX0 1 f fd ["_law_pen_here", "_law_many"] (sp_drawB 60000000 1) := ok_drawB1 F T
  have g2 := ok_drawS (B' := 3000000000000000) F T (by decide) (by decide) (up_B (by decide)) D g1
  have g3 := ok_drawS (B' := 100000000000000000000000) F T (by decide) (by decide) (up_B (by decide)) D g2
  exact ok_drawS (B' := 5000000000000000000000000000000) F T (by decide) (by decide) (up_B (by decide)) D g3
end
end My
end
section
set_option Elab.async false
set_option linter.all false
set_option maxRecDepth 100000
set_option maxHeartbeats 2000000
namespace My
open PySem PySem.Spec PyProof.Rows L2
/-- a text of one sign -/
abbrev sg (c : Nat) : V := .str ⟨#[c]⟩
/-- pairs of signs, each a tuple of its own -/
def PairsAt (H : Hp) (ps : List (Nat × Nat)) (ys : List V) : Prop := Paired (fun (ab : Nat × Nat) y => ∃ q, y = V.ref q ∧ H q = some (.tup [sg ab.1, sg ab.2])) ps ys
theorem PairsAt.same {H H1 : Hp} (s : Same H H1) : ∀ {ps : List (Nat × Nat)} {ys : List V}, PairsAt H ps ys → PairsAt H1 ps ys
  | _, _, .nil => .nil
  | _, _, .cons ⟨q, e, h⟩ t => .cons ⟨q, e, s _ _ h⟩ (PairsAt.same s t)
theorem Paired.at {α β : Type} {R : α → β → Prop} : ∀ {l : List α} {r : List β} {j : Nat} {b : β}, Paired R l r → r[j]? = some b → ∃ a, l[j]? = some a ∧ R a b
  | _, _, _, _, .nil, h => by simp at h
  | _, _, 0, _, .cons h _, e => by
    simp at e
    subst e
    exact ⟨_, rfl, h⟩
  | _, _, j + 1, _, .cons _ t, e => by
    obtain ⟨a, h1, h2⟩ := Paired.at (j := j) t (by simpa using e)
    exact ⟨a, by simpa using h1, h2⟩
theorem Paired.snoc {α β : Type} {R : α → β → Prop} : ∀ {l : List α} {r : List β} {a : α} {b : β}, Paired R l r → R a b → Paired R (l ++ [a]) (r ++ [b])
  | _, _, _, _, .nil, h => .cons h .nil
  | _, _, _, _, .cons h t, k => .cons h (Paired.snoc t k)
theorem Paired.map {α β : Type} {R R' : α → β → Prop} (f : ∀ a b, R a b → R' a b) : ∀ {l : List α} {r : List β}, Paired R l r → Paired R' l r
  | _, _, .nil => .nil
  | _, _, .cons h t => .cons (f _ _ h) (Paired.map f t)
theorem paired_eq {α β : Type} {f : α → β} : ∀ {l : List α} {r : List β}, Paired (fun a y => y = f a) l r → r = l.map f
  | _, _, .nil => rfl
  | _, _, .cons h t => by rw [h, paired_eq t]; rfl
/-- a comprehension over what is told by l: tests and elements may make objects -/
theorem lc_pair {α : Type} {J : It} {xs : List V} {G : Hp → Prop} (w : Walk J xs.length G (YAt xs)) (l : List α) (hl : l.length = xs.length) {i : Nat} {tt : TT} {te : TE} {vs : List Nat} {σ : L2.St} {H1 : Hp} {D : Addr} {Qd : Hp → Prop} (p : α → Bool) (R : α → V → Hp → Prop)
    (mono : ∀ a y H H', (∃ zs, H D = some (.lst zs)) → But D H H' → R a y H → R a y H') (free : H1 D = none) (hG : ∀ H', Same H1 H' → G H') (small : xs.length < sizeLine) (hw : ∀ x, wipe ((wipe σ vs).set i (some x)) vs = wipe σ vs)
    (ht : ∀ (j : Nat) x a H' (C : Bool → Hp → Prop), xs[j]? = some x → l[j]? = some a → Same H1 H' → (∀ H3, Same H' H3 → C (p a) H3) → tt ((wipe σ vs).set i (some x)) H' C)
    (he : ∀ (j : Nat) x a H' (C : VK), xs[j]? = some x → l[j]? = some a → p a = true → Same H1 H' → (∀ H4 y, Same H' H4 → R a y H4 → C y H4) → te ((wipe σ vs).set i (some x)) H' C)
    (hd : ∀ H' ys, Same H1 H' → H' D = some (.lst ys) → Paired (fun a y => R a y H') (l.filter p) ys → Qd H') :
    ∃ W : Nat → Nat → Hp → Prop, (∃ m, W 0 m (upd H1 D (.lst []))) ∧ ∀ j m H, W j m H →
      (J.stop j H ∧ Qd H) ∨ (J.go j H ∧ ∃ Nx : Hp → Prop, (∀ H', Nx H' → ∃ m', m' < m ∧ W (j + 1) m' H') ∧ ∀ x H', J.yld j H x H' → gName i x (wipe σ vs) H' fun σ2 H2 => wipe σ2 vs = wipe σ vs ∧ tt σ2 H2 fun b H3 =>
        if b = true then te σ2 H3 fun y H4 => ∃ acc, H4 D = some (.lst acc) ∧ acc.length < sizeLine ∧ Nx (upd H4 D (.lst (acc ++ [y]))) else Nx H3) := by
  refine lc_it w (fun j H' => Same H1 H' ∧ ∃ ys, H' D = some (.lst ys) ∧ ys.length ≤ j ∧ Paired (fun a y => R a y H') ((l.take j).filter p) ys)
    ⟨Same.wr (Same.refl H1) free .mk', [], upd_same, Nat.le_refl _, by simp; exact .nil⟩ (fun j H' _ q => hG H' q.1) ?_ ?_
  · rintro j x H2 H3 hj ⟨s, ys, hD, hy, hp⟩ ⟨rfl, hx⟩
    have hjl : j < l.length := by omega
    obtain ⟨a, ha⟩ : ∃ a, l[j]? = some a := ⟨l[j], by simp [hjl]⟩
    have nx : l.take (j + 1) = l.take j ++ [a] := by
      rw [List.take_add_one, ha]
      rfl
    refine ⟨hw x, ht j x a H3 _ hx ha s fun H4 s4 => ?_⟩
    have hD4 := s4 _ _ hD
    have hp4 := Paired.map (fun a y h => mono a y H3 H4 ⟨_, hD⟩ (.of s4) h) hp
    cases hpa : p a with
    | true =>
      rw [if_pos rfl]
      refine he j x a H4 _ hx ha hpa (s.trans s4) fun H5 y s5 hR => ⟨ys, s5 _ _ hD4, by omega, ?_, ys ++ [y], upd_same, by simp; omega, ?_⟩
      · exact Same.wr ((s.trans s4).trans s5) free .mk'
      · have w5 : But D H5 (upd H5 D (.lst (ys ++ [y]))) := Wr.mk'.but
        have hp5 := Paired.map (fun a y h => mono a y H4 H5 ⟨_, hD4⟩ (.of s5) h) hp4
        have hp6 := Paired.map (fun a y h => mono a y H5 _ ⟨_, s5 _ _ hD4⟩ w5 h) hp5
        rw [nx, List.filter_append]
        have e : [a].filter p = [a] := by simp [hpa]
        rw [e]
        exact Paired.snoc hp6 (mono a y H5 _ ⟨_, s5 _ _ hD4⟩ w5 hR)
    | false =>
      rw [if_neg Bool.false_ne_true]
      refine ⟨s.trans s4, ys, hD4, by omega, ?_⟩
      rw [nx, List.filter_append]
      have e : [a].filter p = [] := by simp [hpa]
      rw [e, List.append_nil]
      exact hp4
  · rintro H' ⟨s, ys, hD, _, hp⟩
    rw [← hl, List.take_length] at hp
    exact hd H' ys s hD hp
/-- what is iterated over: a list or a tuple -/
def iSeq (K : PySem.W.Frag) (tl : TE) : TI := fun σ H R => tl σ H fun x H1 => ∃ a xs, x = .ref a ∧ ((SqL K H1 a xs ∧ R (Itl K a) H1) ∨ (SqT K H1 a xs ∧ R (Itt K a) H1))
theorem pi_seq {X : Cx} {tg l : Expr} {tl : TE} (h : PE X l tl) : PI X tg l (iSeq X.K tl) := by
  constructor
  intro pins s σ H R I q
  apply thn (h.run pins s σ H _ I q)
  intro v s1 hv
  obtain ⟨x, H1, I1, r1, a, xs, rfl, hq⟩ := hv
  cases r1
  have more : ∀ {o : Obj}, L2.Inv X pins σ H1 { s1 with heap := s1.heap.push o } := fun {o} => I1.kept (t' := s1.toks) fun b ob e => Heap.get?_push_of_some _ e
  have fresh : ∀ b ∈ [s1.heap.objs.size], FpOk X pins H1 b := by
    intro b hb
    rw [List.mem_singleton.mp hb]
    exact I1.fpOk (Nat.le_refl _) (I1.hok.fresh (Nat.le_refl _))
  cases hq with
  | inl hq =>
    obtain ⟨its, rv, pl, hz⟩ := I1.list hq.1
    apply wpAny_pyIter_list pl.isList
    exact ⟨_, [s1.heap.objs.size], _, _, H1, rfl, more, turn_list a _, ⟨_, Heap.get?_push_size _ rfl, rfl, rfl⟩, fresh, hq.2⟩
  | inr hq =>
    obtain ⟨its, rv, pl, hz⟩ := I1.tuple hq.1
    apply wpAny_pyIter_tuple (show s1.heap.IsTuple a its.toArray from pl)
    exact ⟨_, [s1.heap.objs.size], _, _, H1, rfl, more, turn_tuple a _, ⟨_, Heap.get?_push_size _ rfl, rfl, rfl⟩, fresh, hq.2⟩
/-! ### the place of a sign in a text -/
theorem idx_first {l : List Nat} {c k : Nat} (h : l[k]? = some c) (hn : ∀ j, j < k → l[j]? ≠ some c) : l.idxOf c = k := by
  induction l generalizing k with
  | nil => simp at h
  | cons a l ih =>
    cases k with
    | zero =>
      have e : a = c := by simpa using h
      subst e
      simp
    | succ k =>
      have ne : a ≠ c := fun e => hn 0 (Nat.zero_lt_succ _) (by simp [e])
      have rest := ih (k := k) (by simpa using h) fun j hj => by
        have := hn (j + 1) (Nat.succ_lt_succ hj)
        simpa using this
      rw [List.idxOf_cons, beq_eq_false_iff_ne.mpr ne, cond_false, rest]
theorem index0_one (z : Str) (c : Nat) (h : c ∈ z.cps.toList) : Txt.index0 z ⟨#[c]⟩ = some (z.cps.toList.idxOf c) := by
  unfold Txt.index0
  rcases StrLaws.occ_head z ⟨#[c]⟩ 1 (Nat.le_refl 1) with ⟨_, hn⟩ | ⟨i, r, e, ha, hn⟩
  · obtain ⟨j, hj⟩ := List.mem_iff_getElem?.mp h
    exact absurd ((StrLaws.subAt_one z c j).mpr hj) (hn j)
  · rw [e]
    have e2 : z.cps.toList.idxOf c = i := by
      refine idx_first ((StrLaws.subAt_one z c i).mp ha) fun j hj hjc => ?_
      exact hn j hj ((StrLaws.subAt_one z c j).mpr hjc)
    rw [e2]
    rfl
/-! ### turns as they are kept -/
mutual
/-- data of no more than 4,000 signs or items anywhere -/
def fit : PyData → Bool
  | .str z => decide (z.length ≤ 4000)
  | .list ds => decide (ds.length ≤ 4000) && fitAll ds
  | .tuple ds => decide (ds.length ≤ 4000) && fitAll ds
  | _ => true
def fitAll : List PyData → Bool
  | [] => true
  | d :: ds => fit d && fitAll ds
end
theorem fit.text {d : PyData} (h : fit d = true) : textFits 4000 d := by
  cases d with
  | str z =>
    simp only [fit, decide_eq_true_eq] at h
    exact h
  | _ => trivial
theorem textFits.more {m n : Nat} {d : PyData} (h : textFits m d) (l : m ≤ n) : textFits n d := by
  cases d with
  | str z => exact Nat.le_trans h l
  | _ => trivial
theorem fitAll.at : ∀ {ds : List PyData} {j : Nat} {d : PyData}, fitAll ds = true → ds[j]? = some d → fit d = true
  | [], _, _, _, h => by simp at h
  | _ :: _, 0, _, h, e => by
    simp only [fitAll, Bool.and_eq_true] at h
    simp at e
    exact e ▸ h.1
  | _ :: _, j + 1, _, h, e => by
    simp only [fitAll, Bool.and_eq_true] at h
    exact fitAll.at (j := j) h.2 (by simpa using e)
/-- a pair of signs -/
def pairOf (S : Str) : PyData → Option (Nat × Nat)
  | .tuple [.str x, .str y] => if signD S (.str x) && signD S (.str y) then some (x.cps.toList.headD 0, y.cps.toList.headD 0) else none
  | _ => none
theorem signD_some {S z : Str} (h : signD S (.str z) = true) : ∃ c, z = ⟨#[c]⟩ ∧ c ∈ S.cps.toList := by
  rw [signD_str, Bool.and_eq_true, decide_eq_true_eq] at h
  obtain ⟨c, rfl⟩ := one_sign h.1
  refine ⟨c, rfl, ?_⟩
  have := h.2
  simpa using this
theorem pairOf_some {S : Str} {d : PyData} {a b : Nat} (h : pairOf S d = some (a, b)) : d = .tuple [.str ⟨#[a]⟩, .str ⟨#[b]⟩] ∧ a ∈ S.cps.toList ∧ b ∈ S.cps.toList := by
  unfold pairOf at h
  split at h
  · rename_i x y
    split at h
    · rename_i hs
      rw [Bool.and_eq_true] at hs
      obtain ⟨c, rfl, hc⟩ := signD_some hs.1
      obtain ⟨e, rfl, he⟩ := signD_some hs.2
      simp at h
      obtain ⟨rfl, rfl⟩ := h
      exact ⟨rfl, hc, he⟩
    · cases h
  · cases h
theorem pairOf_two (S : Str) (x y : PyData) : (pairOf S (.tuple [x, y])).isSome = (signD S x && signD S y) := by
  cases x with
  | str a =>
    cases y with
    | str b =>
      show (if (signD S (.str a) && signD S (.str b)) = true then some _ else none).isSome = _
      cases signD S (.str a) && signD S (.str b) <;> rfl
    | _ => simp [pairOf, signD]
  | _ => simp [pairOf, signD]
theorem pairOf_len (S : Str) {ds : List PyData} (h : ds.length ≠ 2) : (pairOf S (.tuple ds)).isSome = false := by
  match ds, h with
  | [], _ => rfl
  | [x], _ => simp [pairOf]
  | [_, _], h => exact absurd rfl h
  | x :: y :: z :: r, _ => simp [pairOf]
/-- heads as an assoc list: a pair is put both ways -/
def putN (h : List (Nat × Nat)) (a b : Nat) : List (Nat × Nat) := if (h.any fun e => decide (e.1 = a)) = true then h.map (fun e => if e.1 = a then (e.1, b) else e) else h ++ [(a, b)]
def headOf (h : List (Nat × Nat)) (a : Nat) : Option Nat := (h.find? fun e => decide (e.1 = a)).map (·.2)
def headsFrom (S : Str) : List (Nat × Nat) → List PyData → Option (List (Nat × Nat))
  | h, [] => some h
  | h, d :: ds => match pairOf S d with
    | none => none
    | some (a, b) => if (headOf h a).isSome || (headOf h b).isSome then none else headsFrom S (putN (putN h a b) b a) ds
/-- the turns that a dict of heads has, each once, its earlier sign first -/
def dueOf (S : Str) (h : List (Nat × Nat)) : List (Nat × Nat) :=
  ((S.cps.toList.filter fun c => (headOf h c).isSome).map fun c => (c, (headOf h c).getD 0)).filter fun e => decide (S.cps.toList.idxOf e.1 ≤ S.cps.toList.idxOf e.2)
def keptD (S : Str) : PyData → Option (List (Nat × Nat))
  | .list ds => (headsFrom S [] ds).map (dueOf S)
  | .tuple ds => (headsFrom S [] ds).map (dueOf S)
  | _ => none
/-- heads as a dict holds them -/
def toK (h : List (Nat × Nat)) : List (Key × V) := h.map fun e => (Sum.inr ⟨#[e.1]⟩, sg e.2)
theorem sign_inj {a b : Nat} : ((⟨#[a]⟩ : Str) = ⟨#[b]⟩) ↔ a = b := by
  constructor
  · intro e
    injection e with e
    simpa using e
  · intro e
    rw [e]
theorem keyS_inj {a b : Nat} : ((Sum.inr ⟨#[a]⟩ : Key) = Sum.inr ⟨#[b]⟩) ↔ a = b := by
  constructor
  · intro e
    exact sign_inj.mp (Sum.inr.inj e)
  · intro e
    rw [e]
theorem valV_toK (h : List (Nat × Nat)) (a : Nat) : valV (toK h) (Sum.inr ⟨#[a]⟩ : Key) = (headOf h a).map sg := by
  induction h with
  | nil => rfl
  | cons e h ih =>
    by_cases q : e.1 = a
    · have e1 : valV (toK (e :: h)) (Sum.inr ⟨#[a]⟩ : Key) = some (sg e.2) := valV_pos (keyS_inj.mpr q)
      rw [e1]
      simp [headOf, q]
    · have e1 : valV (toK (e :: h)) (Sum.inr ⟨#[a]⟩ : Key) = valV (toK h) (Sum.inr ⟨#[a]⟩ : Key) := valV_neg (fun z => q (keyS_inj.mp z))
      rw [e1, ih]
      simp [headOf, q]
theorem putK_toK (h : List (Nat × Nat)) (a b : Nat) : putK (toK h) (Sum.inr ⟨#[a]⟩ : Key) (sg b) = toK (putN h a b) := by
  have e : ((toK h).any fun kv => decide (kv.1 = (Sum.inr ⟨#[a]⟩ : Key))) = h.any fun e => decide (e.1 = a) := by
    unfold toK
    rw [List.any_map]
    congr 1
    funext x
    simp only [Function.comp]
    rw [decide_eq_decide]
    exact keyS_inj
  unfold putK putN
  rw [e]
  split
  · unfold toK
    rw [List.map_map, List.map_map]
    congr 1
    funext x
    simp only [Function.comp]
    by_cases q : x.1 = a
    · rw [if_pos (keyS_inj.mpr q), if_pos q]
    · rw [if_neg (fun z => q (keyS_inj.mp z)), if_neg q]
  · unfold toK
    rw [List.map_append]
    rfl
theorem dget_toK {H : Hp} {p : Addr} {h : List (Nat × Nat)} (a : Nat) (e : H p = some (.dK (toK h))) : DGet H p (sg a) ((headOf h a).map sg) := by
  rw [← valV_toK]
  exact DGet.k (k := Sum.inr ⟨#[a]⟩) e
theorem dput_toK {H : Hp} {p : Addr} {h : List (Nat × Nat)} (a b : Nat) (e : H p = some (.dK (toK h))) (l : h.length < sizeLine) : DPut H p (sg a) (sg b) (upd H p (.dK (toK (putN h a b)))) := by
  rw [← putK_toK]
  exact DPut.k (k := Sum.inr ⟨#[a]⟩) e (by rw [toK, List.length_map]; exact l)
theorem headOf_putN (h : List (Nat × Nat)) (a b c : Nat) : headOf (putN h a b) c = if c = a then some b else headOf h c := by
  have app : ∀ (h : List (Nat × Nat)), (h.any fun e => decide (e.1 = a)) = false → headOf (h ++ [(a, b)]) c = if c = a then some b else headOf h c := by
    intro h hn
    induction h with
    | nil =>
      by_cases q : a = c
      · subst q; simp [headOf]
      · rw [if_neg (fun e => q e.symm)]
        simp [headOf, q]
    | cons e h ih =>
      rw [List.any_cons, Bool.or_eq_false_iff] at hn
      have hne : e.1 ≠ a := of_decide_eq_false hn.1
      by_cases q : e.1 = c
      · have : c ≠ a := fun z => hne (q.trans z)
        rw [if_neg this]
        simp [headOf, q]
      · have ih := ih hn.2
        have r1 : headOf (e :: h ++ [(a, b)]) c = headOf (h ++ [(a, b)]) c := by simp [headOf, q]
        have r2 : headOf (e :: h) c = headOf h c := by simp [headOf, q]
        rw [r1, r2, ih]
  have rep : ∀ (h : List (Nat × Nat)), headOf (h.map fun e => if e.1 = a then (e.1, b) else e) c = if c = a then (if (h.any fun e => decide (e.1 = a)) = true then some b else none) else headOf h c := by
    intro h
    induction h with
    | nil =>
      by_cases q : c = a
      · rw [if_pos q]; rfl
      · rw [if_neg q]; rfl
    | cons e h ih =>
      by_cases k : e.1 = a
      · have e1 : (List.map (fun e => if e.1 = a then (e.1, b) else e) (e :: h)) = (e.1, b) :: List.map (fun e => if e.1 = a then (e.1, b) else e) h := by
          rw [List.map_cons, if_pos k]
        rw [e1]
        by_cases q : c = a
        · rw [if_pos q]
          simp [headOf, k, q]
        · have n1 : ¬ e.1 = c := fun z => q (z.symm.trans k)
          rw [if_neg q] at ih ⊢
          have r1 : headOf ((e.1, b) :: List.map (fun e => if e.1 = a then (e.1, b) else e) h) c = headOf (List.map (fun e => if e.1 = a then (e.1, b) else e) h) c := by simp [headOf, n1]
          have r2 : headOf (e :: h) c = headOf h c := by simp [headOf, n1]
          rw [r1, r2, ih]
      · have e1 : (List.map (fun e => if e.1 = a then (e.1, b) else e) (e :: h)) = e :: List.map (fun e => if e.1 = a then (e.1, b) else e) h := by
          rw [List.map_cons, if_neg k]
        have e2 : ((e :: h).any fun e => decide (e.1 = a)) = h.any fun e => decide (e.1 = a) := by
          rw [List.any_cons, decide_eq_false k, Bool.false_or]
        rw [e1, e2]
        by_cases q : e.1 = c
        · have : c ≠ a := fun z => k (q.trans z)
          rw [if_neg this]
          simp [headOf, q]
        · have r1 : headOf (e :: List.map (fun e => if e.1 = a then (e.1, b) else e) h) c = headOf (List.map (fun e => if e.1 = a then (e.1, b) else e) h) c := by simp [headOf, q]
          have r2 : headOf (e :: h) c = headOf h c := by simp [headOf, q]
          rw [r1, r2, ih]
  unfold putN
  cases hq : (h.any fun e => decide (e.1 = a)) with
  | true =>
    rw [if_pos rfl, rep h, hq, if_pos rfl]
  | false =>
    rw [if_neg Bool.false_ne_true, app h hq]
theorem Paired.length {α β : Type} {R : α → β → Prop} : ∀ {l : List α} {r : List β}, Paired R l r → l.length = r.length
  | _, _, .nil => rfl
  | _, _, .cons _ t => by simp [Paired.length t]
theorem toK_length (h : List (Nat × Nat)) : (toK h).length = h.length := List.length_map _
theorem putN_length (h : List (Nat × Nat)) (a b : Nat) : (putN h a b).length ≤ h.length + 1 := by
  unfold putN
  split
  · rw [List.length_map]; omega
  · rw [List.length_append]; exact Nat.le_refl _
section
variable {X : Cx}
/-- {} -/
def qDNew : TE := fun _ H Q => ∀ p H1, New H p (.dK []) H1 → Q (.ref p) H1
theorem pe_dnew' {pos : Pos} : PE X (.Dict [] [] pos) qDNew := PE.weak pe_dnewK fun σ H Q q p hp => q p _ (.mk' hp)
end
def sp_isPair (K : PySem.W.Frag) : Sp := fun vs H Q _ => ∃ (S : Str) (v : V) (d : PyData) (p : Addr), vs = [.str S, v] ∧ Rp K p H false v d ∧ fit d = true ∧ ∀ H', Same H H' → Q (.bl (pairOf S d).isSome) H'
def sp_isListed (K : PySem.W.Frag) : Sp := fun vs H Q _ => ∃ (v : V) (d : PyData) (p : Addr), vs = [v] ∧ Rp K p H false v d ∧ ∀ H', Same H H' → Q (.bl (isSeqD d)) H'
def sp_kept (K : PySem.W.Frag) : Sp := fun vs H Q _ => ∃ (S : Str) (v : V) (d : PyData) (p : Addr), vs = [.str S, v] ∧ Rp K p H false v d ∧ fit d = true ∧ S.length ≤ 4000 ∧
  (keptD S d = none → ∀ H', Same H H' → Q .non H') ∧ (∀ ps, keptD S d = some ps → ∀ H' r ys, Same H H' → H r = none → H' r = some (.tup ys) → PairsAt H' ps ys → Q (.ref r) H')
theorem rp_pair {K : PySem.W.Frag} {p : Addr} {H : Hp} {st : Bool} {v : V} {x y : Str} (h : Rp K p H st v (.tuple [.str x, .str y])) : ∃ q, v = .ref q ∧ H q = some (.tup [.str x, .str y]) ∧ q ≠ p := by
  cases h with
  | tup ha hp r =>
    cases r with
    | cons r1 r2 =>
      cases r1
      cases r2 with
      | cons r3 r4 =>
        cases r3
        cases r4
        exact ⟨_, rfl, ha, hp⟩
/-- a list or a tuple of data -/
theorem rp_seq {K : PySem.W.Frag} {p : Addr} {H : Hp} {st : Bool} {v : V} {d : PyData} (h : Rp K p H st v d) (hs : isSeqD d = true) : ∃ a xs ds st2, v = .ref a ∧ (SqL K H a xs ∨ SqT K H a xs) ∧ RpAll K p H st2 xs ds ∧ (d = .list ds ∨ d = .tuple ds) := by
  cases h with
  | lst ha hp _ r => exact ⟨_, _, _, _, rfl, .inl (SqL.of ha), r, .inl rfl⟩
  | tup ha hp r => exact ⟨_, _, _, _, rfl, .inr (SqT.of ha), r, .inr rfl⟩
  | emp h => exact ⟨_, [], [], st, rfl, .inr h.sq, .nil _, .inr rfl⟩
  | _ => cases hs
theorem RpAll.but2 {K : PySem.W.Frag} {p : Addr} {H H1 : Hp} (s : Same H H1) {st : Bool} {ds : List PyData} {vs : List V} (h : RpAll K p H st vs ds) : RpAll K p H1 st vs ds := RpAll.but (.of s) h
theorem headsFrom_cons (S : Str) (h : List (Nat × Nat)) (d : PyData) (ds : List PyData) : headsFrom S h (d :: ds) = match pairOf S d with
    | none => none
    | some (a, b) => if (headOf h a).isSome || (headOf h b).isSome then none else headsFrom S (putN (putN h a b) b a) ds := rfl
theorem at0 (a b : V) : atI [a, b] (0 : Int) = some a := atI_nat (j := 0) rfl
theorem at1 (a b : V) : atI [a, b] (1 : Int) = some b := atI_nat (j := 1) rfl
/-- a for over a list or a tuple that stands since H0 -/
theorem tFor_seq {K : PySem.W.Frag} {tl : TE} {g : TG} {tb : TS} {D : Ends} {σ : L2.St} {H H0 : Hp} {a : Addr} {xs : List V} (hv : ∀ C : VK, C (.ref a) H → tl σ H C) (hq : SqL K H0 a xs ∨ SqT K H0 a xs) (Pv : Nat → L2.St → Hp → Prop) (h0 : Pv 0 σ H)
    (hS : ∀ i σ' H', Pv i σ' H' → Same H0 H')
    (hs : ∀ i x σ' H', i < xs.length → xs[i]? = some x → Pv i σ' H' → g x σ' H' fun σ2 H2 => tb { D with nx := Pv (i + 1), ct := Pv (i + 1), bk := D.nx } σ2 H2) (hd : ∀ σ' H', Pv xs.length σ' H' → D.nx σ' H') : tFor (iSeq K tl) g tb D σ H := by
  refine hv _ ⟨a, xs, rfl, ?_⟩
  rcases hq with hq | hq
  · refine .inl ⟨(hS 0 σ H h0).seq hq, for_it walk_list Pv h0 (fun i σ' H' _ p => (hS i σ' H' p).seq hq) (fun i x σ' H1 H2 hi p y => ?_) hd⟩
    obtain ⟨rfl, hx⟩ := y
    exact hs i x σ' _ hi hx p
  · refine .inr ⟨(hS 0 σ H h0).tupl hq, for_it walk_tup Pv h0 (fun i σ' H' _ p => (hS i σ' H' p).tupl hq) (fun i x σ' H1 H2 hi p y => ?_) hd⟩
    obtain ⟨rfl, hx⟩ := y
    exact hs i x σ' _ hi hx p
/-! ### rules within a comprehension: the written part by its name -/
section
variable {X : Cx} {K : PySem.W.Frag}
theorem ix_tupK (h : X.K = K) : IxR X (rIxT K) := h ▸ ix_tup
theorem ix_listK (h : X.K = K) : IxR X (rIxL K) := h ▸ ix_list
theorem pe_bmSK {o e : Expr} {es : List Expr} {to : TE} {t : TA} {name : Str} {apos cpos : Pos} {T id : String} {r : L2.St → V → List V → Hp → VK → Prop} (h : X.K = K) (pa : PlainAttrs T) (slot : Slot T name id) (hty : typeOf (.builtin id) = pure (.type "method_descriptor")) (hm : MtS X id r) (ho : PE X o to) (ha : PA X (e :: es) t)
    (hbase : attributeBase o name X.env (eval o X.env) = eval o X.env := by rfl)
    (hfew : ((backTo cpos (starEach (e :: es) X.env)).all (fun x => !x.1) && (backToKw cpos (keywordEach [] X.env)).all (fun x => x.1.isSome)
      && decide ((e :: es).length + ([] : List Keyword).length + (if ([] : List Keyword).isEmpty then 0 else 1) < 30)) = true := by rfl)
    (hline : (apos.endLine == cpos.line) = true := by rfl) (hs : starEach (e :: es) X.env = (false, eval e X.env) :: starEach es X.env := by rfl) (hplain : (backTo cpos (starEach es X.env)).any (·.1) = false := by rfl) :
    PE X (.Call (.Attribute o name apos) (e :: es) [] cpos) (tBMS K T r to t) := h ▸ pe_bmS pa slot hty hm ho ha hbase hfew hline hs hplain
end
end My
end
section
set_option Elab.async false
set_option linter.all false
set_option maxRecDepth 100000
set_option maxHeartbeats 4000000
namespace My
open PySem PySem.Spec PyProof.Rows L2
/-- heads of turns: each put both ways -/
def headsAll (ps : List (Nat × Nat)) : List (Nat × Nat) := ps.foldl (fun h e => putN (putN h e.1 e.2) e.2 e.1) []
theorem headsAll_snoc (ps : List (Nat × Nat)) (e : Nat × Nat) : headsAll (ps ++ [e]) = putN (putN (headsAll ps) e.1 e.2) e.2 e.1 := by
  unfold headsAll
  rw [List.foldl_append]
  rfl
theorem headsAll_in {S : List Nat} (ps : List (Nat × Nat)) (h : ∀ e ∈ ps, e.1 ∈ S ∧ e.2 ∈ S) : ∀ c b, headOf (headsAll ps) c = some b → b ∈ S := by
  have aux : ∀ (ps h0 : List (Nat × Nat)), (∀ e ∈ ps, e.1 ∈ S ∧ e.2 ∈ S) → (∀ c b, headOf h0 c = some b → b ∈ S) → ∀ c b, headOf (ps.foldl (fun h e => putN (putN h e.1 e.2) e.2 e.1) h0) c = some b → b ∈ S := by
    intro ps
    induction ps with
    | nil => intro h0 _ i c b q; exact i c b q
    | cons e ps ih =>
      intro h0 m i c b q
      refine ih _ (fun x hx => m x (List.mem_cons_of_mem _ hx)) ?_ c b q
      intro c b hcb
      rw [headOf_putN, headOf_putN] at hcb
      have me := m e List.mem_cons_self
      split at hcb
      · exact Option.some.inj hcb ▸ me.1
      · split at hcb
        · exact Option.some.inj hcb ▸ me.2
        · exact i c b hcb
  exact aux ps [] h (fun c b e => by cases e)
theorem headsAll_le (ps : List (Nat × Nat)) : (headsAll ps).length ≤ 2 * ps.length := by
  have aux : ∀ (ps h0 : List (Nat × Nat)), (ps.foldl (fun h e => putN (putN h e.1 e.2) e.2 e.1) h0).length ≤ h0.length + 2 * ps.length := by
    intro ps
    induction ps with
    | nil => intro h0; exact Nat.le_refl _
    | cons e ps ih =>
      intro h0
      refine Nat.le_trans (ih _) ?_
      have l1 := putN_length h0 e.1 e.2
      have l2 := putN_length (putN h0 e.1 e.2) e.2 e.1
      rw [List.length_cons]
      dsimp only
      omega
  have := aux ps []
  simpa [headsAll] using this
end My
end
section
set_option Elab.async false
set_option linter.all false
set_option maxRecDepth 100000
set_option maxHeartbeats 4000000
/-! B10: mathematics of signs. -/
namespace My
open PySem PySem.Spec PyProof.Rows L2
/-- the text of these signs -/
abbrev mkS (l : List Nat) : Str := ⟨l.toArray⟩
theorem mkS_self (S : Str) : mkS S.cps.toList = S := by
  cases S
  simp [mkS]
theorem mkS_len (l : List Nat) : (mkS l).length = l.length := List.size_toArray
/-- the sign that another shows on its head -/
def turnOf : List (Nat × Nat) → Nat → Option Nat
  | [], _ => none
  | e :: r, c => if c = e.1 then some e.2 else if c = e.2 then some e.1 else turnOf r c
def sgO : Option Nat → V
  | some b => sg b
  | none => .non
/-- the signs of a turn -/
def spread (e : Nat × Nat) : List Nat := if e.1 = e.2 then [e.1] else [e.1, e.2]
/-- a font: signs and turns -/
structure Good (m : Nat) (S : Str) (ps : List (Nat × Nat)) : Prop where
  lo : 2 ≤ S.length
  hi : S.length ≤ m
  nd : S.cps.toList.Nodup
  ab : ∀ c ∈ S.cps.toList, c ∈ alphabet.cps.toList
  tnd : (ps.flatMap spread).Nodup
  tin : ∀ c ∈ ps.flatMap spread, c ∈ S.cps.toList
/-- the sign of a text of one sign -/
def ofSg : V → Nat
  | .str z => z.cps.toList.headD 0
  | _ => 0
theorem perm_signs {l : List Nat} {ys : List V} (h : ys.Perm (l.map sg)) : ∃ k : List Nat, ys = k.map sg ∧ k.Perm l := by
  have back : ∀ k : List Nat, (k.map sg).map ofSg = k := by
    intro k
    rw [List.map_map]
    exact List.map_id k
  refine ⟨ys.map ofSg, ?_, ?_⟩
  · rw [List.map_map]
    have : ∀ y ∈ ys, (sg ∘ ofSg) y = y := by
      intro y hy
      obtain ⟨c, _, rfl⟩ := List.mem_map.mp (h.mem_iff.mp hy)
      rfl
    rw [List.map_congr_left this]
    exact (List.map_id ys).symm
  · have := h.map ofSg
    rw [back] at this
    exact this
theorem join_signs : ∀ l : List Nat, Str.join Str.empty (l.map fun c => (⟨#[c]⟩ : Str)) = ⟨l.toArray⟩
  | [] => rfl
  | [c] => rfl
  | c :: d :: r => by
    have ih := join_signs (d :: r)
    show (⟨#[c]⟩ : Str) ++ Str.empty ++ Str.join Str.empty ((d :: r).map fun c => (⟨#[c]⟩ : Str)) = _
    rw [ih]
    show (⟨(#[c] ++ #[]) ++ (d :: r).toArray⟩ : Str) = _
    congr 1
    simp
theorem sum_ones : ∀ l : List Nat, ((l.map fun c => (⟨#[c]⟩ : Str)).map (·.length)).sum = l.length
  | [] => rfl
  | c :: l => by
    have ih := sum_ones l
    rw [List.map_cons, List.map_cons, List.sum_cons, ih, List.length_cons]
    show 1 + l.length = _
    omega
theorem eqV_sg (a b : Nat) : eqV (sg a) (sg b) = decide (a = b) := by
  show ((⟨#[a]⟩ : Str) == ⟨#[b]⟩) = _
  by_cases h : a = b
  · rw [h, decide_eq_true rfl]
    exact beq_self_eq_true _
  · rw [decide_eq_false h]
    exact beq_eq_false_iff_ne.mpr fun z => h (sign_inj.mp z)
theorem eqV_sgO (o : Option Nat) (b : Nat) : eqV (sgO o) (sg b) = decide (o = some b) := by
  cases o with
  | none => rfl
  | some a =>
    show eqV (sg a) (sg b) = _
    rw [eqV_sg]
    by_cases h : a = b
    · rw [h]; simp
    · rw [decide_eq_false h, decide_eq_false (fun z => h (Option.some.inj z))]
theorem inV_sg (c : Nat) (l : List Nat) : inV (sg c) (l.map sg) = decide (c ∈ l) := by
  induction l with
  | nil => rfl
  | cons a l ih =>
    show (eqV (sg a) (sg c) || inV (sg c) (l.map sg)) = _
    rw [ih, eqV_sg]
    by_cases h : a = c
    · subst h; simp
    · rw [decide_eq_false h, Bool.false_or, decide_eq_decide, List.mem_cons]
      exact ⟨.inr, fun z => z.elim (fun q => absurd q.symm h) id⟩
theorem inV_sgO (c : Nat) (f : Nat → Option Nat) (l : List Nat) : inV (sg c) (l.map fun x => sgO (f x)) = decide (some c ∈ l.map f) := by
  induction l with
  | nil => rfl
  | cons a l ih =>
    show (eqV (sgO (f a)) (sg c) || inV (sg c) (l.map fun x => sgO (f x))) = _
    rw [ih, eqV_sgO]
    by_cases h : f a = some c
    · rw [List.map_cons, h]; simp
    · rw [decide_eq_false h, Bool.false_or, decide_eq_decide, List.map_cons, List.mem_cons]
      exact ⟨.inr, fun z => z.elim (fun q => absurd q.symm h) id⟩
theorem flat_sg (l : List Nat) : (l.map sg).all flatV = true := by
  rw [List.all_eq_true]
  intro x hx
  obtain ⟨c, _, rfl⟩ := List.mem_map.mp hx
  rfl
theorem flat_sgO (f : Nat → Option Nat) (l : List Nat) : (l.map fun x => sgO (f x)).all flatV = true := by
  rw [List.all_eq_true]
  intro x hx
  obtain ⟨c, _, rfl⟩ := List.mem_map.mp hx
  cases f c <;> rfl
theorem filter_sg (p : V → Bool) (l : List Nat) : (l.map sg).filter p = (l.filter fun c => p (sg c)).map sg := by
  induction l with
  | nil => rfl
  | cons a l ih =>
    rw [List.map_cons, List.filter_cons, List.filter_cons, ih]
    cases p (sg a) <;> rfl
theorem dash_sg (c : Nat) : decide (sg c = V.str (PySem.Str.ofString "-")) = decide (c = 45) := by
  have e : PySem.Str.ofString "-" = (⟨#[45]⟩ : Str) := by decide
  rw [e, decide_eq_decide]
  exact ⟨fun z => sign_inj.mp (by injection z), fun z => by rw [z]⟩
theorem join_sg (l : List Nat) : Txt.join (PySem.Str.ofString "") (l.map fun c => (⟨#[c]⟩ : Str)) = mkS l := by
  rw [TL.join_eq]
  exact join_signs l
end My
end
section
set_option Elab.async false
set_option linter.all false
set_option maxRecDepth 100000
set_option maxHeartbeats 4000000
namespace My
open PySem PySem.Spec PyProof.Rows L2
/-! ### a pair turned round: t[::-1] -/
section
variable {prog : Program} {w : World} {A : Around} {E : Value → Shared → Prop} {s : Shared}
theorem applied2 {sl : Addr} {vl vu vs : Value} {Q : Int × Int × Nat → Shared → Prop} (hs : s.heap.IsSliceOf sl vl vu vs) (pl : IsPart vl none) (pu : IsPart vu none) (ps : IsPart vs (some (-1)))
    (h : Q ((1 : Int), -1, 2) s) : wpAny (model prog w) A (Builtin.Slice.sliceApplied (.ref sl) (pure (2 : Int))) Q E s := by
  obtain ⟨os, hos, hcs, hds⟩ := id hs
  unfold Builtin.Slice.sliceApplied Builtin.Slice.sliceFields
  refine wpAny_bind (wpAny_bind (wpAny_field hos hds (x := vl) rfl (wpAny_bind (wpAny_field hos hds (x := vu) rfl
    (wpAny_bind (wpAny_field hos hds (x := vs) rfl (wpAny_pure ?_)))))))
  refine wpAny_bind (HT.slicePart_ ps ?_)
  show wpAny _ _ (if ((-1 : Int) == 0) = true then _ else _) _ _ s
  rw [if_neg (by decide)]
  refine wpAny_bind (HT.slicePart_ pl (wpAny_bind (HT.slicePart_ pu (wpAny_bind (wpAny_pure ?_)))))
  exact wpAny_pure h
theorem get_turned {t sl : Addr} {u v vl vu vs : Value} {Q : Value → Shared → Prop} (ht : IsTup s.heap t #[u, v]) (hs : s.heap.IsSliceOf sl vl vu vs) (pl : IsPart vl none) (pu : IsPart vu none) (ps : IsPart vs (some (-1)))
    (h : Q (.ref s.heap.objs.size) { s with heap := s.heap.push { cls := .type "tuple", data := .seq #[v, u] } }) : wpAny (model prog w) A (getItem (.ref t) (.ref sl)) Q E s := by
  have fits : sizeOk (.seq #[v, u]) := by
    show 2 ≤ sizeLine
    rw [sizeLine_eq]
    decide
  obtain ⟨os, hos, hcs, hds⟩ := id hs
  have isS : s.TypeIs (.ref sl) "slice" := ⟨os, hos, hcs⟩
  unfold getItem
  try with_reducible refine wpAny_holding ?_
  first
    | refine wpAny_bind (wpAny_pure ?_)
    | skip
  refine wpAny_bind (wpAny_sequenceKey ht.typeIs (by decide) ?_)
  refine wpAny_bind (wpAny_callSpecial?_slot (name := Str.ofString "__getitem__") ht.typeIs PyProof.Rows.slot_tuple_getitem
    (wpAny_call_entry PyProof.Rows.slot_tuple_getitem ht.typeIs entry_tuple_getitem ?_ (args_tuple_getitem _ _)))
  show wpAny _ _ (Builtin.Tuple.tupleItemsOf (.ref t) >>= _) _ _ s
  refine wpAny_bind (tupleItemsOf_ ht ?_)
  refine wpAny_bind (wpAny_typeOf isS ?_)
  rw [if_pos (by decide)]
  refine wpAny_bind (applied2 hs pl pu ps ?_)
  show wpAny _ _ (if ((1 : Int) == 0 && (-1 : Int) == 1 && (2 : Nat) == 2) = true then _ else _) _ _ s
  rw [if_neg (by decide)]
  first
    | exact wpAny_bind (m := Builtin.Tuple.tupleExact _) (wpAny_newObj_type (wpAny_pure ⟨_, rfl, wpAny_pure h⟩) fits)
    | exact wpAny_bind (wpAny_bind (m := Builtin.Tuple.tupleExact _) (wpAny_newObj_type (wpAny_pure (wpAny_pure ⟨_, rfl, wpAny_pure h⟩)) fits))
    | exact wpAny_bind (wpAny_bind (m := Builtin.Tuple.tupleExact _) (wpAny_newObj_type (wpAny_pure ⟨_, rfl, wpAny_pure h⟩) fits))
end
/-- t[::-1], t a pair -/
def tTurn (K : PySem.W.Frag) (te : TE) : TE := fun σ H Q => te σ H fun x H1 => ∃ a x1 x2, x = .ref a ∧ SqT K H1 a [x1, x2] ∧ ∀ p H2, New H1 p (.tup [x2, x1]) H2 → Q (.ref p) H2
theorem pe_turn {X : Cx} {e : Expr} {te : TE} {k : Nat} {p1 p2 p3 pos : Pos} (he : PE X e te) : PE X (.Subscript e (.Slice none none (some (.UnaryOp .USub (.Constant (.int 1) k p1) p2)) p3) pos) (tTurn X.K te) := by
  refine ⟨fun pins s σ H Q I h => ?_⟩
  refine Subscript_ (thn (he.run pins s σ H _ I h) fun v s1 ⟨x, H1, I1, r1, q1⟩ => ?_)
  obtain ⟨a, x1, x2, ex, hx, q⟩ := q1
  subst ex
  cases r1
  have step : PO X (some (.UnaryOp .USub (.Constant (.int 1) k p1) p2)) (tPart (tUn (rU fun i => .int (-i)) (tC (.int 1)))) := po_some (pe_un un_neg pe_int)
  refine wpAny_Slice (thn (po_none.run pins s1 σ H1 (fun o H2 => o = none ∧ H2 = H1) I1 ⟨rfl, rfl⟩) fun vl s2 ⟨l, H2, I2, pl, el, e2⟩ => ?_)
  subst el e2
  refine thn (po_none.run pins s2 σ H2 (fun o H3 => o = none ∧ H3 = H2) I2 ⟨rfl, rfl⟩) fun vu s3 ⟨u, H3, I3, pu, eu, e3⟩ => ?_
  subst eu e3
  refine thn (step.run pins s3 σ H3 (fun o H4 => o = some (-1) ∧ H4 = H3) I3 ⟨1, rfl, -1, rfl, rfl, rfl⟩) fun vs s4 ⟨o, H4, I4, ps, eo, e4⟩ => ?_
  subst eo e4
  have I5 : Inv X pins σ H4 { s4 with heap := s4.heap.push { cls := .type "slice", data := .fields #[vl, vu, vs] } } := I4.kept (t' := s4.toks) fun b ob q => Heap.get?_push_of_some _ q
  obtain ⟨its, r, ht, hz⟩ := I5.tuple hx
  cases r with
  | cons r1 r2 =>
    cases r2 with
    | cons r3 r4 =>
      cases r4
      show wpAny (model X.prog X.w) X.A (subscriptTail e (.Slice none none (some (.UnaryOp .USub (.Constant (.int 1) k p1) p2)) p3) (.ref a) (.ref s4.heap.objs.size)) (EP X pins σ Q) X.xe { s4 with heap := s4.heap.push { cls := .type "slice", data := .fields #[vl, vu, vs] } }
      refine tail_any (ops := [.ref a, .ref s4.heap.objs.size]) (show Shared.TypeIs _ (.ref a) "tuple" from ht.typeIs) PyProof.Rows.slot_tuple_getitem.lookup ?_ (by with_unfolding_all rfl)
      refine get_turned ht (Heap.IsSliceOf.new _ vl vu vs) pl pu ps ?_
      refine ⟨.ref _, _, I5.laid (t' := s4.toks) (o := .tup [x2, x1]) (fun b ob q => Heap.get?_push_of_some _ q) (Nat.le_refl _) ?_, rfl, q _ _ (.mk' (I5.hok.fresh (Nat.le_refl _)))⟩
      exact ⟨by show 2 ≤ sizeLine; decide, _, .cons r3 (.cons r1 .nil), IsTup.new _ _⟩
end My
end
section
set_option Elab.async false
set_option linter.all false
set_option maxRecDepth 100000
set_option maxHeartbeats 2000000
namespace My
open PySem PySem.Spec PyProof.Rows L2
/-! ### a list that may hold a dict: it does not stand at sys.modules' place -/
section
variable {X : Cx}
def qLstB (t : TA) : TE := fun σ H Q => t σ H fun xs H1 => xs.length ≤ sizeLine ∧ ∀ p H2, p ≠ sysModules → New H1 p (.lst xs) H2 → Q (.ref p) H2
theorem pe_lstB {es : List Expr} {t : TA} {pos : Pos} (h : PA X es t) : PE X (.List es pos) (qLstB t) := by
  constructor
  intro pins s σ H Q I q
  apply wpAny_List_spliced
  apply thn (h.run pos pins s σ H _ I q)
  intro us s1 hv
  obtain ⟨xs, H1, J, r, z, k⟩ := hv
  have free : H1 s1.heap.objs.size = none := J.hok.fresh (Nat.le_refl _)
  have other : s1.heap.objs.size ≠ sysModules := Nat.ne_of_gt J.big
  constructor
  · rw [← r.length]
    exact z
  have laid : ObjOk X.prog X.w (upd H1 s1.heap.objs.size (.lst xs)) (s1.heap.push { cls := .type "list", data := .seq us.toArray }) s1.heap.objs.size (.lst xs) := ⟨z, us, 0, r, Heap.get?_push_size _ rfl⟩
  have J2 := J.laid (t' := s1.toks) (fun b u e => Heap.get?_push_of_some _ e) (Nat.le_refl _) laid
  exact ⟨.ref s1.heap.objs.size, _, J2, rfl, k _ _ other (.mk' free)⟩
end
end My
end
section
set_option Elab.async false
set_option linter.all false
set_option maxRecDepth 100000
set_option maxHeartbeats 2000000
namespace My
open PySem PySem.Spec PyProof.Rows L2
abbrev s_pick : Stmt := topS 44
abbrev s_shuf : Stmt := topS 45
section
variable {P : Program} {w : World} {K : PySem.W.Frag} {mg : Str → Option Value} {base : Heap}
theorem sc_pick : FnScope ["_law_pen_here", "_law_options"] ["_law_pen_here", "_law_options"] (defScope s_pick) := ⟨rfl, rfl, rfl, by decide +kernel, rfl, by decide +kernel, by decide +kernel⟩
theorem ok_pick {f fD : Addr} {fd fdD : FuncData} (F : Fun K "_law_pick" "_law_pick" s_pick f fd) (T : TDraw mg) (D : Def K mg "_law_draw" fD fdD ["_law_pen_here", "_law_many"]) (G : FnOk P w K mg base CX0 1 fD fdD ["_law_pen_here", "_law_many"] sp_draw) :
    FnOk P w K mg base CX0 2 f fd ["_law_pen_here", "_law_options"] (sp_pick K) := by
  refine F.ok sc_pick (fun vs H Q E h => ?_) (fun cdv A outer s H vs Q E hr h => ?_)
  · obtain ⟨p, c, a, xs, n, rfl, _⟩ := h
    rfl
  · obtain ⟨p, c, a, xs, n, rfl, hP, hn, hS, hap, h0, h1, k⟩ := h
    refine ⟨_, pss_one (ps_ret (pe_ix ix_list (pv 1) (pe_call G hr rfl D.mgf D.kp D.bd .nil pass0 (pa_cons (pv 0) (pa_cons (pe_callB call_len_seq (by rfl) T.len PySem.boot_len (pa_cons (pv 1) pa_nil)) pa_nil))) (fun _ _ => rfl))), ?_⟩
    refine ⟨_, rfl, _, rfl, _, rfl, a, _, rfl, .inl hS, p, c, _, n, rfl, hP, hn, by omega, by omega, fun H' r hD r0 r1 => ?_⟩
    obtain ⟨j, rfl⟩ : ∃ j : Nat, r = j := ⟨_, (Int.toNat_of_nonneg r0).symm⟩
    have hj : j < xs.length := by omega
    exact ⟨a, xs, _, xs[j], rfl, rfl, hD.but.seq hap hS, atI_nat (by simp [hj]), k _ _ hD (List.getElem_mem hj)⟩
theorem sc_shuf : FnScope ["_law_pen_here", "_law_items", "_law_left", "_law_found"] ["_law_pen_here", "_law_items"] (defScope s_shuf) := ⟨rfl, rfl, rfl, by decide +kernel, rfl, by decide +kernel, by decide +kernel⟩
theorem ok_shuf {f fD : Addr} {fd fdD : FuncData} (F : Fun K "_law_shuffled" "_law_shuffled" s_shuf f fd) (T : TDraw mg) (Tl : mg "list" = none) (D : Def K mg "_law_draw" fD fdD ["_law_pen_here", "_law_many"]) (G : FnOk P w K mg base CX0 1 fD fdD ["_law_pen_here", "_law_many"] sp_draw) :
    FnOk P w K mg base CX0 2 f fd ["_law_pen_here", "_law_items"] (sp_shuf K) := by
  refine F.ok sc_shuf (fun vs H Q E h => ?_) (fun cdv A outer s H vs Q E hr h => ?_)
  · obtain ⟨p, c, x, xs, n, rfl, _⟩ := h
    rfl
  · obtain ⟨p, c, x, xs, n, rfl, hP, hn, hS, hxl, k⟩ := h
    refine ⟨_, pss_cons (ps_par (i := 2) (j := 3) rfl sc_shuf.nd rfl rfl (by decide) rfl rfl (pa_cons (pe_callTy (call_listAny hr.hd) (by rfl) Tl (by decide +kernel) (pa_cons (pv 1) pa_nil)) (pa_cons (pe_lst' pa_nil) pa_nil)) (by rfl))
      (pss_cons (ps_while PassesOwn.never (pt_cmpR (op_neNil hr.units0) (pv 2) (pe_lst' pa_nil) (nomark _))
        (pss_one (ps_expr (pe_bm PySem.F.plainAttrs_list PySem.F.slot_list_append PySem.F.type_list_append mt_append' (pv 3) (pa_cons
          (pe_bm PySem.F.plainAttrs_list PySem.F.slot_list_pop PySem.F.type_list_pop mt_popAt' (pv 2) (pa_cons (pe_call G hr rfl D.mgf D.kp D.bd .nil pass0 (pa_cons (pv 0) (pa_cons (pe_callB call_len_seq (by rfl) T.len PySem.boot_len (pa_cons (pv 2) pa_nil)) pa_nil))) pa_nil)) pa_nil)))))
      (pss_one (ps_ret (pv 3)))), ?_⟩
    refine ⟨_, rfl, x, xs, rfl, hS, fun a H1 n1 => ⟨by decide, fun b H2 n2 => ⟨_, _, rfl, ?_⟩⟩⟩
    have hpa : p ≠ a := hP.ne n1.free
    have hpb : p ≠ b := (hP.same n1.same).ne n2.free
    have hca : c ≠ a := hP.neC n1.free
    have hcb : c ≠ b := (hP.same n1.same).neC n2.free
    have hab : a ≠ b := ne_of_none n1.here n2.free
    have hb0 : H b = none := by
      cases e : H b with
      | none => rfl
      | some o => have := n1.same _ _ e; rw [n2.free] at this; cases this
    have s2 : Same H H2 := n1.same.trans n2.same
    refine while_by (fun σ H' => ∃ (left found : List V) (m : Nat), σ = [some (.ref p), some x, some (.ref a), some (.ref b)] ∧ H' a = some (.lst left) ∧ H' b = some (.lst found) ∧ But p H H' ∧ PenAt H' p c m ∧ m + left.length ≤ n + xs.length ∧ (found ++ left).Perm xs)
      (fun _ H' => match H' a with | some (.lst l) => l.length | _ => 0) ⟨xs, [], n, rfl, n2.same _ _ n1.here, n2.here, .of s2, hP.same s2, Nat.le_refl _, by simp⟩ ?_ ?_
    · rintro σ H3 ⟨left, found, m, rfl, ha, hb, hB, hP3, hm, hperm⟩
      have hlen := hperm.length_eq
      rw [List.length_append] at hlen
      refine ⟨_, rfl, by decide, fun q H4 n4 => ⟨a, q, left, rfl, rfl, SqL.of (n4.same _ _ ha), n4.here, _, rfl, ?_⟩⟩
      have ha4 := n4.same _ _ ha
      have hb4 := n4.same _ _ hb
      have hP4 := hP3.same n4.same
      refine ite2 (fun ht => ?_) (fun hf => ?_)
      · have hpos : 0 < left.length := by
          cases left with
          | nil => simp at ht
          | cons _ _ => simp
        refine ⟨_, rfl, .inl ⟨rfl, _, SqL.of hb4⟩, _, rfl, .inl ⟨rfl, _, SqL.of ha4⟩, _, rfl, _, rfl, a, _, rfl, .inl (SqL.of ha4), p, c, _, m, rfl, hP4, by omega, by omega, by omega, fun H5 r hD r0 r1 => ?_⟩
        obtain ⟨j, rfl⟩ : ∃ j : Nat, r = j := ⟨_, (Int.toNat_of_nonneg r0).symm⟩
        have hj : j < left.length := by omega
        have ha5 := hD.but a _ hpa.symm ha4
        have hb5 := hD.but b _ hpb.symm hb4
        refine ⟨a, left, left[j], j, rfl, rfl, ha5, by simp [hj], by omega, fun H6 w6 => ?_⟩
        have hb6 : H6 b = some (.lst found) := (w6.els b hab.symm).trans hb5
        have fits : found.length < sizeLine := Nat.lt_of_le_of_lt (show found.length ≤ 1000000 by omega) (by decide)
        refine ⟨b, found, left[j], rfl, rfl, hb6, fits, fun H7 w7 => ?_⟩
        refine ⟨⟨left.eraseIdx j, found ++ [left[j]], m + 1, rfl, (w7.els a hab).trans w6.here, w7.here, ?_, ?_, ?_, ?_⟩, ?_⟩
        · exact But.wr (But.wr ((hB.trans (.of n4.same)).trans hD.but) n1.free w6) hb0 w7
        · exact (hD.pen.els w6 hpa hca).els w7 hpb hcb
        · rw [List.length_eraseIdx_of_lt hj]
          omega
        · rw [List.append_assoc]
          exact (List.Perm.append_left found (perm_eraseIdx hj)).trans hperm
        · show (match H7 a with | some (.lst l) => l.length | _ => 0) < (match H3 a with | some (.lst l) => l.length | _ => 0)
          rw [(w7.els a hab).trans w6.here, ha]
          show (left.eraseIdx j).length < left.length
          rw [List.length_eraseIdx_of_lt hj]
          omega
      · have hnil : left = [] := by
          cases left with
          | nil => rfl
          | cons _ _ => simp at hf
        subst hnil
        rw [List.append_nil] at hperm
        exact ⟨_, rfl, k _ b found ⟨hB.trans (.of n4.same), hP4.mono (by rw [List.length_nil] at hm; omega)⟩ hb0 hb4 hperm⟩
    · intro σ H Q Q' m h
      obtain ⟨v, e, h0, h⟩ := h
      refine ⟨v, e, h0, fun q H' n => ?_⟩
      obtain ⟨a, b, xs, e1, e2, h1, h2, k, e3, h3⟩ := h q H' n
      exact ⟨a, b, xs, e1, e2, h1, h2, k, e3, m _ _ h3⟩
end
end My
end
section
set_option Elab.async false
set_option linter.all false
set_option maxRecDepth 100000
set_option maxHeartbeats 4000000
namespace My
open PySem PySem.Spec PyProof.Rows L2
abbrev s_flip : Stmt := topS 53
abbrev s_font : Stmt := topS 47
def sp_flip (K : PySem.W.Frag) : Sp := fun vs H Q _ => ∃ (p c q : Addr) (x y : V) (n : Nat), vs = [.ref p, .ref q] ∧ PenAt H p c n ∧ n < 2 ^ 60 ∧ H q = some (.tup [x, y]) ∧
  ∀ H' r, DrewP H p c (n + 1) H' → (H' r = some (.tup [x, y]) ∨ H' r = some (.tup [y, x])) → Q (.ref r) H'
def sp_font (K : PySem.W.Frag) : Sp := fun vs H Q _ => ∃ (p c : Addr) (m n : Nat), vs = [.ref p, .int m] ∧ PenAt H p c n ∧ n < 2 ^ 50 ∧ 2 ≤ m ∧ m ≤ 10 ∧
  ∀ H' t a S ys ps, DrewP H p c (n + 40) H' → H t = none → H a = none → H' t = some (.tup [.str S, .ref a]) → H' a = some (.lst ys) → PairsAt H' ps ys → Good m S ps → a ≠ sysModules → Q (.ref t) H'
section
variable {P : Program} {w : World} {K : PySem.W.Frag} {mg : Str → Option Value} {base : Heap}
theorem sc_flip : FnScope ["_law_pen_here", "_law_pair"] ["_law_pen_here", "_law_pair"] (defScope s_flip) := ⟨rfl, rfl, rfl, by decide +kernel, rfl, by decide +kernel, by decide +kernel⟩
theorem ok_flip {f fP : Addr} {fd fdP : FuncData} (F : Fun K "_law_flipped" "_law_flipped" s_flip f fd) (D : Def K mg "_law_pick" fP fdP ["_law_pen_here", "_law_options"]) (G : FnOk P w K mg base CX0 2 fP fdP ["_law_pen_here", "_law_options"] (sp_pick K)) :
    FnOk P w K mg base CX0 3 f fd ["_law_pen_here", "_law_pair"] (sp_flip K) := by
  refine F.ok sc_flip (fun vs H Q E h => ?_) (fun cdv A outer s H vs Q E hr h => ?_)
  · obtain ⟨p, c, q, x, y, n, rfl, _⟩ := h
    rfl
  · obtain ⟨p, c, q, x, y, n, rfl, hP, hn, hq, k⟩ := h
    refine ⟨_, pss_one (ps_ret (pe_call G hr rfl D.mgf D.kp D.bd .nil pass0 (pa_cons (pv 0) (pa_cons (pe_lst' (pa_cons (pv 1) (pa_cons (pe_turn (pv 1)) pa_nil))) pa_nil)))), ?_⟩
    refine ⟨_, rfl, _, rfl, _, rfl, q, x, y, rfl, SqT.of hq, fun r H1 n1 => ⟨by show 2 ≤ sizeLine; decide, fun a H2 n2 => ?_⟩⟩
    have s2 : Same H H2 := n1.same.trans n2.same
    have ha : a ≠ p := fun e => (hP.same n1.same).ne n2.free e.symm
    have hqp : q ≠ p := hP.neT hq
    have hrp : r ≠ p := fun e => hP.ne n1.free e.symm
    refine ⟨p, c, a, _, n, rfl, hP.same s2, hn, SqL.of n2.here, ha, by show 0 < 2; decide, by show 2 ≤ 1000000; decide, fun H3 v hD hv => ?_⟩
    have dr : DrewP H p c (n + 1) H3 := ⟨(But.of s2).trans hD.but, hD.pen⟩
    rcases List.mem_cons.mp hv with rfl | hv
    · exact k _ _ dr (.inl (hD.but _ _ hqp (s2 _ _ hq)))
    · rcases List.mem_cons.mp hv with rfl | hv
      · exact k _ _ dr (.inr (hD.but _ _ hrp (n2.same _ _ n1.here)))
      · cases hv
theorem sc_font : FnScope ["_law_pen_here", "_law_most", "_law_many", "_law_pool", "_law_signs", "_law_left", "_law_turns", "_law_one", "_law_way"] ["_law_pen_here", "_law_most"] (defScope s_font) := ⟨rfl, rfl, rfl, by decide +kernel, rfl, by decide +kernel, by decide +kernel⟩
theorem ok_font {f fD fP fS : Addr} {fd fdD fdP fdS : FuncData} (F : Fun K "_law_font" "_law_font" s_font f fd) (D : Def K mg "_law_draw" fD fdD ["_law_pen_here", "_law_many"]) (G : FnOk P w K mg base CX0 1 fD fdD ["_law_pen_here", "_law_many"] sp_draw)
    (DP : Def K mg "_law_pick" fP fdP ["_law_pen_here", "_law_options"]) (GP : FnOk P w K mg base CX0 2 fP fdP ["_law_pen_here", "_law_options"] (sp_pick K))
    (DS : Def K mg "_law_shuffled" fS fdS ["_law_pen_here", "_law_items"]) (GS : FnOk P w K mg base CX0 2 fS fdS ["_law_pen_here", "_law_items"] (sp_shuf K)) :
    FnOk P w K mg base CX0 3 f fd ["_law_pen_here", "_law_most"] (sp_font K) := by
  refine F.ok sc_font (fun vs H Q E h => ?_) (fun cdv A outer s H vs Q E hr h => ?_)
  · obtain ⟨p, c, m, n, rfl, _⟩ := h
    rfl
  · obtain ⟨p, c, m, n, rfl, hP, hn, hm2, hm, k⟩ := h
    have hr1 : Room 1 _ := hr.mono (by decide)
    refine ⟨_, pss_cons (ps_set (i := 2) sc_font.nd rfl (Or.inl rfl) (pe_op op_add pe_int (pe_call G hr1 rfl D.mgf D.kp D.bd .nil pass0 (pa_cons (pv 0) (pa_cons (pe_op op_sub (pv 1) pe_int) pa_nil)))))
      (pss_cons (ps_set (i := 3) sc_font.nd rfl (Or.inl rfl) (pe_call GP hr rfl DP.mgf DP.kp DP.bd .nil pass0 (pa_cons (pv 0) (pa_cons (pe_lst' (pa_cons pe_str (pa_cons pe_str (pa_cons pe_str (pa_cons pe_str pa_nil))))) pa_nil))))
      (pss_cons (ps_set (i := 4) sc_font.nd rfl (Or.inl rfl) (pe_join pe_str (pe_slice sl_list' (pe_call GS hr rfl DS.mgf DS.kp DS.bd .nil pass0 (pa_cons (pv 0) (pa_cons (pe_slice sl_str (pv 3) po_none (po_some pe_int)) pa_nil))) po_none (po_some (pv 2)))))
      (pss_cons (ps_par (i := 5) (j := 6) rfl sc_font.nd rfl rfl (by decide) rfl rfl (pa_cons (pe_call GS hr rfl DS.mgf DS.kp DS.bd .nil pass0 (pa_cons (pv 0) (pa_cons (pv 4) pa_nil))) (pa_cons (pe_lstB pa_nil) pa_nil)) (by rfl))
      (pss_cons (ps_while PassesOwn.never (pt_cmpR (op_neNil hr.units0) (pv 5) (pe_lst' pa_nil) (nomark _))
        (pss_cons (ps_par (i := 7) (j := 8) rfl sc_font.nd rfl rfl (by decide) rfl rfl (pa_cons (pe_bm0 PySem.F.plainAttrs_list PySem.F.slot_list_pop PySem.F.type_list_pop mt_pop' (pv 5)) (pa_cons (pe_call G hr1 rfl D.mgf D.kp D.bd .nil pass0 (pa_cons (pv 0) (pa_cons pe_int pa_nil))) pa_nil)) (by rfl))
        (pss_cons (ps_if (pt_cmpR op_eq (pv 8) pe_int (nomark _)) (pss_one (ps_expr (pe_bm PySem.F.plainAttrs_list PySem.F.slot_list_append PySem.F.type_list_append mt_append' (pv 6) (pa_cons (pe_tup' (pa_cons (pv 7) (pa_cons (pv 7) pa_nil))) pa_nil)))) pss_nil)
        (pss_one (ps_if (PW.pt (pw_and (pt_cmpR op_eq (pv 8) pe_int (nomark _)) (pw_and1 (pt_cmpR (op_neNil hr.units0) (pv 5) (pe_lst' pa_nil) (nomark _)))))
          (pss_one (ps_expr (pe_bm PySem.F.plainAttrs_list PySem.F.slot_list_append PySem.F.type_list_append mt_append' (pv 6) (pa_cons (pe_tup' (pa_cons (pv 7) (pa_cons (pe_bm0 PySem.F.plainAttrs_list PySem.F.slot_list_pop PySem.F.type_list_pop mt_pop' (pv 5)) pa_nil))) pa_nil)))) pss_nil)))))
      (pss_one (ps_ret (pe_tup' (pa_cons (pv 4) (pa_cons (pv 6) pa_nil))))))))), ?_⟩
    refine ⟨_, rfl, _, rfl, _, _, rfl, rfl, p, c, (m : Int) - 1, n, rfl, hP, by omega, by omega, by omega, fun H1 r d1 r0 r1 => ?_⟩
    refine ⟨_, _, rfl, rfl, ?_⟩
    obtain ⟨j, rfl⟩ : ∃ j : Nat, r = j := ⟨_, (Int.toNat_of_nonneg r0).symm⟩
    have hk2 : ((2 : Int) + (j : Int)) = ((2 + j : Nat) : Int) := by omega
    have hkm : 2 + j ≤ m := by omega
    refine ⟨_, rfl, by show 4 ≤ sizeLine; decide, fun a2 H2 n2 => ?_⟩
    have P2 := d1.pen.same n2.same
    refine ⟨p, c, a2, _, n + 1, rfl, P2, by omega, SqL.of n2.here, fun e => d1.pen.ne n2.free e.symm, by show 0 < 4; decide, by show 4 ≤ 1000000; decide, fun H3 v d3 hv => ?_⟩
    have pool : ∃ z : Str, v = .str z ∧ 10 ≤ z.length ∧ z.length ≤ 26 ∧ z.cps.toList.Nodup ∧ ∀ c ∈ z.cps.toList, c ∈ alphabet.cps.toList := by
      rcases List.mem_cons.mp hv with rfl | hv
      · exact ⟨_, rfl, by decide, by decide, by decide +kernel, by decide +kernel⟩
      rcases List.mem_cons.mp hv with rfl | hv
      · exact ⟨_, rfl, by decide, by decide, by decide +kernel, by decide +kernel⟩
      rcases List.mem_cons.mp hv with rfl | hv
      · exact ⟨_, rfl, by decide, by decide, by decide +kernel, by decide +kernel⟩
      rcases List.mem_cons.mp hv with rfl | hv
      · exact ⟨_, rfl, by decide, by decide, by decide +kernel, by decide +kernel⟩
      cases hv
    obtain ⟨z, rfl, z10, z26, znd, zab⟩ := pool
    have cutE : (cutS z none (some (10 : Int))).cps.toList = z.cps.toList.take 10 := by
      show (((z.cps.toList.drop (HT.sIx z.length 0 none)).take (HT.sIx z.length z.length (some ((10 : Nat) : Int)) - HT.sIx z.length 0 none)).toArray).toList = _
      rw [HT.sIx_none, HT.sIx_nat, List.drop_zero, Nat.sub_zero, Nat.min_eq_left z10]
    have cutL : (signs (cutS z none (some (10 : Int)))).length = 10 := by
      unfold signs
      rw [List.length_map, cutE, List.length_take]
      have : z.cps.toList.length = z.length := Array.length_toList
      omega
    have dA : DrewP H p c (n + 2) H3 := ⟨(d1.but.trans (.of n2.same)).trans d3.but, d3.pen⟩
    refine ⟨⟨_, rfl⟩, _, rfl, _, rfl, 10, rfl, z, rfl, Nat.le_trans z26 (by decide), ?_⟩
    refine ⟨p, c, _, _, n + 2, rfl, dA.pen, by rw [cutL]; omega, SqA.str (by rw [← signs_len, cutL]; decide), by rw [cutL]; decide, fun H4 r4 ys4 d4 f4 h4 hp4 => ?_⟩
    obtain ⟨l4, rfl, hl4⟩ := perm_signs hp4
    rw [cutE] at hl4
    have len4 : l4.length = 10 := by
      rw [hl4.length_eq, List.length_take]
      have : z.cps.toList.length = z.length := Array.length_toList
      omega
    refine ⟨_, rfl, _, rfl, r4, _, rfl, SqL.of h4, fun q5 H5 n5 => ?_⟩
    have cut5 : cutV (l4.map sg) none (some ((2 : Int) + (j : Int))) = ((l4.take (2 + j)).map fun c => (⟨#[c]⟩ : Str)).map V.str := by
      rw [hk2, cutV_to, List.map_map, ← List.map_take]
      rfl
    have n5' : New H4 q5 (.lst (((l4.take (2 + j)).map fun c => (⟨#[c]⟩ : Str)).map V.str)) H5 := by
      rw [← cut5]
      exact n5
    have hjl : (l4.take (2 + j)).length = 2 + j := by
      rw [List.length_take]
      omega
    refine ⟨_, q5, _, rfl, rfl, .inl (SqL.of n5'.here), ?_, ?_⟩
    · rw [sum_ones, hjl]
      have : (PySem.Str.ofString "").length = 0 := by decide
      rw [this]
      omega
    have jE : Txt.join (PySem.Str.ofString "") ((l4.take (2 + j)).map fun c => (⟨#[c]⟩ : Str)) = ⟨(l4.take (2 + j)).toArray⟩ := by
      rw [TL.join_eq]
      exact join_signs _
    rw [jE]
    have good : ∃ S : Str, S = ⟨(l4.take (2 + j)).toArray⟩ ∧ 2 ≤ S.length ∧ S.length ≤ m ∧ S.cps.toList.Nodup ∧ ∀ c ∈ S.cps.toList, c ∈ alphabet.cps.toList := by
      refine ⟨_, rfl, ?_, ?_, ?_, ?_⟩
      · show 2 ≤ (l4.take (2 + j)).toArray.size
        rw [List.size_toArray, hjl]
        omega
      · show (l4.take (2 + j)).toArray.size ≤ m
        rw [List.size_toArray, hjl]
        exact hkm
      · show (l4.take (2 + j)).Nodup
        exact (hl4.nodup_iff.mpr (znd.sublist (List.take_sublist _ _))).sublist (List.take_sublist _ _)
      · intro c hc
        have hc : c ∈ l4.take (2 + j) := hc
        exact zab c (List.mem_of_mem_take (hl4.mem_iff.mp (List.mem_of_mem_take hc)))
    obtain ⟨S, eS, S2, Sm, Snd, Sab⟩ := good
    rw [← eS]
    have dB : DrewP H p c (n + 12) H5 := by
      have d4' : DrewP H3 p c (n + 12) H4 := by
        have e : n + 2 + (signs (cutS z none (some (10 : Int)))).length = n + 12 := by rw [cutL]
        rw [← e]
        exact d4
      exact (dA.trans d4').new n5
    have lS : (signs S).length = S.length := signs_len S
    refine ⟨_, rfl, _, rfl, p, c, .str S, _, n + 12, rfl, dB.pen, by omega, SqA.str (Nat.le_trans Sm (Nat.le_trans hm (by decide))), by rw [lS]; omega, fun H6 a ys6 d6 f6 h6 hp6 => ⟨by decide, fun b H7 bs n7 => ⟨_, _, rfl, ?_⟩⟩⟩
    obtain ⟨l6, rfl, hl6⟩ := perm_signs hp6
    have dC : DrewP H p c (n + 22) H7 := ((dB.trans d6).new n7).mono (by rw [lS]; omega)
    have len6 : l6.length ≤ 10 := by
      rw [hl6.length_eq]
      have : S.cps.toList.length = S.length := Array.length_toList
      omega
    have hpa : p ≠ a := dB.pen.ne f6
    have hca : c ≠ a := dB.pen.neC f6
    have hpb : p ≠ b := d6.pen.ne n7.free
    have hcb : c ≠ b := d6.pen.neC n7.free
    have hab : a ≠ b := ne_of_none h6 n7.free
    have ha0 : H a = none := dB.but.free hpa.symm f6
    have hb0 : H b = none := (dB.but.trans d6.but).free hpb.symm n7.free
    refine while_by (fun σ H' => ∃ (l : List Nat) (ps : List (Nat × Nat)) (ys : List V) (w1 w2 : Option V) (cnt : Nat), σ = [some (.ref p), some (.int m), some (.int ((2 : Int) + (j : Int))), some (.str z), some (.str S), some (.ref a), some (.ref b), w1, w2] ∧
        H' a = some (.lst (l.map sg)) ∧ H' b = some (.lst ys) ∧ PairsAt H' ps ys ∧ But p H H' ∧ PenAt H' p c cnt ∧ cnt + l.length ≤ n + 32 ∧ l.length + ps.length ≤ 10 ∧ (l ++ ps.flatMap spread).Nodup ∧ ∀ c ∈ l ++ ps.flatMap spread, c ∈ S.cps.toList)
      (fun _ H' => match H' a with | some (.lst l) => l.length | _ => 0)
      ⟨l6, [], [], none, none, n + 22, rfl, n7.same _ _ h6, n7.here, .nil, dC.but, dC.pen, by omega, by simpa using len6, by simpa using hl6.nodup_iff.mpr Snd, by simpa using fun c hc => hl6.mem_iff.mp hc⟩ ?_ ?_
    · rintro σ H3 ⟨l, ps, ys, w1, w2, cnt, rfl, ha, hb, hPs, hB, hPen, hcnt, hlp, hnd, hin⟩
      refine ⟨_, rfl, by decide, fun q H4 n4 => ⟨a, q, _, rfl, rfl, SqL.of (n4.same _ _ ha), n4.here, _, rfl, ?_⟩⟩
      have ha4 := n4.same _ _ ha
      have hb4 := n4.same _ _ hb
      have hP4 := hPen.same n4.same
      have hPs4 := hPs.same n4.same
      have hB4 : But p H H4 := hB.trans (.of n4.same)
      refine ite2 (fun ht => ?_) (fun hf => ?_)
      · have lne : l ≠ [] := by
          intro e
          rw [e] at ht
          simp at ht
        obtain ⟨l', o, rfl⟩ : ∃ l' o, l = l' ++ [o] := ⟨l.dropLast, l.getLast lne, (List.dropLast_concat_getLast lne).symm⟩
        have hmap : (l' ++ [o]).map sg = l'.map sg ++ [sg o] := by simp
        rw [hmap] at ha4
        refine ⟨_, rfl, .inl ⟨rfl, _, SqL.of ha4⟩, a, _, sg o, rfl, rfl, ha4, by simp, fun H5 w5 => ⟨_, rfl, p, c, 3, cnt, rfl, hP4.els w5 hpa hca, by omega, by decide, by decide, fun H8 r d8 r0 r1 => ⟨_, _, rfl, ?_⟩⟩⟩
        rw [List.dropLast_concat] at w5
        rw [List.length_append, List.length_singleton] at hcnt hlp
        have hb5 : H5 b = some (.lst ys) := (w5.els b hab.symm).trans hb4
        have hPs5 : PairsAt H5 ps ys := Paired.map (fun e y hy => by
          obtain ⟨q', e1, e2⟩ := hy
          exact ⟨q', e1, (w5.els q' (ne_of e2 ha4 (by intro z; cases z))).trans e2⟩) hPs4
        have ha8 : H8 a = some (.lst (l'.map sg)) := d8.but _ _ hpa.symm w5.here
        have hb8 : H8 b = some (.lst ys) := d8.but _ _ hpb.symm hb5
        have hPs8 : PairsAt H8 ps ys := Paired.map (fun e y hy => by
          obtain ⟨q', e1, e2⟩ := hy
          exact ⟨q', e1, d8.but _ _ ((hP4.els w5 hpa hca).neT e2) e2⟩) hPs5
        have hB8 : But p H H8 := (But.wr hB4 ha0 w5).trans d8.but
        have ylen := hPs8.length
        have small : ys.length < sizeLine := Nat.lt_of_le_of_lt (show ys.length ≤ 100 by omega) (by decide)
        have less : l'.length < (l' ++ [o]).length := by simp
        have hr3 : r = 0 ∨ r = 1 ∨ r = 2 := by omega
        rcases hr3 with rfl | rfl | rfl
        · refine ⟨_, rfl, rfl, _, rfl, ?_⟩
          refine iteF ⟨_, rfl, rfl, _, rfl, ?_⟩
          refine iteF (iteF ?_)
          refine ⟨⟨l', ps, ys, _, _, cnt + 1, rfl, ha8, hb8, hPs8, hB8, d8.pen, by omega, by omega, ?_, ?_⟩, ?_⟩
          · exact (hnd.sublist (List.Sublist.append_right (List.sublist_append_left _ _) _))
          · intro c hc
            refine hin c ?_
            rw [List.append_assoc]
            rcases List.mem_append.mp hc with hc | hc
            · exact List.mem_append_left _ hc
            · exact List.mem_append_right _ (List.mem_append_right _ hc)
          · show (match H8 a with | some (.lst l) => l.length | _ => 0) < (match H3 a with | some (.lst l) => l.length | _ => 0)
            rw [ha8, ha]
            simp
        · refine ⟨_, rfl, rfl, _, rfl, ?_⟩
          refine iteT ⟨_, rfl, .inl ⟨rfl, _, SqL.of hb8⟩, _, rfl, _, rfl, by show 2 ≤ sizeLine; decide, fun e H9 n9 => ⟨b, ys, .ref e, rfl, rfl, n9.same _ _ hb8, small, fun H10 w10 => ?_⟩⟩
          refine ⟨_, rfl, rfl, _, rfl, ?_⟩
          refine iteF (iteF ?_)
          have hbe : e ≠ b := (ne_of_none hb8 n9.free).symm
          have hb9 : H9 b = some (.lst ys) := n9.same _ _ hb8
          have hP9 : PairsAt H10 (ps ++ [(o, o)]) (ys ++ [.ref e]) := Paired.snoc (Paired.map (fun e' y hy => by
            obtain ⟨q', e1, e2⟩ := hy
            exact ⟨q', e1, (w10.els q' (ne_of e2 hb9 (by intro z; cases z))).trans e2⟩) (hPs8.same n9.same)) ⟨e, rfl, (w10.els e hbe).trans n9.here⟩
          have fm : (ps ++ [(o, o)]).flatMap spread = ps.flatMap spread ++ [o] := by
            rw [List.flatMap_append]
            simp [spread]
          have pm : (l' ++ (ps ++ [(o, o)]).flatMap spread).Perm (l' ++ [o] ++ ps.flatMap spread) := by
            rw [fm, List.append_assoc]
            exact List.Perm.append_left l' List.perm_append_comm
          refine ⟨⟨l', ps ++ [(o, o)], ys ++ [.ref e], _, _, cnt + 1, rfl, (w10.els a hab).trans (n9.same _ _ ha8), w10.here, hP9, But.wr (hB8.trans (.of n9.same)) hb0 w10, (d8.pen.same n9.same).els w10 hpb hcb, by omega, by rw [List.length_append, List.length_singleton]; omega, pm.nodup_iff.mpr hnd, fun c hc => hin c (pm.mem_iff.mp hc)⟩, ?_⟩
          show (match H10 a with | some (.lst l) => l.length | _ => 0) < (match H3 a with | some (.lst l) => l.length | _ => 0)
          rw [(w10.els a hab).trans (n9.same _ _ ha8), ha]
          simp
        · refine ⟨_, rfl, rfl, _, rfl, ?_⟩
          refine iteF ⟨_, rfl, rfl, _, rfl, ?_⟩
          refine iteT ⟨_, rfl, by decide, fun q2 H9 n9 => ⟨a, q2, _, rfl, rfl, SqL.of (n9.same _ _ ha8), n9.here, _, rfl, ?_⟩⟩
          have ha9 := n9.same _ _ ha8
          have hb9 := n9.same _ _ hb8
          refine ite2 (fun ht2 => ?_) (fun hf2 => ?_)
          · have lne2 : l' ≠ [] := by
              intro e
              rw [e] at ht2
              simp at ht2
            obtain ⟨k', o2, rfl⟩ : ∃ k' o2, l' = k' ++ [o2] := ⟨l'.dropLast, l'.getLast lne2, (List.dropLast_concat_getLast lne2).symm⟩
            have hmap2 : (k' ++ [o2]).map sg = k'.map sg ++ [sg o2] := by simp
            rw [hmap2] at ha9
            refine ⟨_, rfl, .inl ⟨rfl, _, SqL.of hb9⟩, _, rfl, _, rfl, .inl ⟨rfl, _, SqL.of ha9⟩, a, _, sg o2, rfl, rfl, ha9, by simp, fun H10 w10 => ⟨by show 2 ≤ sizeLine; decide, fun e H11 n11 => ?_⟩⟩
            rw [List.dropLast_concat] at w10
            have hb10 : H10 b = some (.lst ys) := (w10.els b hab.symm).trans hb9
            have hb11 : H11 b = some (.lst ys) := n11.same _ _ hb10
            refine ⟨b, ys, .ref e, rfl, rfl, hb11, small, fun H12 w12 => ?_⟩
            have hbe : e ≠ b := (ne_of_none hb10 n11.free).symm
            have hP10 : PairsAt H10 ps ys := Paired.map (fun e' y hy => by
              obtain ⟨q', e1, e2⟩ := hy
              exact ⟨q', e1, (w10.els q' (ne_of e2 ha9 (by intro z; cases z))).trans e2⟩) (hPs8.same n9.same)
            have hP12 : PairsAt H12 (ps ++ [(o, o2)]) (ys ++ [.ref e]) := Paired.snoc (Paired.map (fun e' y hy => by
              obtain ⟨q', e1, e2⟩ := hy
              exact ⟨q', e1, (w12.els q' (ne_of e2 hb11 (by intro z; cases z))).trans e2⟩) (hP10.same n11.same)) ⟨e, rfl, (w12.els e hbe).trans n11.here⟩
            have one : o ≠ o2 := by
              intro z
              rw [z] at hnd
              have h1 : (k' ++ [o2] ++ [o2]).Nodup := hnd.sublist (List.sublist_append_left _ _)
              rw [List.append_assoc] at h1
              have h2 : ([o2] ++ [o2] : List Nat).Nodup := h1.sublist (List.sublist_append_right _ _)
              simp at h2
            have fm : (ps ++ [(o, o2)]).flatMap spread = ps.flatMap spread ++ [o, o2] := by
              rw [List.flatMap_append]
              simp [spread, one]
            have pm : (k' ++ (ps ++ [(o, o2)]).flatMap spread).Perm (k' ++ [o2] ++ [o] ++ ps.flatMap spread) := by
              rw [fm, List.append_assoc, List.append_assoc]
              refine List.Perm.append_left k' ?_
              refine List.perm_append_comm.trans ?_
              show (o :: o2 :: ps.flatMap spread).Perm (o2 :: o :: ps.flatMap spread)
              exact List.Perm.swap _ _ _
            have ha12 : H12 a = some (.lst (k'.map sg)) := (w12.els a hab).trans (n11.same _ _ w10.here)
            rw [List.length_append, List.length_singleton] at hcnt hlp
            refine ⟨⟨k', ps ++ [(o, o2)], ys ++ [.ref e], _, _, cnt + 1, rfl, ha12, w12.here, hP12, But.wr ((But.wr (hB8.trans (.of n9.same)) ha0 w10).trans (.of n11.same)) hb0 w12, (((d8.pen.same n9.same).els w10 hpa hca).same n11.same).els w12 hpb hcb, by omega, by rw [List.length_append, List.length_singleton]; omega, pm.nodup_iff.mpr hnd, fun c hc => hin c (pm.mem_iff.mp hc)⟩, ?_⟩
            show (match H12 a with | some (.lst l) => l.length | _ => 0) < (match H3 a with | some (.lst l) => l.length | _ => 0)
            rw [ha12, ha]
            simp
          · refine ⟨⟨l', ps, ys, _, _, cnt + 1, rfl, ha9, hb9, hPs8.same n9.same, hB8.trans (.of n9.same), d8.pen.same n9.same, by omega, by omega, ?_, ?_⟩, ?_⟩
            · exact (hnd.sublist (List.Sublist.append_right (List.sublist_append_left _ _) _))
            · intro c hc
              refine hin c ?_
              rw [List.append_assoc]
              rcases List.mem_append.mp hc with hc | hc
              · exact List.mem_append_left _ hc
              · exact List.mem_append_right _ (List.mem_append_right _ hc)
            · show (match H9 a with | some (.lst l) => l.length | _ => 0) < (match H3 a with | some (.lst l) => l.length | _ => 0)
              rw [ha9, ha]
              simp
      · have lnil : l = [] := by
          cases l with
          | nil => rfl
          | cons _ _ => simp at hf
        subst lnil
        rw [List.nil_append] at hnd hin
        refine ⟨_, rfl, _, rfl, by show 2 ≤ sizeLine; decide, fun t H9 n9 => k H9 t b S ys ps ⟨hB4.trans (.of n9.same), (hP4.same n9.same).mono (by rw [List.length_nil] at hcnt; omega)⟩ ?_ hb0 n9.here (n9.same _ _ hb4) (hPs4.same n9.same) ⟨S2, Sm, Snd, Sab, hnd, hin⟩ bs⟩
        exact hB4.free (fun e => by rw [e] at n9; exact hP4.ne n9.free rfl) n9.free
    · intro σ H Q Q' m h
      obtain ⟨v, e, h0, h⟩ := h
      refine ⟨v, e, h0, fun q H' n => ?_⟩
      obtain ⟨a, b, xs, e1, e2, h1, h2, k, e3, h3⟩ := h q H' n
      exact ⟨a, b, xs, e1, e2, h1, h2, k, e3, m _ _ h3⟩
end
end My
end
section
set_option Elab.async false
set_option linter.all false
set_option maxRecDepth 100000
set_option maxHeartbeats 4000000
namespace My
open PySem PySem.Spec PyProof.Rows L2
def lenD : PyData → Nat
  | .list ds => ds.length
  | .tuple ds => ds.length
  | _ => 0
end My
end
section
set_option Elab.async false
set_option linter.all false
set_option maxRecDepth 100000
set_option maxHeartbeats 4000000
namespace My
open PySem PySem.Spec PyProof.Rows L2
open PySem.HandSPX (excO)
/-! ### own errors over any built-in error -/
/-- what is asked of the chain of an own error's class -/
structure Chain (F : String) (bm : List Value) : Prop where
  base : bm.contains (.type F) = true
  attr : bm.contains (.type "AttributeError") = false
  name : bm.contains (.type "NameError") = false
  obj : bm.contains (.type "object") = true
  some : bm.isEmpty = false
  pass : ∀ self : Value, refuseLoop self "__setattr__" bm = pure ()
section
variable {prog : Program} {w : World} {A : Around} {E : Value → Shared → Prop} {R : Result → Shared → Prop} {h : Heap} {g : Array GenState} {d : Drawn} {t : Nat} {os : OsState}
variable {nm q : Str} {C N : Addr} {bs bm bmB : List Value} {sn : List Str} {sub : List Value} {ab : Bool} {col : Option Bool} {dd : Option Addr} {k0 k1 k2 k3 k5 : Option Value} {B newId initId : String}
/-- C(..): a fresh error, then the class's own __init__ -/
theorem make_own (F : ExcBaseFacts B newId initId bmB) (T : Chain B bm) {rest : List Value} {fI : Addr}
    (hC : h.get? C = some (excClassObj nm q C N bs bm true sn sub ab col dd k0 k1 k2 k3 k5 newId))
    (hi : PySem.W.Looks (model prog w) h (typeLookup (.ref C) "__init__") (some (.ref fI)))
    (hb : ∀ self, PySem.W.Looks (model prog w) h (bindSpecial (.ref fI) self) (.ref fI, [self])) (hl : rest.length ≤ sizeLine)
    (hq : codeAny (model prog w) (A.under (.builtin "type.__call__" ⟨.ref C :: rest, []⟩)) (.call (.ref fI) ⟨.ref (h.objs.size + 1) :: rest, []⟩) (PySem.W.InitBack (h.objs.size + 1) R)
      ⟨(h.push (PySem.W.kdv_tup rest)).push (excO C h.objs.size), g, d, t, os⟩) :
    codeAny (model prog w) A (.call (.ref C) ⟨rest, []⟩) R ⟨h, g, d, t, os⟩ := by
  have isB : (Value.ref C :: bm).contains (.type B) = true := by
    rw [List.contains_cons, T.base, Bool.or_true]
  have notA : (Value.ref C :: bm).contains (.type "AttributeError") = false := by
    rw [List.contains_cons, T.attr]; rfl
  have notN : (Value.ref C :: bm).contains (.type "NameError") = false := by
    rw [List.contains_cons, T.name]; rfl
  have isC : (Value.ref C :: bm).contains (.ref C) = true := by simp
  have ty : (⟨h, g, d, t, os⟩ : Shared).TypeIs (.ref C) "type" := ⟨_, hC, rfl⟩
  have t1 := tc_lookup
  have t2 := tc_bind (.ref C)
  have star := F.noStar
  have ends := F.ends
  have k : ∀ b o, h.get? b = some o → ((h.push (PySem.W.kdv_tup rest)).push (excO C h.objs.size)).get? b = some o := fun b o e =>
    Heap.get?_push_of_some _ (Heap.get?_push_of_some _ e)
  have i1 := hi.keeps k
  have b1 := (hb (.ref (h.objs.size + 1))).keeps k
  have new1 : ((h.push (PySem.W.kdv_tup rest)).push (excO C h.objs.size)).get? (h.objs.size + 1) = some (excO C h.objs.size) := by heap_get
  have hC1 := k _ _ hC
  refine codeAny_of_tree ?_
  show wpAny _ _ (callAny (.ref C) _) _ _ _
  repeat (any_goals (first
    | assumption
    | with_reducible refine wpAny_loadPart_at hC ?_
    | wp_step))
  refine ⟨rfl, ?_⟩
  refine codeAny_call_builtin_at (Code.quiet_builtin _ (by decide +kernel)) entry_typeCall (wpAny_check_type_call_sub hC ?_)
  repeat (first
    | with_reducible refine wpAny_loadPart_at hC ?_
    | with_reducible refine wpAny_madeBy_exc hC ?_
    | wp_step)
  refine codeAny_call_builtin_code (Code.quiet_builtin _ F.quiet) ?_
  · simp only [checkBuiltinCall, F.newKind, F.newSplit, F.newRow]
    repeat (first
      | refine wpAny_loadPart_at hC ?_
      | (refine wpAny_isSubtype_exc hC ?_
         rw [isB])
      | refine wpAny_staticBase_exc hC ?_
      | refine wpAny_madeBy_exc hC ?_
      | simp only [bne_self_eq_false, Bool.false_eq_true, if_false]
      | wp_step)
    refine codeAny_builtinAt F.entry ?_
    unfold Builtin.«BaseException.__new__»
    refine PySem.wpAt_bind ?_
    show PySem.wpAt _ _ _ (stack >>= _) _ _ _
    refine PySem.wpAt_bind (PySem.wpAt_stack fun p below => PySem.wpAt_of_wpAny ?_)
    wp_walk
    refine PySem.wpAt_of_wpAny ?_
    rw [F.owner]
    repeat (first
      | with_reducible refine wpAny_madeHere_exc F.canon hC ?_
      | with_reducible refine wpAny_loadPart_at hC ?_
      | (with_reducible refine wpAny_isSubtype_exc hC ?_
         first
           | rw [isB]
           | rw [notA]
           | rw [notN])
      | wp_step)
    rw [Heap.size_push]
    show wpAny _ _ (isSubtype (.ref C) (.ref C)) _ _ ⟨(h.push (PySem.W.kdv_tup rest)).push (excO C h.objs.size), g, d, t, os⟩
    refine wpAny_isSubtype_exc hC1 ?_
    rw [isC]
    repeat (first
      | with_reducible refine wpAny_loadPart_at new1 ?_
      | wp_step)
    show wpAny _ _ (typeLookup (.ref C) _) _ _ _
    refine i1.at ?_
    refine wpAny_holding (wpAny_bind (b1.at ?_))
    refine wpAny_bind (wpAny_call (codeAny_mono hq fun r s' z => ?_))
    rcases r with e | (v | _ | _ | _) <;> first | exact z | exact z.elim | skip
    obtain ⟨rfl, z⟩ := z
    first
      | exact wpAny_pure (wpAny_pure z)
      | (wp_walk; exact z)
end
end My
end
section
set_option Elab.async false
set_option linter.all false
set_option maxRecDepth 100000
set_option maxHeartbeats 4000000
namespace My
open PySem PySem.Spec PyProof.Rows L2
open PySem.HandSPX (excO)
/-! ### the field of an own error -/
section
open Builtin Builtin.ObjectAttr
variable {prog : Program} {w : World} {A : Around} {E : Value → Shared → Prop} {R : Result → Shared → Prop} {hp : Heap} {g : Array GenState} {d : Drawn} {t : Nat} {os : OsState}
/-- e.f = v, e an own error without a dict as yet -/
theorem err_store {K : PySem.W.Frag} {B : String} {bm : List Value} {f : Str} {tk : Tok} {v : Value} {x C : Addr} {fv : Array Value} {cd : ClassData} (T : Chain B bm)
    (X : K.In hp) (hx : hp.get? x = some { cls := .ref C, data := .fields fv }) (hcd : PySem.W.clsIn K C = some cd) (hm : cd.mro = .ref C :: bm) (hh : cd.hasDict = true)
    (ha : PySem.W.findIn K (.ref C) f = some none)
    (hq : ∀ h' tk' dx, (∀ b o, b ≠ x → hp.get? b = some o → h'.get? b = some o) → hp.objs.size ≤ dx → dx ≠ x →
      h'.get? x = some { cls := .ref C, dict := some dx, data := .fields fv } → h'.Ns1 dx (fun y => if y = f then some v else none) → R (.ok (.ret .none)) ⟨h', g, d, tk', os⟩) :
    codeAny (model prog w) A (.call (.builtin "object.__setattr__") ⟨[.ref x, .str f tk, v], []⟩) R ⟨hp, g, d, t, os⟩ := by
  have at0 : PySem.W.InstAt hp x { cls := .ref C, data := .fields fv } C none := ⟨hx, rfl, rfl, trivial⟩
  have st := F.store_object
  have obj : cd.mro.contains (.type "object") = true := by
    rw [hm, List.contains_cons, T.obj, Bool.or_true]
  have full : cd.mro.isEmpty = false := by rw [hm]; rfl
  have free : refuseLoop (.ref x) "__setattr__" cd.mro = pure () := by
    rw [hm, refuseLoop_ref]
    exact T.pass _
  have other : x ≠ hp.objs.size := Nat.ne_of_lt (Heap.lt_size hx)
  have isO : PySem.W.Looks (model prog w) hp (isInstance (.ref x) (.type "object")) true := at0.type.andThen
    (PySem.W.looks_mroIn X (by unfold PySem.W.mroIn; rw [hcd, Option.bind_some, if_neg (by rw [full]; decide), obj]))
  refine codeAny_call_builtin st.slot.plain st.entry (@PySem.W.check_slot (model prog w) _ _ ⟨hp, g, d, t, os⟩ "object.__setattr__" "object" "__setattr__"
    (.ref x) [.str f tk, v] [] _ st.kind st.split isO (st.args (.ref x) (.str f tk) v) ?_)
  have mro : PySem.W.Looks (model prog w) hp (mroOf (.ref C)) cd.mro := (PySem.W.looks_clsIn X hcd).andThen .now
  have taker : PySem.W.Looks (model prog w) hp (storeTaker? none) none := .now
  have data : PySem.W.Looks (model prog w) hp (classData C) cd := PySem.W.looks_clsIn X hcd
  rw [PySem.W.osa_eq, refuse_eq]
  refine wpAny_bind (wpAny_bind (at0.type.at (wpAny_bind (mro.at ?_))))
  rw [free]
  refine wpAny_pure (wpAny_bind (at0.type.at (wpAny_bind ((PySem.W.looks_findIn X ha).at (wpAny_bind (taker.at ?_))))))
  show wpAny _ _ (storeInOwnDict (.ref x) (.ref C) (.str f tk) f v false) _ _ _
  obtain ⟨nm, bs, mro, ns, qn, hd, sn, sb, ab, col, del⟩ := cd
  dsimp only at hh
  subst hh
  unfold storeInOwnDict ownDictForStores
  repeat (first
    | with_reducible refine PySem.HandSPX.store_in_new ?_ ?_
    | with_reducible refine wpAny_loadPart_at hx ?_
    | with_reducible refine data.at ?_
    | wp_step)
  · exact ⟨_, #[], _, (Heap.get?_update_ne _ _ _ _ other.symm).trans (Heap.get?_push_at rfl rfl), rfl, fun e he => absurd he (by simp), fun _ => rfl⟩
  · intro h' tk' hn' hs
    have hx1 : (hp.push { cls := .type "dict", data := .dict #[] }).get? x = some { cls := .ref C, data := .fields fv } := Heap.get?_push_of_some _ hx
    refine hq h' tk' hp.objs.size (fun b o hb ho => ?_) (Nat.le_refl _) other.symm ?_ hn'
    · exact (hs.2 b (Nat.ne_of_lt (Heap.lt_size ho))).trans ((Heap.get?_update_ne _ _ _ _ hb).trans (Heap.get?_push_of_some _ ho))
    · exact (hs.2 x other).trans (Heap.get?_update_self _ hx1 rfl)
end
/-! ### the class of an error that keeps one value -/
def eArgs (f : Str) (p1 p2 : Pos) : Arguments := { posonlyargs := [], args := [{ arg := "self", annotation := none, pos := p1 }, { arg := f, annotation := none, pos := p2 }], vararg := none, kwonlyargs := [], kw_defaults := [], kwarg := none, defaults := [] }
def eBody (f : Str) (q1 q2 q3 q4 : Pos) : List Stmt := [.Assign [.Attribute (.Name "self" q1) f q2] (.Name f q3) q4]
def eScope (f : Str) : Scope := { kind := .function, names := [(PySem.Str.ofString "self", .local), (f, .local)], isGenerator := false, isCoroutine := false, more := [] }
/-- the name of a field: no name that means something else in __init__ -/
structure Fld (f : Str) : Prop where
  bind : ∀ (qi : Str) (p1 p2 : Pos) (b : List Stmt) (doc pm : Value) (an : Option Addr) (cdv ct a v : Value),
    bindArgs (PySem.W.fnOf "__init__" qi (eArgs f p1 p2) b (eScope f) .none .none doc pm an cdv ct) ⟨[a, v], []⟩ = pure [(("self" : Str), a), (f, v)]
  loc : (eScope f).names.lookup f = some .local
  first : ∀ (qi : Str) (L a : Addr) (cd p v : Value), bindL (envOfC qi (eScope f) L a cd).kindOf [("self", p), (f, v)] (fun _ => none) "self" = some p
  snd : ∀ (qi : Str) (L a : Addr) (cd p v : Value), bindL (envOfC qi (eScope f) L a cd).kindOf [("self", p), (f, v)] (fun _ => none) f = some v
  dbg : (f == ("__debug__" : Str)) = false
theorem fld_value : Fld "value" where
  bind := fun _ _ _ _ _ _ _ _ _ _ _ => by first | rfl | with_unfolding_all rfl
  loc := by decide +kernel
  first := fun _ _ _ _ _ _ => by first | rfl | with_unfolding_all rfl
  snd := fun _ _ _ _ _ _ => by first | rfl | with_unfolding_all rfl
  dbg := by decide
/-- what the written part says of the class x at C, over the built-in error B, with the field f, and of its __init__ at fI -/
structure ErrC (K : PySem.W.Frag) (mg : Str → Option Value) (x f qi : Str) (B newId initId : String) (bmB bm : List Value) (C fI : Addr) : Prop where
  facts : ExcBaseFacts B newId initId bmB
  chain : Chain B bm
  gC : mg x = some (.ref C)
  cls : ∃ nm q N bs sn sub ab col dd k0 k1 k2 k3 k5, K.lookup C = some (excClassObj nm q C N bs bm true sn sub ab col dd k0 k1 k2 k3 k5 newId)
  sa : PySem.W.findIn K (.ref C) "__setattr__" = some (some (.builtin "object.__setattr__"))
  ga : PySem.W.findIn K (.ref C) "__getattribute__" = some (some (.builtin "BaseException.__getattribute__"))
  gg : PySem.W.findIn K (.ref C) "__getattr__" = some none
  noN : PySem.W.findIn K (.ref C) f = some none
  iC : PySem.W.findIn K (.ref C) "__init__" = some (some (.ref fI))
  tC : PySem.W.typeIn K (.ref fI) = some (.type "function")
  kC : PySem.W.keepIn K (.ref C) = true
  exC : PySem.W.subIn K (.ref C) (.type "BaseException") = some true
  tyC : PySem.W.typeIn K (.ref C) = some (.type "type")
  hdC : PySem.W.hasDictIn K C = true
  te : PySem.W.exmOne K (.ref C) (.ref C) = some true
  fn : ∃ (oc : Value) (od : Option Addr) (doc pm : Value) (an : Option Addr) (cdv ct : Value) (osl : Array (Option Value)) (p1 p2 q1 q2 q3 q4 : Pos),
    K.lookup fI = some ⟨oc, od, .func (PySem.W.fnOf "__init__" qi (eArgs f p1 p2) (eBody f q1 q2 q3 q4) (eScope f) .none .none doc pm an cdv ct), osl⟩ ∧ PySem.W.codeIn K cdv qi = true
/-- what __init__ leaves -/
structure Kept1 (h h' : Heap) (x C dx t1 : Addr) (f : Str) (v : Value) : Prop where
  keep : ∀ b o, b ≠ x → h.get? b = some o → h'.get? b = some o
  obj : h'.get? x = some { cls := .ref C, dict := some dx, data := .fields #[.ref t1, .none, .none, .none, .bool false, .none] }
  big : h.objs.size ≤ dx
  ne : dx ≠ x
  ns : h'.Ns1 dx (fun y => if y = f then some v else none)
/-- what C(v) leaves: the error at e, its dict at dx -/
structure Made1 (h h' : Heap) (e C dx : Addr) (f : Str) (v : Value) : Prop where
  keep : ∀ b o, h.get? b = some o → h'.get? b = some o
  new : h.objs.size ≤ e
  obj : ∃ oe vs, h'.get? e = some oe ∧ oe.cls = .ref C ∧ oe.dict = some dx ∧ oe.data = .fields vs ∧ vs[1]? = some .none
  big : h.objs.size ≤ dx
  ne : dx ≠ e
  ns : h'.Ns1 dx (fun y => if y = f then some v else none)
section
variable {prog : Program} {w : World} {A : Around} {E : Value → Shared → Prop} {R : Result → Shared → Prop} {s : Shared} {K : PySem.W.Frag} {mg : Str → Option Value} {x f qi : Str} {B newId initId : String} {bmB bm : List Value} {C fI : Addr}
theorem ld_local {M : Model} {s : Shared} {name : Str} {scope : Scope} {L a : Addr} {cd : Value} {m : Str → Option Value} {x : Str} {pos : Pos} {v : Value} {Q : Value → Shared → Prop} {A : Around} {E : Value → Shared → Prop}
    (hn : s.heap.Ns L m) (hv : m x = some v) (h : Q v s) (hk : scope.kind = .function) (hl : (envOfC name scope L a cd).kindOf x = some .local) (hd : (x == ("__debug__" : Str)) = false) :
    wpAny M A (eval (.Name x pos) (envOfC name scope L a cd)) Q E s :=
  wpAny_Name (wpAny_loadName_local hk hl hn hv h) hd
theorem err_init (T : ErrC K mg x f qi B newId initId bmB bm C fI) (Z : Fld f) {p t0 : Addr} {v : Value} (X : K.In s.heap) (hlim : s.heap.NoLimit) (hx : s.heap.get? p = some (excO C t0)) (room : A.depth < recursionLimit)
    (hq : ∀ h' tk dx, Kept1 s.heap h' p C dx t0 f v → R (.ok (.ret .none)) { s with heap := h', toks := tk }) :
    codeAny (model prog w) A (.call (.ref fI) ⟨[.ref p, v], []⟩) R s := by
  obtain ⟨oc, od, doc, pm, an, cdv, ct, osl, p1, p2, q1, q2, q3, q4, ho, hcd⟩ := T.fn
  obtain ⟨nm, q, N, bs, sn, sub, ab, col, dd, k0, k1, k2, k3, k5, hC⟩ := T.cls
  have hcl : PySem.W.clsIn K C = some { name := nm, bases := bs, mro := .ref C :: bm, ns := N, qualname := q, hasDict := true, slotNames := sn, subclasses := sub, abstract := ab, collection := col, hasDel := false } := by
    unfold PySem.W.clsIn
    rw [hC] <;> rfl
  refine Att.call_fn (binds := [("self", .ref p), (f, v)]) X hlim ho hcd room (BindsTo.of_eq (Z.bind ..)) ?_ (fun s₁ IC => ?_) rfl rfl rfl
  · have e : (eScope f).names.lookup ("self" : Str) = some .local := rfl
    show ((((eScope f).names.lookup ("self" : Str) == some .local) || ((eScope f).names.lookup ("self" : Str) == some .cell)) && ((((eScope f).names.lookup f == some .local) || ((eScope f).names.lookup f == some .cell)) && true)) = true
    rw [e, Z.loc]
    rfl
  obtain ⟨h₁, tk₁, rfl⟩ := IC.toInCall.same
  have k : ∀ b o, s.heap.get? b = some o → h₁.get? b = some o := IC.toInCall.keep
  have hn := IC.toInCall.ns
  have X1 : K.In h₁ := X.keeps k
  have hx1 := k _ _ hx
  show wpAny _ _ (execs _ _) _ _ _
  refine wpAny_execs_cons (plainObj_wpAny_Assign_Attribute ?_)
  refine ld_local (v := v) hn (Z.snd ..) (ld_local (v := .ref p) hn (Z.first ..) ?_ rfl rfl (by decide)) rfl Z.loc Z.dbg
  refine PySem.W.set_plain X1 (ox := excO C t0) (od := none) ⟨hx1, rfl, rfl, trivial⟩ T.sa ?_
  refine err_store T.chain X1 hx1 hcl rfl rfl T.noN (fun h₃ tk₃ dx k₃ dn dne hx₃ hn₃ => ?_)
  show wpAny _ _ (execs _ _) _ _ _
  have z : s.heap.objs.size < h₁.objs.size := hn.lt
  exact wpAny_execs_nil (hq h₃ tk₃ dx ⟨fun b o hb e => k₃ b o hb (k b o e), hx₃, Nat.le_of_lt (Nat.lt_of_lt_of_le z dn), dne, hn₃⟩)
theorem err_made (T : ErrC K mg x f qi B newId initId bmB bm C fI) (Z : Fld f) {v : Value} (X : K.In s.heap) (hlim : s.heap.NoLimit) (room : A.depth + 1 < recursionLimit)
    (hq : ∀ h' tk e d, Made1 s.heap h' e C d f v → R (.ok (.ret (.ref e))) { s with heap := h', toks := tk }) :
    codeAny (model prog w) A (.call (.ref C) ⟨[v], []⟩) R s := by
  obtain ⟨nm, q, N, bs, sn, sub, ab, col, dd, k0, k1, k2, k3, k5, hC⟩ := T.cls
  obtain ⟨hp, g, dr, tk, os⟩ := s
  have k : ∀ b o, hp.get? b = some o → ((hp.push (PySem.W.kdv_tup [v])).push (excO C hp.objs.size)).get? b = some o := fun b o e =>
    Heap.get?_push_of_some _ (Heap.get?_push_of_some _ e)
  have here : ((hp.push (PySem.W.kdv_tup [v])).push (excO C hp.objs.size)).get? (hp.objs.size + 1) = some (excO C hp.objs.size) := by heap_get
  have one : [v].length ≤ sizeLine := by
    rw [sizeLine_eq]
    exact (by decide : 1 ≤ 16777216)
  refine make_own T.facts T.chain (X _ _ hC) (PySem.W.looks_findIn X T.iC) (fun self => PySem.W.bind_fn X self T.tC) one ?_
  refine err_init (s := ⟨(hp.push (PySem.W.kdv_tup [v])).push (excO C hp.objs.size), g, dr, tk, os⟩) T Z (X.keeps k) (hlim.keeps k) here ?_ fun h' tk' dx ⟨k', hx, dn, dne, hns⟩ => ?_
  · show A.depth + 1 < recursionLimit
    exact room
  · have old : ∀ b o, hp.get? b = some o → h'.get? b = some o := fun b o e => k' b o (Nat.ne_of_lt (Nat.lt_succ_of_lt (Heap.lt_size e))) (k b o e)
    have z : hp.objs.size + 1 + 1 ≤ dx := by
      have q := dn
      rw [Heap.size_push, Heap.size_push] at q
      exact q
    exact ⟨rfl, hq h' tk' (hp.objs.size + 1) dx ⟨old, Nat.le_succ _, ⟨_, _, hx, rfl, rfl, rfl, rfl⟩, Nat.le_trans (Nat.le_trans (Nat.le_succ _) (Nat.le_succ _)) z, dne, hns⟩⟩
end
/-! ### the error in rules -/
theorem relO_one {f : Str} {v : V} {v' : Value} (r : RelV v v') (y : Str) : RelO (List.lookup y [(f, v)]) (if y = f then some v' else none) := by
  by_cases e : y = f
  · subst e
    rw [if_pos rfl]
    have q : List.lookup y [(y, v)] = some v := by simp [List.lookup]
    rw [q]
    exact r
  · rw [if_neg e]
    have q1 : (y == f) = false := by simpa using e
    have q2 : List.lookup y [(f, v)] = none := by simp [List.lookup, q1]
    rw [q2]
    trivial
section
variable {X : Cx} {x f qi : Str} {B newId initId : String} {bmB bm : List Value} {C fI : Addr}
/-- C(e) -/
def tErr (C : Addr) (f : Str) (ta : TA) : L2.St → Hp → XK → Prop := fun σ H Q => ta σ H fun vs H1 => ∃ v, vs = [v] ∧ ∀ d, H1 d = none → Q (.ref C) (some d) (upd H1 d (.xd [(f, v)]))
theorem pmk_err {a : Expr} {ta : TA} {p pos : Pos} {k : Nat} (T : ErrC X.K X.mg x f qi B newId initId bmB bm C fI) (Z : Fld f) (hr : Room k X.A) (hk : 1 ≤ k) (ha : PA X [a] ta) (hg : Gl X x)
    (hdb : (x == ("__debug__" : Str)) = false := by decide)
    (he : starEach (a :: []) X.env = (false, eval a X.env) :: starEach [] X.env := by rfl) (hpl : (backTo pos (starEach [] X.env)).any (·.1) = false := by rfl) :
    PMk X (.Call (.Name x p) [a] [] pos) (tErr C f ta) := by
  intro pins s σ H Q I h
  refine wpAny_Call_Name_kw (ld_glob I hg T.gC ?_ hdb)
  refine PySem.W.callWith_K (h₀ := X.base) I.ok.mod.kin T.kC (thn (ha.run pos pins s σ H _ I h) fun us s1 hh => ?_) he hpl
  obtain ⟨vs, H1, I1, r1, v, ev, q1⟩ := hh
  subst ev
  refine ⟨I1.kIn, ?_⟩
  obtain ⟨v', rfl, rv⟩ := vals1 r1
  show wpAny _ _ (call (.ref C) [v']) _ _ _
  have hlim := I1.nolimit
  obtain ⟨hp, g, dr, tk, os⟩ := s1
  refine wpAny_call (err_made T Z I1.kIn hlim (by have := hr.dp; omega) fun h' tk' e d M => ?_)
  show MkP X pins σ Q (.ref e) ⟨h', g, dr, tk', os⟩
  obtain ⟨oe, fv, hoe, hc, hd, hdat, h1⟩ := M.obj
  have hns := M.ns
  obtain ⟨G', g1, g2⟩ := restrict h' fun b => decide (b ≠ e)
  have gk : ∀ b, b ≠ e → G'.get? b = h'.get? b := fun b hb => g1 b (decide_eq_true hb)
  have ge : G'.get? e = none := g2 e (by simp)
  have old : ∀ b o, hp.get? b = some o → G'.get? b = some o := fun b o q => (gk b (Nat.ne_of_lt (Nat.lt_of_lt_of_le (Heap.lt_size q) M.new))).trans (M.keep b o q)
  have ob : ObjOk X.prog X.w (upd H1 d (.xd [(f, v)])) G' d (.xd [(f, v)]) := ⟨_, hns.at (fun o q => (gk d M.ne).trans q), fun y => relO_one rv y⟩
  have J : Inv X pins σ (upd H1 d (.xd [(f, v)])) ⟨G', g, dr, tk', os⟩ := I1.laid (t' := tk') old M.big ob
  refine ⟨e, oe, fv, ⟨G', g, dr, tk', os⟩, _, .ref C, some d, rfl, J, fun b o q => ?_, ge, hoe, ⟨hc, hd⟩, hdat, h1, ?_, rfl, I1.bare, raises_own T.exC T.tyC, q1 d (I1.hok.fresh M.big)⟩
  · by_cases hb : b = e
    · have q' : G'.get? b = some o := q
      rw [hb, ge] at q'
      cases q'
    · exact (gk b hb).symm.trans q
  · rw [upd_ne (Ne.symm M.ne)]
    exact I1.hok.fresh M.new
/-- raise C(e) -/
def tRaiseErr (C : Addr) (f : Str) (W : WX) (ta : TA) : TS := fun _ σ H => tErr C f ta σ H fun cls d H' => W cls d σ H'
theorem ps_raiseErr {a : Expr} {ta : TA} {W : WX} {p pos pos2 : Pos} {k : Nat} (hc : X.calm = true) (T : ErrC X.K X.mg x f qi B newId initId bmB bm C fI) (Z : Fld f) (hr : Room k X.A) (hk : 1 ≤ k) (tk : Takes X W) (ha : PA X [a] ta) (hg : Gl X x)
    (hdb : (x == ("__debug__" : Str)) = false := by decide)
    (he : starEach (a :: []) X.env = (false, eval a X.env) :: starEach [] X.env := by rfl) (hpl : (backTo pos (starEach [] X.env)).any (·.1) = false := by rfl) :
    PS X (.Raise (some (.Call (.Name x p) [a] [] pos)) none pos2) (tRaiseErr C f W ta) := ps_raise hc tk (pmk_err T Z hr hk ha hg hdb he hpl)
/-- e.f in the suite that holds e -/
def tErrF (C : Addr) (f : Str) (a : Addr) (cls : Value) (d : Option Addr) (te : TE) : TE := fun σ H Q => te σ H fun y H1 => y = .ref a ∧ cls = .ref C ∧ ∃ (dd : Addr) (v : V), d = some dd ∧ H1 dd = some (.xd [(f, v)]) ∧ Q v H1
theorem pe_errF {a : Addr} {oe : Obj} {cls : Value} {d : Option Addr} {pn : List (Addr × Obj)} {e : Expr} {te : TE} {pos : Pos} (T : ErrC X.K X.mg x f qi B newId initId bmB bm C fI) (hz : Zc cls d oe) (hf : ∃ vs, oe.data = .fields vs) (he : PE (X.suite a ((a, oe) :: pn)) e te)
    (hb : attributeBase e f X.env (eval e X.env) = eval e X.env := by rfl) :
    PE (X.suite a ((a, oe) :: pn)) (.Attribute e f pos) (tErrF C f a cls d te) := by
  refine ⟨fun pins s σ H Q I h => ?_⟩
  refine attr_of hb (thn (he.run pins s σ H _ I h) fun u s1 hh => ?_)
  obtain ⟨y, H1, I1, ry, ey, ec, dd, v, ed, ea, q⟩ := hh
  subst ey
  obtain rfl : u = Value.ref a := ry
  subst ec
  subst ed
  obtain ⟨ha, _⟩ := I1.pin (a, oe) (List.mem_append_left _ List.mem_cons_self)
  obtain ⟨vs, hd⟩ := hf
  have hx : ObjOk X.prog X.w H1 s1.heap dd (.xd [(f, v)]) := I1.hok dd _ ea
  obtain ⟨mA, hns, hr⟩ := hx
  obtain ⟨od, ho, hl⟩ := lookIn_ns hns
  have l : List.lookup f [(f, v)] = some v := by simp [List.lookup]
  obtain ⟨u, hu, ru⟩ := RelO.some_of (v := v) (o := mA f) (by rw [← l]; exact hr f)
  have J : PySem.W.InstAt s1.heap a oe C (some od) := ⟨ha, hz.1, by unfold PySem.W.notCls; rw [hd] <;> rfl, by rw [hz.2]; exact ho⟩
  exact HandSPX.exc_get I1.kIn J T.ga T.gg T.exC (PySem.W.findObj_own T.hdC T.noN rfl (by rw [hl, hu])) (handed_of ru) ⟨v, H1, I1.tok _, ru, q⟩
end
/-! ### the chains of the built-in errors -/
abbrev bmValue : List Value := [.type "ValueError", .type "Exception", .type "BaseException", .type "object"]
abbrev bmLookup : List Value := [.type "LookupError", .type "Exception", .type "BaseException", .type "object"]
abbrev bmKey : List Value := [.type "KeyError", .type "LookupError", .type "Exception", .type "BaseException", .type "object"]
theorem chain_Value : Chain "ValueError" bmValue := ⟨by decide +kernel, by decide +kernel, by decide +kernel, by decide +kernel, rfl, PySem.F.store_ValueError.passes⟩
theorem key_pass (self : Value) : refuseLoop self "__setattr__" bmKey = pure () := by
  first
    | kernel_rfl
    | rfl
theorem chain_Key : Chain "LookupError" bmKey := ⟨by decide +kernel, by decide +kernel, by decide +kernel, by decide +kernel, rfl, key_pass⟩
end My
end
section
set_option Elab.async false
set_option linter.all false
set_option maxRecDepth 100000
set_option maxHeartbeats 4000000
namespace My
open PySem PySem.Spec PyProof.Rows L2
/-- a statement of a class body -/
def inCls (s : Stmt) (i : Nat) : Stmt := match s with
  | .ClassDef _ _ _ b _ _ _ _ _ _ _ => b.getD i (.Pass ⟨0, 0, 0, 0⟩)
  | _ => .Pass ⟨0, 0, 0, 0⟩
abbrev s_cls : Stmt := topS 22
abbrev s_init : Stmt := inCls s_cls 1
/-- what a font keeps -/
def fontFs (S : Str) (r : Addr) : List (Str × V) := putF "_turns" (.ref r) (putF "_signs" (.str S) [])
theorem fs_signs (S : Str) (r : Addr) : List.lookup ("_signs" : Str) (fontFs S r) = some (V.str S) := rfl
theorem fs_turns (S : Str) (r : Addr) : List.lookup ("_turns" : Str) (fontFs S r) = some (V.ref r) := rfl
/-- a font at a -/
structure FontAt (H : Hp) (C a : Addr) (S : Str) (ps : List (Nat × Nat)) : Prop where
  at_ : ∃ dx r ys, H a = some (.ins C dx (fontFs S r)) ∧ H r = some (.tup ys) ∧ PairsAt H ps ys
theorem FontAt.same {H H1 : Hp} {C a : Addr} {S : Str} {ps : List (Nat × Nat)} (s : Same H H1) (h : FontAt H C a S ps) : FontAt H1 C a S ps := by
  obtain ⟨dx, r, ys, h1, h2, h3⟩ := h.at_
  exact ⟨dx, r, ys, s _ _ h1, s _ _ h2, h3.same s⟩
def sp_init (K : PySem.W.Frag) (C : Addr) : Sp := fun vs H Q _ => ∃ (a dx p : Addr) (S : Str) (v : V) (d : PyData) (ps : List (Nat × Nat)), vs = [.ref a, .str S, v] ∧ H a = some (.ins C dx []) ∧ Rp K p H false v d ∧ fit d = true ∧ fontD (.str S) = true ∧ keptD S d = some ps ∧
  ∀ H', But a H H' → FontAt H' C a S ps → Q .non H'
section
variable {P : Program} {w : World} {K : PySem.W.Frag} {mg : Str → Option Value} {base : Heap}
theorem sc_init : FnScope ["self", "signs", "turns", "pairs"] ["self", "signs", "turns"] (defScope s_init) := ⟨rfl, rfl, rfl, by decide +kernel, rfl, by decide +kernel, by decide +kernel⟩
theorem ok_init {f fF fK C : Addr} {fd fdF fdK : FuncData} {dvs : List V} (F : FunD K "__init__" "Font.__init__" (defArgs s_init) (defBody s_init) (defScope s_init) dvs [] f fd) (c : Cls K C) (n1 : NoAttr K C "_signs") (n2 : NoAttr K C "_turns")
    (DF : Def K mg "is_font_signs" fF fdF ["value"]) (GF : FnOk P w K mg base CX0 2 fF fdF ["value"] (sp_isFont K)) (DK : Def K mg "kept_turns" fK fdK ["signs", "turns"]) (GK : FnOk P w K mg base CX0 3 fK fdK ["signs", "turns"] (sp_kept K)) :
    FnOk P w K mg base CX0 4 f fd ["self", "signs", "turns"] (sp_init K C) := by
  refine F.ok sc_init (fun vs H Q E h => ?_) (fun cdv A outer s H vs Q E hr h => ?_)
  · obtain ⟨a, dx, p, S, v, d, ps, rfl, _⟩ := h
    rfl
  · obtain ⟨a, dx, p, S, v, d, ps, rfl, ha, hd, hf, hF, hK, k⟩ := h
    have hr2 : Room 2 _ := hr.mono (by decide)
    refine ⟨_, PSs.nox (pss_cons (ps_if (pt_not (pt_val (pe_call GF hr2 rfl DF.mgf DF.kp DF.bd .nil pass0 (pa_cons (pv 1) pa_nil)))) (pss_one ps_never) pss_nil)
      (pss_cons (ps_set (i := 3) sc_init.nd rfl (Or.inl rfl) (pe_call GK hr rfl DK.mgf DK.kp DK.bd .nil pass0 (pa_cons (pv 1) (pa_cons (pv 2) pa_nil))))
      (pss_cons (ps_if (pt_cmp (pc_isN (pv 3))) (pss_one ps_never) pss_nil)
      (pss_cons (ps_fld (pv 0) (pv 1) rfl)
      (pss_one (ps_fld (pv 0) (pv 3) rfl)))))), ?_⟩
    have hlen : S.length ≤ 10 := by
      rw [fontD_str, Bool.and_eq_true, decide_eq_true_eq] at hF
      exact hF.1.2
    refine ⟨_, rfl, .str S, .str S, p, rfl, Rp.str _ S, Nat.le_trans hlen (by decide), fun H1 s1 => ⟨_, rfl, ?_⟩⟩
    rw [hF]
    refine iteF ?_
    refine ⟨_, rfl, _, rfl, S, v, d, p, rfl, hd.but (.of s1), hf, Nat.le_trans hlen (by decide), fun e => absurd (e.symm.trans hK) (by intro z; cases z), fun ps' hps H2 r ys s2 f2 h2 hP2 => ?_⟩
    rw [hK] at hps
    obtain rfl := Option.some.inj hps
    have s12 : Same H H2 := s1.trans s2
    have ha2 := s12 _ _ ha
    refine ⟨_, rfl, _, rfl, iteF ?_⟩
    refine ⟨_, rfl, _, rfl, a, C, dx, [], rfl, ha2, c, n1, by decide, ?_⟩
    have w3 : Wr H2 a (.ins C dx (putF "_signs" (.str S) [])) (upd H2 a (.ins C dx (putF "_signs" (.str S) []))) := .mk'
    generalize upd H2 a (HO.ins C dx (putF "_signs" (V.str S) [])) = H3 at w3 ⊢
    refine ⟨_, rfl, _, rfl, a, C, dx, _, rfl, w3.here, c, n2, (show 1 < 1000 by decide), ?_⟩
    have w4 : Wr H3 a (.ins C dx (putF "_turns" (.ref r) (putF "_signs" (.str S) []))) (upd H3 a (.ins C dx (putF "_turns" (.ref r) (putF "_signs" (.str S) [])))) := .mk'
    generalize upd H3 a (HO.ins C dx (putF "_turns" (V.ref r) (putF "_signs" (V.str S) []))) = H4 at w4 ⊢
    have el : ∀ {q : Addr} {xs : List V}, H2 q = some (.tup xs) → H4 q = some (.tup xs) := fun {q xs} e => by
      have ne : q ≠ a := ne_of e ha2 (by intro z; cases z)
      exact (w4.els q ne).trans ((w3.els q ne).trans e)
    refine k _ (((But.of s12).trans w3.but).trans w4.but) ⟨dx, r, ys, w4.here, el h2, Paired.map (fun e y hy => ?_) hP2⟩
    obtain ⟨q, e1, e2⟩ := hy
    exact ⟨q, e1, el e2⟩
end
end My
end
section
set_option Elab.async false
set_option linter.all false
set_option maxRecDepth 100000
set_option maxHeartbeats 4000000
namespace My
open PySem PySem.Spec PyProof.Rows L2
/-! ### len(x), v in x, v not in x, x of an own class -/
/-- the class has the name as a def at f -/
structure Own (K : PySem.W.Frag) (C : Addr) (m : Str) (f : Addr) : Prop where
  at_ : PySem.W.findIn K (.ref C) m = some (some (.ref f))
  fn : PySem.W.isFn K (.ref f) = true
section
variable {X : Cx} {k : Nat} {C f : Addr} {fd : FuncData} {sp : Sp}
/-- len(x) -/
def qLenO (C : Addr) (sp : Sp) : List V → Hp → VK → Prop := fun xs H Q => ∃ a dx fs, xs = [.ref a] ∧ H a = some (.ins C dx fs) ∧ sp [.ref a] H (fun v H' => ∃ n : Nat, v = .int n ∧ n < 2 ^ 60 ∧ Q (.int n) H') E0
theorem call_lenO (O : Own X.K C "__len__" f) (F : FnOk X.prog X.w X.K X.mg X.base CX0 k f fd ["self"] sp) (hr : Room (k + 1) X.A) (hb : Binds X.K fd ["self"] []) : CallR X (.builtin "len") (qLenO C sp) := by
  intro pins s σ H xs us Q I r h
  obtain ⟨a, dx, fs, rfl, ea, q⟩ := h
  obtain ⟨u, rfl, rx⟩ := vals1 r
  obtain rfl : u = Value.ref a := rx
  obtain ⟨mA, od0, _, _, _, _⟩ := ins_get I.hok ea
  obtain ⟨od, J, _⟩ := od0.look
  obtain ⟨m, fr⟩ := I.fr
  refine PySem.W.len_K fr I.ok.mod.kin J O.at_ O.fn (wpAny_call ?_)
  refine codeAny_mono (F.run X.A.in1 X.stack s H ⟨[.ref a], []⟩ [.ref a] [.ref a] _ _ hr.in1 I.env0.in1 (hb _ [.ref a] I.kIn rfl) (.cons rfl .nil) q) fun r s' hq => ?_
  cases r with
  | error er => exact False.elim hq
  | ok fl =>
    cases fl with
    | ret u =>
      obtain ⟨v, H', I3, rv, n, ev, hn, q3⟩ := I.after hq
      subst ev
      obtain ⟨t, rfl⟩ := rv
      exact ⟨⟨by omega, by omega⟩, .int n, H', I3.tok _, ⟨_, rfl⟩, q3⟩
    | next => exact False.elim hq
    | brk => exact False.elim hq
    | cont => exact False.elim hq
/-- v in x -/
def qInO (C : Addr) (sp : Sp) (neg : Bool) : R2 := fun y x H Q => ∃ a dx fs, x = .ref a ∧ H a = some (.ins C dx fs) ∧ sp [.ref a, y] H (fun v H' => ∃ b : Bool, v = .bl b ∧ Q (.bl (if neg then !b else b)) H') E0
variable {it : Str}
theorem op_inO (O : Own X.K C "__contains__" f) (F : FnOk X.prog X.w X.K X.mg X.base CX0 k f fd ["self", it] sp) (hr : Room k X.A) (hb : Binds X.K fd ["self", it] []) : OpR X (compareOp .In) (qInO C sp false) := by
  intro pins s σ H y x v u Q I ry rx h
  obtain ⟨a, dx, fs, rfl, ea, q⟩ := h
  obtain rfl : u = Value.ref a := rx
  obtain ⟨mA, od0, _, _, _, _⟩ := ins_get I.hok ea
  obtain ⟨od, J, _⟩ := od0.look
  obtain ⟨m, fr⟩ := I.fr
  refine PySem.W.in_K fr I.ok.mod.kin J O.at_ O.fn (wpAny_call ?_)
  refine codeAny_mono (F.run X.A X.stack s H ⟨[.ref a, v], []⟩ [.ref a, v] [.ref a, y] _ _ hr I.env0 (hb _ [.ref a, v] I.kIn rfl) (.cons rfl (.cons ry .nil)) q) fun r s' hq => ?_
  cases r with
  | error er => exact False.elim hq
  | ok fl =>
    cases fl with
    | ret u =>
      obtain ⟨z, H', I3, rv, b, ev, q3⟩ := I.after hq
      subst ev
      obtain rfl : u = Value.bool b := rv
      exact wpAny_truthy_bool ⟨.bl b, H', I3, rfl, q3⟩
    | next => exact False.elim hq
    | brk => exact False.elim hq
    | cont => exact False.elim hq
theorem op_notInO (O : Own X.K C "__contains__" f) (F : FnOk X.prog X.w X.K X.mg X.base CX0 k f fd ["self", it] sp) (hr : Room k X.A) (hb : Binds X.K fd ["self", it] []) : OpR X (compareOp .NotIn) (qInO C sp true) := by
  intro pins s σ H y x v u Q I ry rx h
  obtain ⟨a, dx, fs, rfl, ea, q⟩ := h
  obtain rfl : u = Value.ref a := rx
  obtain ⟨mA, od0, _, _, _, _⟩ := ins_get I.hok ea
  obtain ⟨od, J, _⟩ := od0.look
  obtain ⟨m, fr⟩ := I.fr
  refine PySem.W.notIn_K fr I.ok.mod.kin J O.at_ O.fn (wpAny_call ?_)
  refine codeAny_mono (F.run X.A X.stack s H ⟨[.ref a, v], []⟩ [.ref a, v] [.ref a, y] _ _ hr I.env0 (hb _ [.ref a, v] I.kIn rfl) (.cons rfl (.cons ry .nil)) q) fun r s' hq => ?_
  cases r with
  | error er => exact False.elim hq
  | ok fl =>
    cases fl with
    | ret u =>
      obtain ⟨z, H', I3, rv, b, ev, q3⟩ := I.after hq
      subst ev
      obtain rfl : u = Value.bool b := rv
      exact wpAny_truthy_bool ⟨.bl (!b), H', I3, rfl, q3⟩
    | next => exact False.elim hq
    | brk => exact False.elim hq
    | cont => exact False.elim hq
end
end My
end
section
set_option Elab.async false
set_option linter.all false
set_option maxRecDepth 100000
set_option maxHeartbeats 4000000
namespace My
open PySem PySem.Spec PyProof.Rows L2
abbrev s_flen : Stmt := inCls s_cls 6
abbrev s_fcont : Stmt := inCls s_cls 7
def sp_flen (C : Addr) : Sp := fun vs H Q _ => ∃ (a : Addr) (S : Str) (ps : List (Nat × Nat)), vs = [.ref a] ∧ FontAt H C a S ps ∧ S.length ≤ 4000 ∧ Q (.int S.length) H
def sp_fcont (K : PySem.W.Frag) (C : Addr) : Sp := fun vs H Q _ => ∃ (a p : Addr) (S : Str) (ps : List (Nat × Nat)) (v : V) (d : PyData), vs = [.ref a, v] ∧ FontAt H C a S ps ∧ Rp K p H false v d ∧ textFits sizeLine d ∧ Q (.bl (signD S d)) H
section
variable {P : Program} {w : World} {K : PySem.W.Frag} {mg : Str → Option Value} {base : Heap}
theorem sc_flen : FnScope ["self"] ["self"] (defScope s_flen) := ⟨rfl, rfl, rfl, by decide +kernel, rfl, by decide +kernel, by decide +kernel⟩
theorem ok_flen {f C : Addr} {fd : FuncData} (F : Fun K "__len__" "Font.__len__" s_flen f fd) (T : TB mg) (c : Cls K C) (n1 : NoAttr K C "_signs") : FnOk P w K mg base CX0 1 f fd ["self"] (sp_flen C) := by
  refine F.ok sc_flen (fun vs H Q E h => ?_) (fun cdv A outer s H vs Q E hr h => ?_)
  · obtain ⟨a, S, ps, rfl, _⟩ := h
    rfl
  · obtain ⟨a, S, ps, rfl, hF, hS, k⟩ := h
    obtain ⟨dx, r, ys, h1, h2, h3⟩ := hF.at_
    refine ⟨_, pss_one (ps_ret (pe_callB call_len_str (by rfl) T.len PySem.boot_len (pa_cons (pe_fld (pv 0) rfl) pa_nil))), ?_⟩
    exact ⟨_, rfl, a, C, dx, _, _, rfl, h1, c, n1, fs_signs S r, S, rfl, Nat.le_trans hS (by decide), k⟩
theorem sc_fcont : FnScope ["self", "x"] ["self", "x"] (defScope s_fcont) := ⟨rfl, rfl, rfl, by decide +kernel, rfl, by decide +kernel, by decide +kernel⟩
theorem ok_fcont {f C fI : Addr} {fd fdI : FuncData} (F : Fun K "__contains__" "Font.__contains__" s_fcont f fd) (c : Cls K C) (n1 : NoAttr K C "_signs") (D : Def K mg "is_sign" fI fdI ["signs", "value"]) (G : FnOk P w K mg base CX0 1 fI fdI ["signs", "value"] (sp_isSign K)) :
    FnOk P w K mg base CX0 2 f fd ["self", "x"] (sp_fcont K C) := by
  refine F.ok sc_fcont (fun vs H Q E h => ?_) (fun cdv A outer s H vs Q E hr h => ?_)
  · obtain ⟨a, p, S, ps, v, d, rfl, _⟩ := h
    rfl
  · obtain ⟨a, p, S, ps, v, d, rfl, hF, hd, hz, k⟩ := h
    obtain ⟨dx, r, ys, h1, h2, h3⟩ := hF.at_
    refine ⟨_, pss_one (ps_ret (pe_call G hr rfl D.mgf D.kp D.bd .nil pass0 (pa_cons (pe_fld (pv 0) rfl) (pa_cons (pv 1) pa_nil)))), ?_⟩
    exact ⟨_, rfl, a, C, dx, _, _, rfl, h1, c, n1, fs_signs S r, _, rfl, S, v, d, p, rfl, hd, hz, k⟩
end
end My
end
section
set_option Elab.async false
set_option linter.all false
set_option maxRecDepth 100000
set_option maxHeartbeats 4000000
namespace My
open PySem PySem.Spec PyProof.Rows L2
/-! ### what turns tell of heads -/
theorem headsAll_at (ps : List (Nat × Nat)) (e : Nat × Nat) (c : Nat) : headOf (headsAll (ps ++ [e])) c = if c = e.2 then some e.1 else if c = e.1 then some e.2 else headOf (headsAll ps) c := by
  rw [headsAll_snoc, headOf_putN, headOf_putN]
theorem mem_spread {e : Nat × Nat} {c : Nat} : c ∈ spread e ↔ c = e.1 ∨ c = e.2 := by
  unfold spread
  split
  · rename_i h
    rw [List.mem_singleton]
    exact ⟨.inl, fun q => q.elim id fun q => q.trans h.symm⟩
  · simp
/-- by the last turn -/
theorem snoc_ind {P : List (Nat × Nat) → Prop} (h0 : P []) (h1 : ∀ l e, P l → P (l ++ [e])) (l : List (Nat × Nat)) : P l := by
  have : ∀ n (l : List (Nat × Nat)), l.length = n → P l := by
    intro n
    induction n with
    | zero =>
      intro l hl
      rw [List.length_eq_zero_iff.mp hl]
      exact h0
    | succ n ih =>
      intro l hl
      have ne : l ≠ [] := by
        intro e
        rw [e] at hl
        simp at hl
      rw [← List.dropLast_concat_getLast ne]
      exact h1 _ _ (ih _ (by rw [List.length_dropLast]; omega))
  exact this _ l rfl
theorem heads_dom : ∀ (ps : List (Nat × Nat)) (c b : Nat), headOf (headsAll ps) c = some b → c ∈ ps.flatMap spread ∧ b ∈ ps.flatMap spread := by
  intro ps
  induction ps using snoc_ind with
  | h0 => intro c b h; cases h
  | h1 l e ih =>
    intro c b h
    rw [headsAll_at] at h
    rw [List.flatMap_append, List.flatMap_singleton]
    have m : ∀ x, x = e.1 ∨ x = e.2 → x ∈ l.flatMap spread ++ spread e := fun x q => List.mem_append_right _ (mem_spread.mpr q)
    split at h
    · rename_i q
      exact ⟨m c (.inr q), m b (.inl (Option.some.inj h).symm)⟩
    · split at h
      · rename_i q
        exact ⟨m c (.inl q), m b (.inr (Option.some.inj h).symm)⟩
      · obtain ⟨h1, h2⟩ := ih c b h
        exact ⟨List.mem_append_left _ h1, List.mem_append_left _ h2⟩
theorem heads_sym : ∀ (ps : List (Nat × Nat)), (ps.flatMap spread).Nodup → ∀ c b, headOf (headsAll ps) c = some b → headOf (headsAll ps) b = some c := by
  intro ps
  induction ps using snoc_ind with
  | h0 => intro _ c b h; cases h
  | h1 l e ih =>
    intro nd c b h
    rw [List.flatMap_append, List.flatMap_singleton, List.nodup_append] at nd
    obtain ⟨n1, n2, n3⟩ := nd
    rw [headsAll_at] at h ⊢
    split at h
    · rename_i q
      obtain rfl := Option.some.inj h
      by_cases z : e.1 = e.2
      · rw [if_pos z, q, z]
      · rw [if_neg z, if_pos rfl, q]
    · rename_i q
      split at h
      · rename_i q1
        obtain rfl := Option.some.inj h
        rw [if_pos rfl, q1]
      · rename_i q1
        obtain ⟨d1, d2⟩ := heads_dom l c b h
        have b1 : b ≠ e.1 := fun z => n3 b d2 e.1 (mem_spread.mpr (.inl rfl)) z
        have b2 : b ≠ e.2 := fun z => n3 b d2 e.2 (mem_spread.mpr (.inr rfl)) z
        rw [if_neg b2, if_neg b1]
        exact ih n1 c b h
/-- turns found again by what a font keeps -/
theorem turn_due {S : Str} {h : List (Nat × Nat)} (sym : ∀ c b, headOf h c = some b → headOf h b = some c) (inS : ∀ c b, headOf h c = some b → b ∈ S.cps.toList) {c : Nat} (hc : c ∈ S.cps.toList) : turnOf (dueOf S h) c = headOf h c := by
  have mem : ∀ e ∈ dueOf S h, headOf h e.1 = some e.2 := by
    intro e he
    unfold dueOf at he
    obtain ⟨h1, _⟩ := List.mem_filter.mp he
    obtain ⟨x, hx, rfl⟩ := List.mem_map.mp h1
    obtain ⟨_, h3⟩ := List.mem_filter.mp hx
    obtain ⟨b, hb⟩ := Option.isSome_iff_exists.mp h3
    show headOf h x = some ((headOf h x).getD 0)
    rw [hb]
    rfl
  have find : ∀ l : List (Nat × Nat), (∀ e ∈ l, headOf h e.1 = some e.2) → (∃ e ∈ l, c = e.1 ∨ c = e.2) → turnOf l c = headOf h c := by
    intro l
    induction l with
    | nil => intro _ ⟨e, he, _⟩; cases he
    | cons e l ih =>
      intro m ⟨e', he', q⟩
      have me := m e List.mem_cons_self
      show (if c = e.1 then some e.2 else if c = e.2 then some e.1 else turnOf l c) = _
      split
      · rename_i z
        rw [z, me]
      · rename_i z
        split
        · rename_i z2
          rw [z2]
          exact (sym _ _ me).symm
        · rename_i z2
          refine ih (fun x hx => m x (List.mem_cons_of_mem _ hx)) ⟨e', ?_, q⟩
          rcases List.mem_cons.mp he' with rfl | he'
          · exact absurd q (fun q => q.elim z z2)
          · exact he'
  have none' : ∀ l : List (Nat × Nat), (∀ e ∈ l, c ≠ e.1 ∧ c ≠ e.2) → turnOf l c = none := by
    intro l
    induction l with
    | nil => intro _; rfl
    | cons e l ih =>
      intro m
      obtain ⟨m1, m2⟩ := m e List.mem_cons_self
      show (if c = e.1 then some e.2 else if c = e.2 then some e.1 else turnOf l c) = _
      rw [if_neg m1, if_neg m2]
      exact ih fun x hx => m x (List.mem_cons_of_mem _ hx)
  cases hh : headOf h c with
  | none =>
    refine none' _ fun e he => ⟨fun z => ?_, fun z => ?_⟩
    · have := mem e he
      rw [← z, hh] at this
      cases this
    · have := sym _ _ (mem e he)
      rw [← z, hh] at this
      cases this
  | some b =>
    rw [← hh]
    refine find _ mem ?_
    have hb := inS c b hh
    have put : ∀ x y, x ∈ S.cps.toList → headOf h x = some y → S.cps.toList.idxOf x ≤ S.cps.toList.idxOf y → (x, y) ∈ dueOf S h := by
      intro x y hx hxy le
      unfold dueOf
      refine List.mem_filter.mpr ⟨List.mem_map.mpr ⟨x, List.mem_filter.mpr ⟨hx, by rw [hxy]; rfl⟩, by rw [hxy]; rfl⟩, decide_eq_true le⟩
    by_cases le : S.cps.toList.idxOf c ≤ S.cps.toList.idxOf b
    · exact ⟨_, put c b hc hh le, .inl rfl⟩
    · exact ⟨_, put b c hb (sym _ _ hh) (by omega), .inr rfl⟩
end My
end
section
set_option Elab.async false
set_option linter.all false
set_option maxRecDepth 100000
set_option maxHeartbeats 4000000
namespace My
open PySem PySem.Spec PyProof.Rows L2
theorem heads_iff : ∀ (ps : List (Nat × Nat)), (ps.flatMap spread).Nodup → ∀ c b, headOf (headsAll ps) c = some b ↔ (c, b) ∈ ps ∨ (b, c) ∈ ps := by
  intro ps
  induction ps using snoc_ind with
  | h0 => intro _ c b; simp [headsAll, headOf]
  | h1 l e ih =>
    intro nd c b
    rw [List.flatMap_append, List.flatMap_singleton, List.nodup_append] at nd
    obtain ⟨n1, n2, n3⟩ := nd
    obtain ⟨e1, e2⟩ := e
    have off : ∀ x y, (x, y) ∈ l → x ≠ e1 ∧ x ≠ e2 ∧ y ≠ e1 ∧ y ≠ e2 := by
      intro x y h
      have hx : x ∈ l.flatMap spread := List.mem_flatMap.mpr ⟨_, h, mem_spread.mpr (.inl rfl)⟩
      have hy : y ∈ l.flatMap spread := List.mem_flatMap.mpr ⟨_, h, mem_spread.mpr (.inr rfl)⟩
      exact ⟨fun z => n3 x hx e1 (mem_spread.mpr (.inl rfl)) z, fun z => n3 x hx e2 (mem_spread.mpr (.inr rfl)) z, fun z => n3 y hy e1 (mem_spread.mpr (.inl rfl)) z, fun z => n3 y hy e2 (mem_spread.mpr (.inr rfl)) z⟩
    rw [headsAll_at]
    simp only [List.mem_append, List.mem_singleton, Prod.mk.injEq]
    constructor
    · intro h
      split at h
      · rename_i q
        exact .inr (.inr ⟨(Option.some.inj h).symm, q⟩)
      · split at h
        · rename_i q
          exact .inl (.inr ⟨q, (Option.some.inj h).symm⟩)
        · exact ((ih n1 c b).mp h).elim (fun z => .inl (.inl z)) fun z => .inr (.inl z)
    · rintro ((h | ⟨rfl, rfl⟩) | (h | ⟨rfl, rfl⟩))
      · obtain ⟨a1, a2, _, _⟩ := off _ _ h
        rw [if_neg a2, if_neg a1]
        exact (ih n1 c b).mpr (.inl h)
      · by_cases z : c = b
        · rw [if_pos z, z]
        · rw [if_neg z, if_pos rfl]
      · obtain ⟨_, _, a1, a2⟩ := off _ _ h
        rw [if_neg a2, if_neg a1]
        exact (ih n1 c b).mpr (.inr h)
      · rw [if_pos rfl]
/-- turns in another order, some of them the other way round -/
structure SameTurns (ps qs : List (Nat × Nat)) : Prop where
  mem : ∀ c b, (c, b) ∈ ps ∨ (b, c) ∈ ps ↔ (c, b) ∈ qs ∨ (b, c) ∈ qs
  perm : (qs.flatMap spread).Perm (ps.flatMap spread)
theorem same_heads {ps qs : List (Nat × Nat)} (s : SameTurns ps qs) (nd : (ps.flatMap spread).Nodup) (c : Nat) : headOf (headsAll qs) c = headOf (headsAll ps) c := by
  have nq := s.perm.nodup_iff.mpr nd
  have key : ∀ b, headOf (headsAll qs) c = some b ↔ headOf (headsAll ps) c = some b := fun b => (heads_iff qs nq c b).trans ((s.mem c b).symm.trans (heads_iff ps nd c b).symm)
  cases h : headOf (headsAll ps) c with
  | some b => exact (key b).mpr h
  | none =>
    cases h2 : headOf (headsAll qs) c with
    | none => rfl
    | some b =>
      have := (key b).mp h2
      rw [h] at this
      cases this
theorem due_congr {S : Str} {h k : List (Nat × Nat)} (e : ∀ c, headOf h c = headOf k c) : dueOf S h = dueOf S k := by
  unfold dueOf
  have e2 : (fun c => (headOf h c).isSome) = fun c => (headOf k c).isSome := funext fun c => by rw [e]
  have e3 : (fun c => (c, (headOf h c).getD 0)) = fun c => (c, (headOf k c).getD 0) := funext fun c => by rw [e]
  rw [e2, e3]
theorem spread_swap (a b : Nat) : (spread (b, a)).Perm (spread (a, b)) := by
  unfold spread
  by_cases h : a = b
  · subst h
    exact .refl _
  · rw [if_neg (fun z => h z.symm), if_neg h]
    exact List.Perm.swap _ _ _
theorem same_perm {ps qs : List (Nat × Nat)} (p : qs.Perm ps) : SameTurns ps qs := ⟨fun c b => by rw [p.mem_iff, p.mem_iff], p.flatMap_right _⟩
theorem same_trans {ps qs rs : List (Nat × Nat)} (a : SameTurns ps qs) (b : SameTurns qs rs) : SameTurns ps rs := ⟨fun x y => (a.mem x y).trans (b.mem x y), b.perm.trans a.perm⟩
theorem same_flip : ∀ {ps qs : List (Nat × Nat)}, Paired (fun e e' => e' = e ∨ e' = (e.2, e.1)) ps qs → SameTurns ps qs
  | _, _, .nil => ⟨fun _ _ => Iff.rfl, .refl _⟩
  | _, _, .cons (a := e) (b := e') h t => by
    have r := same_flip t
    obtain ⟨a, b⟩ := e
    refine ⟨fun c d => ?_, ?_⟩
    · have rm := r.mem c d
      simp only [List.mem_cons]
      rcases h with rfl | rfl
      · constructor
        · rintro ((z | z) | (z | z))
          · exact .inl (.inl z)
          · exact (rm.mp (.inl z)).elim (fun z => .inl (.inr z)) fun z => .inr (.inr z)
          · exact .inr (.inl z)
          · exact (rm.mp (.inr z)).elim (fun z => .inl (.inr z)) fun z => .inr (.inr z)
        · rintro ((z | z) | (z | z))
          · exact .inl (.inl z)
          · exact (rm.mpr (.inl z)).elim (fun z => .inl (.inr z)) fun z => .inr (.inr z)
          · exact .inr (.inl z)
          · exact (rm.mpr (.inr z)).elim (fun z => .inl (.inr z)) fun z => .inr (.inr z)
      · simp only [Prod.mk.injEq]
        constructor
        · rintro ((⟨rfl, rfl⟩ | z) | (⟨rfl, rfl⟩ | z))
          · exact .inr (.inl ⟨rfl, rfl⟩)
          · exact (rm.mp (.inl z)).elim (fun z => .inl (.inr z)) fun z => .inr (.inr z)
          · exact .inl (.inl ⟨rfl, rfl⟩)
          · exact (rm.mp (.inr z)).elim (fun z => .inl (.inr z)) fun z => .inr (.inr z)
        · rintro ((⟨rfl, rfl⟩ | z) | (⟨rfl, rfl⟩ | z))
          · exact .inr (.inl ⟨rfl, rfl⟩)
          · exact (rm.mpr (.inl z)).elim (fun z => .inl (.inr z)) fun z => .inr (.inr z)
          · exact .inl (.inl ⟨rfl, rfl⟩)
          · exact (rm.mpr (.inr z)).elim (fun z => .inl (.inr z)) fun z => .inr (.inr z)
    · rw [List.flatMap_cons, List.flatMap_cons]
      rcases h with rfl | rfl
      · exact List.Perm.append_left _ r.perm
      · exact (spread_swap a b).append r.perm
/-- what the program keeps of such turns -/
theorem heads_from {S : Str} : ∀ (l l0 : List (Nat × Nat)), ((l0 ++ l).flatMap spread).Nodup → (∀ c ∈ l.flatMap spread, c ∈ S.cps.toList) → headsFrom S (headsAll l0) (l.map fun e => .tuple [.str ⟨#[e.1]⟩, .str ⟨#[e.2]⟩]) = some (headsAll (l0 ++ l)) := by
  intro l
  induction l with
  | nil => intro l0 _ _; rw [List.append_nil]; rfl
  | cons e l ih =>
    intro l0 nd inS
    obtain ⟨a, b⟩ := e
    have ia : a ∈ S.cps.toList := inS a (List.mem_flatMap.mpr ⟨_, List.mem_cons_self, mem_spread.mpr (.inl rfl)⟩)
    have ib : b ∈ S.cps.toList := inS b (List.mem_flatMap.mpr ⟨_, List.mem_cons_self, mem_spread.mpr (.inr rfl)⟩)
    have sD : ∀ x, x ∈ S.cps.toList → signD S (.str ⟨#[x]⟩) = true := by
      intro x hx
      rw [signD_str]
      have e1 : (⟨#[x]⟩ : Str).length = 1 := rfl
      rw [e1]
      simp only [decide_true, Bool.true_and, List.all_cons, List.all_nil, Bool.and_true]
      exact decide_eq_true hx
    have pD : pairOf S (.tuple [.str ⟨#[a]⟩, .str ⟨#[b]⟩]) = some (a, b) := by
      show (if (signD S (.str ⟨#[a]⟩) && signD S (.str ⟨#[b]⟩)) = true then some _ else none) = _
      rw [sD a ia, sD b ib]
      rfl
    rw [List.flatMap_append, List.nodup_append] at nd
    obtain ⟨n1, n2, n3⟩ := nd
    have off : ∀ x, x = a ∨ x = b → headOf (headsAll l0) x = none := by
      intro x hx
      cases h : headOf (headsAll l0) x with
      | none => rfl
      | some y =>
        obtain ⟨d1, _⟩ := heads_dom l0 x y h
        exact absurd rfl (n3 x d1 x (List.mem_flatMap.mpr ⟨(a, b), List.mem_cons_self, mem_spread.mpr hx⟩))
    rw [List.map_cons, headsFrom_cons, pD]
    show (if ((headOf (headsAll l0) a).isSome || (headOf (headsAll l0) b).isSome) = true then none else headsFrom S (putN (putN (headsAll l0) a b) b a) _) = _
    rw [off a (.inl rfl), off b (.inr rfl), if_neg (by decide)]
    have e2 : putN (putN (headsAll l0) a b) b a = headsAll (l0 ++ [(a, b)]) := (headsAll_snoc l0 (a, b)).symm
    rw [e2, ih (l0 ++ [(a, b)]) ?_ ?_, List.append_assoc]
    · rfl
    · rw [List.append_assoc]
      show ((l0 ++ (a, b) :: l).flatMap spread).Nodup
      rw [List.flatMap_append, List.nodup_append]
      exact ⟨n1, n2, n3⟩
    · intro c hc
      refine inS c ?_
      rw [List.flatMap_cons]
      exact List.mem_append_right _ hc
theorem kept_same {S : Str} {ps qs : List (Nat × Nat)} (s : SameTurns ps qs) (nd : (ps.flatMap spread).Nodup) (inS : ∀ c ∈ ps.flatMap spread, c ∈ S.cps.toList) :
    (headsFrom S [] (qs.map fun e => .tuple [.str ⟨#[e.1]⟩, .str ⟨#[e.2]⟩])).map (dueOf S) = some (dueOf S (headsAll ps)) := by
  have := heads_from (S := S) qs [] (by simpa using s.perm.nodup_iff.mpr nd) (fun c hc => inS c (s.perm.mem_iff.mp hc))
  have e : headsFrom S [] (qs.map fun e => .tuple [.str ⟨#[e.1]⟩, .str ⟨#[e.2]⟩]) = some (headsAll qs) := by
    rw [List.nil_append] at this
    exact this
  rw [e, Option.map_some, due_congr (same_heads s nd)]
end My
end
section
set_option Elab.async false
set_option linter.all false
set_option maxRecDepth 100000
set_option maxHeartbeats 4000000
namespace My
open PySem PySem.Spec PyProof.Rows L2
section
variable {X : Cx} {CX : CXT} {k i : Nat} {C f p g : Addr} {mc : Value} {fd : FuncData} {ps : List Str} {sp : Sp} {dvs : List V} {ds : List Value} {E : XK} {x m : Str} {np pos apos : Pos} {o e : Expr} {es : List Expr} {ta : TE} {t : TA}
/-- c(a, ..), the name c a local that holds the class at C -/
def tMakeL (i : Nat) (C : Addr) (sp : Sp) (dvs : List V) (E : XK) (t : TA) : TE := fun σ H Q => σ[i]? = some (some (.ref C)) ∧ tMake C sp dvs E t σ H Q
theorem pe_makeL (M : Mk X.K C f) (F : FnOk X.prog X.w X.K X.mg X.base CX k f fd ps sp) (hr : Room (k + 1) X.A) (hN : X.N[i]? = some x) (hv : Vis X.env.scope x) (hb : Binds X.K fd ps ds) (hd : Vals dvs ds) (hx : Passes CX X E) (ha : PA X (e :: es) t)
    (hdb : (x == ("__debug__" : Str)) = false := by decide) (hcd : (x == ("__classdict__" : Str)) = false := by decide)
    (he : starEach (e :: es) X.env = (false, eval e X.env) :: starEach es X.env := by rfl) (hpl : (backTo pos (starEach es X.env)).any (·.1) = false := by rfl) :
    PE X (.Call (.Name x np) (e :: es) [] pos) (tMakeL i C sp dvs E t) := by
  refine ⟨fun pins s σ H Q I h => ?_⟩
  obtain ⟨hs, ht⟩ := h
  refine wpAny_Call_Name_kw (thn ((pe_var (pos := np) hN hv hdb hcd).run pins s σ H (fun v H1 => v = .ref C ∧ H1 = H) I ⟨.ref C, hs, rfl, rfl⟩) fun u s1 ⟨v, H1, I1, r1, q1⟩ => ?_)
  obtain ⟨rfl, rfl⟩ := q1
  cases r1
  refine PySem.W.callWith_K (h₀ := X.base) I.ok.mod.kin M.kp (thn (ha.run pos pins s1 σ _ _ I1 ht) fun us s2 ⟨vs, H2, I2, r, q⟩ => ⟨I2.kIn, ?_⟩) he hpl
  exact run_make M F hr hb hd hx I2 r q
/-- C.m(), m a classmethod -/
theorem pe_cmeth0 {pl : Sem Bool} (he : PE X o ta) (r : ClX.CRead X.K C mc) (c : ClX.CMet X.K C mc m p g) (F : FnR X.prog X.w X.K X.mg X.base CX k g sp) (hr : Room k X.A) (hx : Passes CX X E)
    (ht : eval (.Call (.Attribute o m apos) [] [] pos) X.env = (do
      let ov ← eval o X.env
      standAt apos.atName
      let (f, first) ← holding [ov] (getMethod ov m pl)
      callWith pos f first (backTo pos (starEach [] X.env)) (backToKw pos (keywordEach [] X.env))) := by rfl) :
    PE X (.Call (.Attribute o m apos) [] [] pos) (ClX.tCMeth C sp E ta tNil) := by
  refine ⟨fun pins s σ H Q I h => ?_⟩
  refine PySem.W.methodCall_KW (pl := pl) (thn (he.run pins s σ H _ I h) fun u s1 ⟨x, H1, I1, rx, ex, q⟩ => ?_) ht
  subst ex
  obtain rfl : u = Value.ref C := rx
  refine ClX.getmethcm_ok I1 r c fun s2 I2 => ?_
  have at_ : PySem.W.MethP X.K s1.heap.objs.size g (.ref C) s2.heap := ⟨ClX.pin_at I2, I2.kIn⟩
  exact PySem.W.callWith_M0 (first := []) at_ c.fi (ClX.run_cm (us := []) (vs := []) F hr hx I2 .nil q)
end
end My
end
section
set_option Elab.async false
set_option linter.all false
set_option maxRecDepth 100000
set_option maxHeartbeats 4000000
namespace My
open PySem PySem.Spec PyProof.Rows L2
theorem made_same {H H' : Hp} {C x dx : Addr} (hx : H x = none) (hdx : H dx = none) (b : But x (upd (upd H dx (.own x)) x (.ins C dx [])) H') : Same H H' := fun q o e =>
  b q o (ne_of_none e hx) (by rw [upd_ne (ne_of_none e hx), upd_ne (ne_of_none e hdx)]; exact e)
theorem made_up {H : Hp} {C x dx : Addr} (hx : H x = none) (hdx : H dx = none) : Same H (upd (upd H dx (.own x)) x (.ins C dx [])) := fun q o e => by
  rw [upd_ne (ne_of_none e hx), upd_ne (ne_of_none e hdx)]
  exact e
abbrev digitsS : Str := "0123456789"
def digitsPs : List (Nat × Nat) := [(48, 48), (49, 49), (54, 57), (56, 56)]
def pairD (e : Nat × Nat) : PyData := .tuple [.str ⟨#[e.1]⟩, .str ⟨#[e.2]⟩]
theorem digits_kept : keptD digitsS (.tuple (digitsPs.map pairD)) = some (dueOf digitsS (headsAll digitsPs)) := by decide +kernel
section
variable {P : Program} {w : World} {K : PySem.W.Frag} {mg : Str → Option Value} {base : Heap}
end
end My
end
section
set_option Elab.async false
set_option linter.all false
set_option maxRecDepth 100000
set_option maxHeartbeats 4000000
namespace My
open PySem PySem.Spec PyProof.Rows L2
theorem due_nil (S : Str) : dueOf S [] = [] := by
  unfold dueOf
  have : S.cps.toList.filter (fun c => (headOf [] c).isSome) = [] := by
    rw [List.filter_eq_nil_iff]
    intro c _
    simp [headOf]
  rw [this]
  rfl
theorem kept_nilT (S : Str) : keptD S (.tuple []) = some [] := by
  show some (dueOf S []) = _
  rw [due_nil]
theorem kept_nilL (S : Str) : keptD S (.list []) = some [] := by
  show some (dueOf S []) = _
  rw [due_nil]
end My
end
section
set_option Elab.async false
set_option linter.all false
set_option maxRecDepth 100000
set_option maxHeartbeats 4000000
namespace My
open PySem PySem.Spec PyProof.Rows L2
/-! ### how long a shown value can be -/
mutual
def wt : PyData → Nat
  | .str z => 10 * z.length + 2
  | .list ds => wtAll ds + 4
  | .tuple ds => wtAll ds + 4
  | d => d.shown.length
def wtAll : List PyData → Nat
  | [] => 0
  | d :: ds => wt d + 2 + wtAll ds
end
mutual
/-- every character of every text is a character -/
def chr : PyData → Bool
  | .str z => z.cps.toList.all fun c => decide (c < 16 ^ 8)
  | .list ds => chrAll ds
  | .tuple ds => chrAll ds
  | _ => true
def chrAll : List PyData → Bool
  | [] => true
  | d :: ds => chr d && chrAll ds
end
theorem sum_shown (ds : List PyData) (h : ∀ d ∈ ds, d.shown.length ≤ wt d) : ((PyData.shownAll ds).map (·.length)).sum + (PyData.shownAll ds).length * 2 ≤ wtAll ds := by
  induction ds with
  | nil => exact Nat.le_refl _
  | cons d ds ih =>
    have h1 := h d List.mem_cons_self
    have h2 := ih fun x hx => h x (List.mem_cons_of_mem _ hx)
    show ((d.shown :: PyData.shownAll ds).map (·.length)).sum + (d.shown :: PyData.shownAll ds).length * 2 ≤ wt d + 2 + wtAll ds
    rw [List.map_cons, List.sum_cons, List.length_cons]
    omega
theorem len_app (x y : Str) : (x ++ y).length = x.length + y.length := by
  show (x.cps ++ y.cps).size = _
  rw [Array.size_append]
  rfl
theorem from_le : ∀ (ts : List Str) (k : Nat) (acc : Str), (textFrom k acc ts).length ≤ acc.length + (ts.map (·.length)).sum + ts.length * 2
  | [], k, acc => Nat.le_refl _
  | t :: r, k, acc => by
    have ih := from_le r (k + 1) (acc ++ (if k > 0 then ", " else "" : String) ++ t)
    have hs : ((if k > 0 then ", " else "" : String) : Str).length ≤ 2 := by
      by_cases h : k > 0
      · rw [if_pos h]; decide
      · rw [if_neg h]; decide
    rw [len_app, len_app] at ih
    show (textFrom (k + 1) (acc ++ (if k > 0 then ", " else "" : String) ++ t) r).length ≤ _
    rw [List.map_cons, List.sum_cons, List.length_cons]
    omega
theorem list_le (ts : List Str) : (listText ts).length ≤ (ts.map (·.length)).sum + ts.length * 2 + 4 := by
  have := from_le ts 0 "["
  show (textFrom 0 "[" ts ++ "]").length ≤ _
  rw [len_app]
  have e1 : ("[" : Str).length = 1 := by decide
  have e2 : ("]" : Str).length = 1 := by decide
  omega
theorem tuple_le (ts : List Str) : (tupleText ts).length ≤ (ts.map (·.length)).sum + ts.length * 2 + 4 := by
  have := StrLaws.join_length_le ", " ts
  have e : (PySem.Str.ofString ", ").length = 2 := by decide
  rw [e] at this
  have hs : ((if ts.length == 1 then ",)" else ")" : String) : Str).length ≤ 2 := by
    by_cases h : (ts.length == 1) = true
    · rw [if_pos h]; decide
    · rw [if_neg h]; decide
  show (("(" : Str) ++ Str.join ", " ts ++ (if ts.length == 1 then ",)" else ")" : String)).length ≤ _
  rw [len_app, len_app]
  have e1 : ("(" : Str).length = 1 := by decide
  omega
mutual
theorem shown_wt : ∀ d : PyData, chr d = true → d.shown.length ≤ wt d
  | .none, _ => Nat.le_refl _
  | .bool _, _ => Nat.le_refl _
  | .int _, _ => Nat.le_refl _
  | .dict _, _ => Nat.le_refl _
  | .str z, h => by
    simp only [chr, List.all_eq_true, decide_eq_true_eq] at h
    exact StrLaws.reprText_len z h
  | .list ds, h => by
    have h1 := sum_shown ds (shown_wtA ds h)
    have h2 := list_le (PyData.shownAll ds)
    show (listText (PyData.shownAll ds)).length ≤ wtAll ds + 4
    omega
  | .tuple ds, h => by
    have h1 := sum_shown ds (shown_wtA ds h)
    have h2 := tuple_le (PyData.shownAll ds)
    show (tupleText (PyData.shownAll ds)).length ≤ wtAll ds + 4
    omega
theorem shown_wtA : ∀ ds : List PyData, chrAll ds = true → ∀ d ∈ ds, d.shown.length ≤ wt d
  | [], _, d, hd => by cases hd
  | e :: ds, h, d, hd => by
    simp only [chrAll, Bool.and_eq_true] at h
    rcases List.mem_cons.mp hd with he | hd
    · rw [he]
      exact shown_wt e h.1
    · exact shown_wtA ds h.2 d hd
end
end My
end
section
set_option Elab.async false
set_option linter.all false
set_option maxRecDepth 100000
set_option maxHeartbeats 4000000
namespace My
open PySem PySem.Spec PyProof.Rows L2
/-! ### data that a law shows -/
theorem alpha_small : ∀ c ∈ alphabet.cps.toList, c < 16 ^ 8 := by decide +kernel
theorem pairs_data : ∀ l : List (Nat × Nat), (∀ e ∈ l, e.1 ∈ alphabet.cps.toList ∧ e.2 ∈ alphabet.cps.toList) →
    chrAll (l.map pairD) = true ∧ PyData.showableAll (l.map pairD) = true ∧ PyData.depthAll (l.map pairD) ≤ 3 ∧ wtAll (l.map pairD) ≤ 40 * l.length ∧ PyData.hasDictAll (l.map pairD) = false := by
  intro l
  induction l with
  | nil => intro _; exact ⟨rfl, rfl, Nat.zero_le _, Nat.zero_le _, rfl⟩
  | cons e l ih =>
    intro h
    obtain ⟨a, b⟩ := e
    obtain ⟨h1, h2⟩ := h (a, b) List.mem_cons_self
    obtain ⟨i1, i2, i3, i4, i5⟩ := ih fun x hx => h x (List.mem_cons_of_mem _ hx)
    have ca : a < 16 ^ 8 := alpha_small a h1
    have cb : b < 16 ^ 8 := alpha_small b h2
    have c1 : chr (pairD (a, b)) = true := by
      simp only [pairD, chr, chrAll, Bool.and_eq_true, List.all_eq_true, decide_eq_true_eq]
      refine ⟨fun x hx => ?_, fun x hx => ?_, trivial⟩
      · have : x = a := by simpa using hx
        rw [this]; exact ca
      · have : x = b := by simpa using hx
        rw [this]; exact cb
    refine ⟨?_, ?_, ?_, ?_, ?_⟩
    · show (chr (pairD (a, b)) && chrAll (l.map pairD)) = true
      rw [c1, i1]
      rfl
    · show (PyData.showable (pairD (a, b)) && PyData.showableAll (l.map pairD)) = true
      rw [i2]
      rfl
    · show max (PyData.depth (pairD (a, b))) (PyData.depthAll (l.map pairD)) ≤ 3
      exact Nat.max_le.mpr ⟨by show 1 ≤ 3; decide, i3⟩
    · show wt (pairD (a, b)) + 2 + wtAll (l.map pairD) ≤ 40 * (l.length + 1)
      have : wt (pairD (a, b)) = 32 := rfl
      omega
    · show (PyData.hasDict (pairD (a, b)) || PyData.hasDictAll (l.map pairD)) = false
      rw [i5]
      rfl
/-- pairs as a font keeps them -/
theorem rp_pairs {K : PySem.W.Frag} {H : Hp} {p : Addr} {o : HO} (hp : H p = some o) (no : ∀ xs, o ≠ .tup xs) {st : Bool} : ∀ {ps : List (Nat × Nat)} {ys : List V}, PairsAt H ps ys → RpAll K p H st ys (ps.map pairD)
  | _, _, .nil => .nil _
  | _, _, .cons ⟨q, e, h⟩ t => by
    subst e
    exact .cons (.tup h (fun z => by rw [z, hp] at h; exact no _ (Option.some.inj h)) (.cons (.str _ _) (.cons (.str _ _) (.nil _)))) (rp_pairs hp no t)
theorem due_le (S : Str) (h : List (Nat × Nat)) : (dueOf S h).length ≤ S.length := by
  unfold dueOf
  refine Nat.le_trans (List.length_filter_le _ _) ?_
  rw [List.length_map]
  refine Nat.le_trans (List.length_filter_le _ _) ?_
  exact Nat.le_of_eq Array.length_toList
theorem due_in {S : Str} {h : List (Nat × Nat)} (inS : ∀ c b, headOf h c = some b → b ∈ S.cps.toList) : ∀ e ∈ dueOf S h, e.1 ∈ S.cps.toList ∧ e.2 ∈ S.cps.toList := by
  intro e he
  unfold dueOf at he
  obtain ⟨h1, _⟩ := List.mem_filter.mp he
  obtain ⟨x, hx, rfl⟩ := List.mem_map.mp h1
  obtain ⟨h2, h3⟩ := List.mem_filter.mp hx
  obtain ⟨b, hb⟩ := Option.isSome_iff_exists.mp h3
  refine ⟨h2, ?_⟩
  show (headOf h x).getD 0 ∈ _
  rw [hb]
  exact inS x b hb
/-- what is shown of a font: its signs, its turns, how many signs -/
def fontData (S : Str) (l : List (Nat × Nat)) : PyData := .tuple [.str S, .tuple (l.map pairD), .int S.length]
theorem small_int : ∀ n : Fin 11, (PyData.int ((n : Nat) : Int)).shown.length ≤ 10 ∧ (PyData.int ((n : Nat) : Int)).showable = true := by decide +kernel
theorem font_data {S : Str} {l : List (Nat × Nat)} (hS : S.length ≤ 10) (ab : ∀ c ∈ S.cps.toList, c ∈ alphabet.cps.toList) (hl : l.length ≤ 10) (inS : ∀ e ∈ l, e.1 ∈ S.cps.toList ∧ e.2 ∈ S.cps.toList) :
    (fontData S l).showable = true ∧ (fontData S l).shown.length ≤ sizeLine ∧ (fontData S l).depth ≤ 60 ∧ (fontData S l).hasDict = false := by
  obtain ⟨h1, h2, h3, h4, h5⟩ := pairs_data l fun e he => ⟨ab _ (inS e he).1, ab _ (inS e he).2⟩
  obtain ⟨n1, n2⟩ := small_int ⟨S.length, by omega⟩
  have cS : chr (.str S) = true := by
    simp only [chr, List.all_eq_true, decide_eq_true_eq]
    exact fun c hc => alpha_small c (ab c hc)
  refine ⟨?_, ?_, ?_, ?_⟩
  · show (true && (PyData.showableAll (l.map pairD) && (PyData.showable (.int S.length) && true))) = true
    rw [h2, n2]
    rfl
  · refine Nat.le_trans (shown_wt _ ?_) ?_
    · show (chr (.str S) && (chrAll (l.map pairD) && (true && true))) = true
      rw [cS, h1]
      rfl
    · show (10 * S.length + 2 + 2 + (wtAll (l.map pairD) + 4 + 2 + ((PyData.int S.length).shown.length + 2 + 0))) + 4 ≤ sizeLine
      have : (1000 : Nat) ≤ sizeLine := by decide
      have n3 : (PyData.int S.length).shown.length ≤ 10 := n1
      omega
  · show max 0 (max (PyData.depthAll (l.map pairD) + 1) (max 0 0)) + 1 ≤ 60
    omega
  · show (false || (PyData.hasDictAll (l.map pairD) || (false || false))) = false
    rw [h5]
    rfl
end My
end
section
set_option Elab.async false
set_option linter.all false
set_option maxRecDepth 100000
set_option maxHeartbeats 4000000
namespace My
open PySem PySem.Spec PyProof.Rows L2 LamX
/-! ### frames that let tables grow -/
section
variable {K : PySem.W.Frag} {p : Addr} {H H1 : Hp}
mutual
theorem Rp.ext (s : ExtN H H1) : ∀ {st : Bool} {d : PyData} {v : V}, Rp K p H st v d → Rp K p H1 st v d
  | _, _, _, .non _ => .non _
  | _, _, _, .bl _ b => .bl _ b
  | _, _, _, .int _ i => .int _ i
  | _, _, _, .str _ z => .str _ z
  | _, _, _, .lst h n m r => .lst (s _ _ h fun _ z => by cases z) n m (RpAll.ext s r)
  | _, _, _, .tup h n r => .tup (s _ _ h fun _ z => by cases z) n (RpAll.ext s r)
  | _, _, _, .dct h n r1 r2 e => .dct (s _ _ h fun _ z => by cases z) n (RpAll.ext s r1) (RpAll.ext s r2) e
  | _, _, _, .emp h => .emp h
theorem RpAll.ext (s : ExtN H H1) : ∀ {st : Bool} {ds : List PyData} {vs : List V}, RpAll K p H st vs ds → RpAll K p H1 st vs ds
  | _, _, _, .nil _ => .nil _
  | _, _, _, .cons a b => .cons (Rp.ext s a) (RpAll.ext s b)
end
theorem PairsAt.ext (s : ExtN H H1) : ∀ {ps : List (Nat × Nat)} {ys : List V}, PairsAt H ps ys → PairsAt H1 ps ys
  | _, _, .nil => .nil
  | _, _, .cons ⟨q, e, h⟩ t => .cons ⟨q, e, s _ _ h fun _ z => by cases z⟩ (PairsAt.ext s t)
theorem FontAt.ext {C a : Addr} {S : Str} {ps : List (Nat × Nat)} (s : ExtN H H1) (h : FontAt H C a S ps) : FontAt H1 C a S ps := by
  obtain ⟨dx, r, ys, h1, h2, h3⟩ := h.at_
  exact ⟨dx, r, ys, s _ _ h1 (fun _ z => by cases z), s _ _ h2 (fun _ z => by cases z), h3.ext s⟩
theorem PenAt.ext {c : Addr} {n : Nat} (s : ExtN H H1) (h : PenAt H p c n) : PenAt H1 p c n := by
  obtain ⟨cs, u, z, h1, h2, h3, h4, h5⟩ := h
  exact ⟨cs, u, z, s _ _ h1 (fun _ z => by cases z), s _ _ h2 (fun _ z => by cases z), h3, h4, h5⟩
/-- tables stay what they are where only the pen changes -/
theorem Tabs.but {c : Addr} {n : Nat} {T : List (Addr × Str)} (h : PenAt H p c n) (b : But p H H1) (t : Tabs T H) : Tabs T H1 := fun e he => by
  obtain ⟨ps, h1, h2, h3⟩ := t e he
  obtain ⟨cs, u, z, hp, _⟩ := h
  refine ⟨ps, b _ _ (ne_of h1 hp (by intro z; cases z)) h1, h2, fun pos cv hc => ?_⟩
  obtain ⟨c', e1, e2⟩ := h3 pos cv hc
  exact ⟨c', e1, b _ _ (fun z => by rw [z, hp] at e2; have := Option.some.inj e2; unfold CodeO at this; cases this) e2⟩
end
/-- data that a law may show: what it is about -/
structure Shown (K : PySem.W.Frag) (p : Addr) (H : Hp) (v : V) (d : PyData) : Prop where
  rp : Rp K p H d.hasDict v d
  fit : fit d = true
  dep : d.depth ≤ 4
  shw : d.showable = true
  len : d.shown.length ≤ 200
section
variable {K : PySem.W.Frag} {p : Addr} {H H1 : Hp} {v : V} {d : PyData}
theorem Shown.but (s : But p H H1) (h : Shown K p H v d) : Shown K p H1 v d := ⟨h.rp.but s, h.fit, h.dep, h.shw, h.len⟩
theorem Shown.same (s : Same H H1) (h : Shown K p H v d) : Shown K p H1 v d := h.but (.of s)
theorem Shown.ext (s : ExtN H H1) (h : Shown K p H v d) : Shown K p H1 v d := ⟨h.rp.ext s, h.fit, h.dep, h.shw, h.len⟩
theorem Shown.text (h : Shown K p H v d) : textFits sizeLine d := (fit.text h.fit).more (by decide)
/-- a list of one: it does not stand at sys.modules' place -/
theorem Shown.one {r : Addr} (h : Shown K p H v d) (hr : H r = some (.lst [v])) (n : r ≠ p) (n2 : r ≠ sysModules) : Rp K p H false (.ref r) (.list [d]) := by
  refine .lst hr n (fun _ => n2) (.cons ?_ (.nil _))
  show Rp K p H (d.hasDict || false) v d
  rw [Bool.or_false]
  exact h.rp
theorem one_data (h1 : d.showable = true) (h2 : d.shown.length ≤ 200) (h3 : d.depth ≤ 4) : (PyData.list [d]).showable = true ∧ (PyData.list [d]).shown.length ≤ sizeLine ∧ (PyData.list [d]).depth ≤ 60 := by
  refine ⟨?_, ?_, ?_⟩
  · show (d.showable && true) = true
    rw [h1]; rfl
  · have e : (PyData.list [d]).shown.length ≤ d.shown.length + 10 := by
      have := list_le [d.shown]
      have e2 : ([d.shown].map (·.length)).sum = d.shown.length := by simp
      rw [e2] at this
      show (listText [d.shown]).length ≤ _
      simp only [List.length_cons, List.length_nil] at this
      omega
    have : (1000 : Nat) ≤ sizeLine := by decide
    omega
  · show max d.depth 0 + 1 ≤ 60
    omega
theorem shown_str {z : Str} (h : z.length ≤ 10) (hc : ∀ c ∈ z.cps.toList, c < 16 ^ 8) : Shown K p H (.str z) (.str z) := by
  refine ⟨.str _ _, ?_, Nat.zero_le _, rfl, ?_⟩
  · show decide (z.length ≤ 4000) = true
    exact decide_eq_true (Nat.le_trans h (by decide))
  · refine Nat.le_trans (shown_wt _ ?_) ?_
    · simp only [chr, List.all_eq_true, decide_eq_true_eq]
      exact hc
    · show 10 * z.length + 2 ≤ 200
      omega
end
end My
end
section
set_option Elab.async false
set_option linter.all false
set_option maxRecDepth 100000
set_option maxHeartbeats 4000000
namespace My
open PySem PySem.Spec PyProof.Rows L2 LamX
/-! ### a statement's reading, weakened -/
theorem PS.weak {X : Cx} {st : Stmt} {t t' : TS} (h : PS X st t) (hw : ∀ D σ H, t' D σ H → t D σ H) : PS X st t' := ⟨fun pins s σ H D I q => h.run pins s σ H D I (hw D σ H q)⟩
/-! ### where no list is changed but one -/
def ExtL (H H' : Hp) : Prop := ∀ b o, H b = some o → (∀ xs, o ≠ .lst xs) → H' b = some o
section
variable {K : PySem.W.Frag} {H H1 : Hp}
theorem ExtL.wr {l : Addr} {xs : List V} {o : HO} (h : H l = some (.lst xs)) (w : Wr H l o H1) : ExtL H H1 := fun b u e n => by
  rw [w.els b (fun z => n xs (by rw [z, h] at e; exact (Option.some.inj e).symm))]
  exact e
theorem PairsAt.extL (s : ExtL H H1) : ∀ {ps : List (Nat × Nat)} {ys : List V}, PairsAt H ps ys → PairsAt H1 ps ys
  | _, _, .nil => .nil
  | _, _, .cons ⟨q, e, h⟩ t => .cons ⟨q, e, s _ _ h fun _ z => by cases z⟩ (PairsAt.extL s t)
theorem FontAt.extL {C a : Addr} {S : Str} {ps : List (Nat × Nat)} (s : ExtL H H1) (h : FontAt H C a S ps) : FontAt H1 C a S ps := by
  obtain ⟨dx, r, ys, h1, h2, h3⟩ := h.at_
  exact ⟨dx, r, ys, s _ _ h1 (fun _ z => by cases z), s _ _ h2 (fun _ z => by cases z), h3.extL s⟩
theorem Tabs.extL {T : List (Addr × Str)} (s : ExtL H H1) (t : Tabs T H) : Tabs T H1 := fun e he => by
  obtain ⟨ps, h1, h2, h3⟩ := t e he
  refine ⟨ps, s _ _ h1 (fun _ z => by cases z), h2, fun pos cv hc => ?_⟩
  obtain ⟨c', e1, e2⟩ := h3 pos cv hc
  exact ⟨c', e1, s _ _ e2 (fun _ z => by unfold CodeO at z; cases z)⟩
theorem PairsAt.but {p : Addr} {o : HO} (hp : H p = some o) (no : ∀ xs, o ≠ .tup xs) (s : But p H H1) : ∀ {ps : List (Nat × Nat)} {ys : List V}, PairsAt H ps ys → PairsAt H1 ps ys
  | _, _, .nil => .nil
  | _, _, .cons ⟨q, e, h⟩ t => .cons ⟨q, e, s _ _ (fun z => by rw [z, hp] at h; exact no _ (Option.some.inj h)) h⟩ (PairsAt.but hp no s t)
theorem PairsAt.pen {p c : Addr} {n : Nat} (hP : PenAt H p c n) (s : But p H H1) {ps : List (Nat × Nat)} {ys : List V} (h : PairsAt H ps ys) : PairsAt H1 ps ys := by
  obtain ⟨cs, u, z, hp, _⟩ := hP
  exact h.but hp (fun xs z => by cases z) s
theorem FontAt.pen {p c : Addr} {n : Nat} (hP : PenAt H p c n) (s : But p H H1) {C a : Addr} {S : Str} {ps : List (Nat × Nat)} (h : FontAt H C a S ps) : FontAt H1 C a S ps := by
  obtain ⟨dx, r, ys, h1, h2, h3⟩ := h.at_
  have h3' := h3.pen hP s
  obtain ⟨cs, u, z, hp, _⟩ := hP
  exact ⟨dx, r, ys, s _ _ (ne_of h1 hp (by intro z; cases z)) h1, s _ _ (ne_of h2 hp (by intro z; cases z)) h2, h3'⟩
/-- turns that are passed: what they are as data -/
theorem fit_pairs : ∀ qs : List (Nat × Nat), fitAll (qs.map pairD) = true
  | [] => rfl
  | e :: qs => by
    show (fit (pairD e) && fitAll (qs.map pairD)) = true
    rw [fit_pairs qs]
    rfl
theorem passed_data {qs : List (Nat × Nat)} (hl : qs.length ≤ 10) (ab : ∀ e ∈ qs, e.1 ∈ alphabet.cps.toList ∧ e.2 ∈ alphabet.cps.toList) {d : PyData} (hd : d = .list (qs.map pairD) ∨ d = .tuple (qs.map pairD)) :
    fit d = true ∧ d.showable = true ∧ d.shown.length ≤ sizeLine ∧ d.depth ≤ 60 := by
  obtain ⟨h1, h2, h3, h4, h5⟩ := pairs_data qs ab
  have f := fit_pairs qs
  have big : (1000 : Nat) ≤ sizeLine := by decide
  have hl2 : (qs.map pairD).length ≤ 4000 := by rw [List.length_map]; omega
  rcases hd with rfl | rfl
  · refine ⟨?_, h2, ?_, ?_⟩
    · show (decide ((qs.map pairD).length ≤ 4000) && fitAll (qs.map pairD)) = true
      rw [f, decide_eq_true hl2]; rfl
    · refine Nat.le_trans (shown_wt _ h1) ?_
      show wtAll (qs.map pairD) + 4 ≤ sizeLine
      omega
    · show PyData.depthAll (qs.map pairD) + 1 ≤ 60
      omega
  · refine ⟨?_, h2, ?_, ?_⟩
    · show (decide ((qs.map pairD).length ≤ 4000) && fitAll (qs.map pairD)) = true
      rw [f, decide_eq_true hl2]; rfl
    · refine Nat.le_trans (shown_wt _ h1) ?_
      show wtAll (qs.map pairD) + 4 ≤ sizeLine
      omega
    · show PyData.depthAll (qs.map pairD) + 1 ≤ 60
      omega
theorem good_fontD {m : Nat} {S : Str} {ps : List (Nat × Nat)} (hm : m ≤ 10) (g : Good m S ps) : fontD (.str S) = true := by
  rw [fontD_str, setD_str, decide_eq_true (p := 2 ≤ S.length ∧ S.length ≤ 10) ⟨g.lo, Nat.le_trans g.hi hm⟩, decide_eq_true g.nd, Bool.true_and, Bool.true_and, List.all_eq_true]
  exact fun c hc => decide_eq_true (g.ab c hc)
theorem good_nil {m : Nat} {S : Str} {ps : List (Nat × Nat)} (g : Good m S ps) : Good m S [] := ⟨g.lo, g.hi, g.nd, g.ab, List.nodup_nil, fun c hc => by cases hc⟩
end
/-! ### Font(..) -/
def qMk (K : PySem.W.Frag) (C : Addr) (dvs : List V) (t : TA) : TE := fun σ H Q => t σ H fun vs H1 => ∃ (S : Str) (v : V) (d : PyData) (ps : List (Nat × Nat)) (p : Addr), vs ++ dvs = [.str S, v] ∧ Rp K p H1 false v d ∧ fit d = true ∧ fontD (.str S) = true ∧ keptD S d = some ps ∧
  ∀ H' a, Same H1 H' → H1 a = none → FontAt H' C a S ps → Q (.ref a) H'
theorem pe_font {X : Cx} {C f : Addr} {fd : FuncData} {ds : List Value} {dvs : List V} {e : Expr} {es : List Expr} {p pos : Pos} {t : TA} (M : Mk X.K C f) (G : FnOk X.prog X.w X.K X.mg X.base CX0 4 f fd ["self", "signs", "turns"] (sp_init X.K C)) (hr : Room 5 X.A) (hg : Gl X "Font") (hm : X.mg "Font" = some (.ref C))
    (hb : Binds X.K fd ["self", "signs", "turns"] ds) (hd : Vals dvs ds) (ha : PA X (e :: es) t) (he : starEach (e :: es) X.env = (false, eval e X.env) :: starEach es X.env := by rfl) (hpl : (backTo pos (starEach es X.env)).any (·.1) = false := by rfl) :
    PE X (.Call (.Name "Font" p) (e :: es) [] pos) (qMk X.K C dvs t) :=
  PE.weak (pe_make M G hr hg hm hb hd pass0 (PA.mc ha) (by decide) he hpl) fun σ H Q q => ⟨_, q, fun vs H1 z => by
    obtain ⟨S, v, d, ps, p, e, hv, hf, hF, hK, k⟩ := z
    intro x dx hx hdx ne
    rw [e]
    exact ⟨x, dx, p, S, v, d, ps, rfl, upd_same, hv.but (.of (made_up hx hdx)), hf, hF, hK, fun H' bt ft => ⟨rfl, k H' x (made_same hx hdx bt) hx ft⟩⟩⟩
end My
end
section
set_option Elab.async false
set_option linter.all false
set_option maxRecDepth 100000
set_option maxHeartbeats 4000000
namespace My
open PySem PySem.Spec PyProof.Rows L2
/-! ### the turns, some of them the other way round -/
theorem lc_flip {K : PySem.W.Frag} {a D p c : Addr} {xs : List V} {ps : List (Nat × Nat)} {n i : Nat} {te : TE} {vs : List Nat} {σ : L2.St} {H1 : Hp} {Qd : Hp → Prop} (hP : PenAt H1 p c n) (hA : H1 a = some (.lst xs)) (hap : a ≠ p) (hps : PairsAt H1 ps xs) (small : xs.length ≤ 10) (free : H1 D = none)
    (hw : ∀ x, wipe ((wipe σ vs).set i (some x)) vs = wipe σ vs)
    (he : ∀ (j q : Nat) (e : Nat × Nat) (H' : Hp) (C : VK), j < xs.length → PenAt H' p c (n + j) → H' q = some (.tup [sg e.1, sg e.2]) → (∀ H2 r e', DrewP H' p c (n + j + 1) H2 → (e' = e ∨ e' = (e.2, e.1)) → H2 r = some (.tup [sg e'.1, sg e'.2]) → C (.ref r) H2) → te ((wipe σ vs).set i (some (.ref q))) H' C)
    (hd : ∀ H' zs qs, DrewP H1 p c (n + 10) H' → H' D = some (.lst zs) → PairsAt H' qs zs → SameTurns ps qs → qs.length ≤ 10 → Qd H') :
    ∃ W : Nat → Nat → Hp → Prop, (∃ m, W 0 m (upd H1 D (.lst []))) ∧ ∀ j m H, W j m H →
      ((Itl K a).stop j H ∧ Qd H) ∨ ((Itl K a).go j H ∧ ∃ Nx : Hp → Prop, (∀ H', Nx H' → ∃ m', m' < m ∧ W (j + 1) m' H') ∧ ∀ x H', (Itl K a).yld j H x H' → gName i x (wipe σ vs) H' fun σ2 H2 => wipe σ2 vs = wipe σ vs ∧ tYes σ2 H2 fun b H3 =>
        if b = true then te σ2 H3 fun y H4 => ∃ acc, H4 D = some (.lst acc) ∧ acc.length < sizeLine ∧ Nx (upd H4 D (.lst (acc ++ [y]))) else Nx H3) := by
  have pD : p ≠ D := hP.ne free
  have cD : c ≠ D := hP.neC free
  have hl := hps.length
  refine lc_it walk_list (fun j H' => But p H1 H' ∧ PenAt H' p c (n + j) ∧ ∃ zs qs, H' D = some (.lst zs) ∧ PairsAt H' qs zs ∧ Paired (fun e e' => e' = e ∨ e' = (e.2, e.1)) (ps.take j) qs ∧ zs.length = j)
    ⟨But.wr (But.refl H1) free .mk', (hP.mono (by omega)).els .mk' pD cD, [], [], upd_same, .nil, by simp; exact .nil, rfl⟩ (fun j H' _ q => SqL.of (q.1 _ _ hap hA)) ?_ ?_
  · rintro j x H2 H3 hj ⟨hB, hPj, zs, qs, hD, hqs, hpr, hzl⟩ ⟨rfl, hx⟩
    obtain ⟨e, he0, q, rfl, hq⟩ := Paired.at hps hx
    have qp : q ≠ p := hP.neT hq
    refine ⟨hw _, ?_⟩
    unfold tYes
    refine iteT (he j q e _ _ hj hPj (hB _ _ qp hq) fun H4 r e' d4 e'eq hr => ?_)
    have hD4 : H4 D = some (.lst zs) := d4.but _ _ pD.symm hD
    have hqs4 : PairsAt H4 qs zs := hqs.pen hPj d4.but
    have w5 : Wr H4 D (.lst (zs ++ [.ref r])) (upd H4 D (.lst (zs ++ [.ref r]))) := .mk'
    have rD : r ≠ D := ne_of hr hD4 (by intro z; cases z)
    refine ⟨zs, hD4, Nat.lt_of_le_of_lt (show zs.length ≤ 10 by omega) (by decide), But.wr (hB.trans d4.but) free w5, d4.pen.els w5 pD cD, _, qs ++ [e'], upd_same, Paired.snoc (hqs4.extL (ExtL.wr hD4 w5)) ⟨r, rfl, (w5.els r rD).trans hr⟩, ?_, by simp [hzl]⟩
    have nx : ps.take (j + 1) = ps.take j ++ [e] := by
      rw [List.take_add_one, he0]
      rfl
    rw [nx]
    exact Paired.snoc hpr e'eq
  · rintro H' ⟨hB, hPn, zs, qs, hD, hqs, hpr, hzl⟩
    rw [← hl, List.take_length] at hpr
    exact hd H' zs qs ⟨hB, hPn.mono (by omega)⟩ hD hqs (same_flip hpr) (by have := hpr.length; omega)
theorem paired_perm {α β : Type} {R : α → β → Prop} {r r' : List β} (p : r'.Perm r) : ∀ {l : List α}, Paired R l r → ∃ l', Paired R l' r' ∧ l'.Perm l := by
  induction p with
  | nil =>
    intro l h
    cases h
    exact ⟨[], .nil, .nil⟩
  | cons x _ ih =>
    intro l h
    cases h with
    | cons a t =>
      obtain ⟨l', h1, h2⟩ := ih t
      exact ⟨_ :: l', .cons a h1, h2.cons _⟩
  | swap x y l0 =>
    intro l h
    cases h with
    | cons a t =>
      cases t with
      | cons b t =>
        exact ⟨_, .cons b (.cons a t), .swap _ _ _⟩
  | trans _ _ ih1 ih2 =>
    intro l h
    obtain ⟨l1, h1, h2⟩ := ih2 h
    obtain ⟨l2, h3, h4⟩ := ih1 h1
    exact ⟨l2, h3, h4.trans h2⟩
end My
end
section
set_option Elab.async false
set_option linter.all false
set_option maxRecDepth 100000
set_option maxHeartbeats 4000000
/-! Qgood: drawn fonts. -/
namespace My
open PySem PySem.Spec PyProof.Rows L2
theorem good_mono {m n : Nat} {S : Str} {ps : List (Nat × Nat)} (h : m ≤ n) (g : Good m S ps) : Good n S ps := ⟨g.lo, Nat.le_trans g.hi h, g.nd, g.ab, g.tnd, g.tin⟩
theorem nodup_len {l m : List Nat} (nd : l.Nodup) (s : ∀ x ∈ l, x ∈ m) : l.length ≤ m.length := by
  induction l generalizing m with
  | nil => exact Nat.zero_le _
  | cons a l ih =>
    have ha := s a List.mem_cons_self
    obtain ⟨n1, n2⟩ := List.nodup_cons.mp nd
    have := ih (m := m.erase a) n2 fun x hx => (List.mem_erase_of_ne (fun z => n1 (by rw [← z]; exact hx))).mpr (s x (List.mem_cons_of_mem _ hx))
    rw [List.length_erase_of_mem ha] at this
    have pos : 0 < m.length := List.length_pos_of_mem ha
    rw [List.length_cons]
    omega
theorem pairs_len {S : Str} {ps : List (Nat × Nat)} (hG : Good 10 S ps) : ps.length ≤ 10 := by
  have h1 : ps.length ≤ (ps.flatMap spread).length := by
    clear hG
    induction ps with
    | nil => exact Nat.le_refl _
    | cons e l ih =>
      rw [List.flatMap_cons, List.length_append, List.length_cons]
      have : 1 ≤ (spread e).length := by unfold spread; split <;> simp
      omega
  have h2 : (ps.flatMap spread).length ≤ S.cps.toList.length := nodup_len hG.tnd fun c hc => hG.tin c hc
  have h3 : S.cps.toList.length = S.length := Array.length_toList
  have := hG.hi
  omega
theorem turns_ab {S : Str} {ps qs : List (Nat × Nat)} (hG : Good 10 S ps) (sm : SameTurns ps qs) : ∀ e ∈ qs, e.1 ∈ alphabet.cps.toList ∧ e.2 ∈ alphabet.cps.toList := fun e he =>
  ⟨hG.ab _ (hG.tin _ (sm.perm.mem_iff.mp (List.mem_flatMap.mpr ⟨e, he, mem_spread.mpr (.inl rfl)⟩))), hG.ab _ (hG.tin _ (sm.perm.mem_iff.mp (List.mem_flatMap.mpr ⟨e, he, mem_spread.mpr (.inr rfl)⟩)))⟩
end My
end
section
set_option Elab.async false
set_option linter.all false
set_option maxRecDepth 100000
set_option maxHeartbeats 4000000
namespace My
open PySem PySem.Spec PyProof.Rows L2
abbrev s_isKind : Stmt := topS 26
/-- whether a side is a sign or blank -/
def sideB (S : Str) (c : Nat) : Bool := decide (c = 45) || decide (c ∈ S.cps.toList)
/-- whether data is a kind of plates -/
def kindD (S : Str) : PyData → Bool
  | .str z => decide (z.length = 2) && !decide (z = (⟨#[45, 45]⟩ : Str)) && z.cps.toList.all (sideB S)
  | _ => false
def sp_isKind (K : PySem.W.Frag) : Sp := fun vs H Q _ => ∃ (S : Str) (v : V) (d : PyData) (p : Addr), vs = [.str S, v] ∧ Rp K p H false v d ∧ textFits 4000 d ∧ ∀ H', Same H H' → Q (.bl (kindD S d)) H'
section
variable {P : Program} {w : World} {K : PySem.W.Frag} {mg : Str → Option Value} {base : Heap}
theorem sc_isKind : FnScope ["signs", "value", "side"] ["signs", "value"] (defScope s_isKind) := ⟨rfl, rfl, rfl, by decide +kernel, rfl, by decide +kernel, by decide +kernel⟩
theorem ok_isKind {f : Addr} {fd : FuncData} {tB : Tok} (F : Fun K "is_kind" "is_kind" s_isKind f fd) (T : TB mg) (gB : mg "BLANK" = some (.str "-" tB)) : FnOk P w K mg base CX0 1 f fd ["signs", "value"] (sp_isKind K) := by
  refine F.ok sc_isKind (fun vs H Q E h => ?_) (fun cdv A outer s H vs Q E hr h => ?_)
  · obtain ⟨S, v, d, p, rfl, _⟩ := h
    rfl
  · obtain ⟨S, v, d, p, rfl, hd, hz, k⟩ := h
    refine ⟨_, pss_cons (ps_if (PW.pt (pw_or (pt_not (pt_val (pe_callB (id := "isinstance") call_isi (by rfl) T.isi (by decide +kernel) (pa_cons (pv 1) (pa_cons (pe_bltn (v := .ty "str") (by rfl) T.str (by decide +kernel) rfl) pa_nil)))))
        (pw_or (pt_cmpR op_ne (pe_callB call_len_str (by rfl) T.len PySem.boot_len (pa_cons (pv 1) pa_nil)) pe_int (nomark _)) (pw_or1 (pt_cmpR op_eq (pv 1) (pe_op op_add_str (pe_glob (v := .str "-") rfl gB ⟨_, rfl⟩) (pe_glob (v := .str "-") rfl gB ⟨_, rfl⟩)) (nomark _))))))
      (pss_one (ps_ret pe_bl)) pss_nil)
      (pss_one (ps_ret (pe_callB (cr_all rfl) (by rfl) T.all (by decide +kernel) (pa_cons (by exact (pe_lc (own := [("side", 2)]) (g := gName 2) (tt := tYes) rfl sc_isKind.nd (pi_str (pv 1)) (blkOk_by (own := [("side", 2)]) (N := ["signs", "value", "side"]) (sc := defScope s_isKind) (by decide +kernel))
        (fun _ _ _ _ _ => pg_name (i := 2) sc_isKind.nd rfl (Or.inl rfl)) (fun _ _ _ _ _ => pts_nil) (fun _ _ _ _ _ => pe_or (pe_cmpR op_eq (pv 2) (pe_glob (v := .str "-") rfl gB ⟨_, rfl⟩) (nomark _)) (pe_one (pe_cmpR op_in_sign (pv 2) (pv 0) (by rfl)))))) pa_nil)))), ?_⟩
    refine ⟨_, rfl, _, _, _, _, _, rfl, .ty "str", hd.ty, kit_str d, _, rfl, ?_⟩
    cases d with
    | str z =>
      cases hd
      have hz : z.length ≤ 4000 := hz
      have zl : z.cps.toList.length = z.length := Array.length_toList
      refine iteF ⟨_, rfl, z, rfl, Nat.le_trans hz (by decide), rfl, _, rfl, ?_⟩
      refine ite2 (fun h1 => iteT ?_) (fun h1 => ?_)
      · have h2 : z.length ≠ 2 := fun e => by rw [e] at h1; simp at h1
        have e : kindD S (.str z) = false := by
          show (decide (z.length = 2) && !decide (z = (⟨#[45, 45]⟩ : Str)) && z.cps.toList.all (sideB S)) = false
          rw [decide_eq_false h2, Bool.false_and, Bool.false_and]
        rw [e] at k
        exact k H (Same.refl H)
      have h2 : z.length = 2 := by
        by_cases e : z.length = 2
        · exact e
        · refine absurd ?_ h1
          rw [decide_eq_false (fun q => e (by injection q with q; omega))]
          rfl
      refine ⟨_, rfl, _, _, rfl, rfl, by decide, rfl, _, rfl, ?_⟩
      have dash : (PySem.Str.ofString "-" ++ PySem.Str.ofString "-") = (⟨#[45, 45]⟩ : Str) := by decide
      rw [dash]
      refine ite2 (fun h3 => ?_) (fun h3 => ?_)
      · have h3 : z = (⟨#[45, 45]⟩ : Str) := by
          have := of_decide_eq_true h3
          injection this
        have e : kindD S (.str z) = false := by
          show (decide (z.length = 2) && !decide (z = (⟨#[45, 45]⟩ : Str)) && z.cps.toList.all (sideB S)) = false
          rw [decide_eq_true h3, Bool.not_true, Bool.and_false, Bool.false_and]
        rw [e] at k
        exact k H (Same.refl H)
      have h3 : z ≠ (⟨#[45, 45]⟩ : Str) := fun e => h3 (by rw [e]; exact decide_eq_true rfl)
      have eK : kindD S (.str z) = z.cps.toList.all (sideB S) := by
        show (decide (z.length = 2) && !decide (z = (⟨#[45, 45]⟩ : Str)) && z.cps.toList.all (sideB S)) = _
        rw [decide_eq_true h2, decide_eq_false h3]
        rfl
      refine ⟨_, rfl, z, rfl, fun D hD => lc_ff walk_signs (fun _ => true) (fun x => match x with | .str y => .bl (y.cps.toList.all (sideB S)) | _ => .non) hD (fun _ _ => trivial) (by rw [signs_len]; exact Nat.lt_of_le_of_lt hz (by decide)) (fun x => rfl) (fun x H' C _ _ h => h _ (Same.refl _)) ?_ ?_⟩
      · intro x H' C hx _ _ hC
        obtain ⟨c, _, rfl⟩ := mem_signs hx
        have hC := hC H' (Same.refl _)
        have eS : (match V.str ⟨#[c]⟩ with | .str y => V.bl (y.cps.toList.all (sideB S)) | _ => .non) = .bl (sideB S c) := by
          show V.bl ([c].all (sideB S)) = _
          simp
        rw [eS] at hC
        refine ⟨_, rfl, rfl, _, rfl, ?_⟩
        have d45 : (V.str ⟨#[c]⟩ = V.str (PySem.Str.ofString "-")) ↔ c = 45 := by
          have : PySem.Str.ofString "-" = (⟨#[45]⟩ : Str) := by decide
          rw [this]
          exact ⟨fun z => sign_inj.mp (by injection z), fun z => by rw [z]⟩
        refine ite2 (fun h4 => ?_) (fun h4 => ?_)
        · have h4 := d45.mp (of_decide_eq_true h4)
          have e : sideB S c = true := by
            unfold sideB
            rw [decide_eq_true h4]
            rfl
          rw [e] at hC
          exact hC
        · have h4 : c ≠ 45 := fun z => h4 (decide_eq_true (d45.mpr z))
          have e : sideB S c = decide (c ∈ S.cps.toList) := by
            unfold sideB
            rw [decide_eq_false h4]
            rfl
          rw [e] at hC
          exact ⟨_, rfl, _, rfl, c, S, rfl, rfl, hC⟩
      · intro H' sm hl
        refine ⟨D, z.cps.toList.map (sideB S), rfl, SqL.of ?_, ?_⟩
        · rw [hl, pv_filter_true]
          simp [signs]
        · have e : kindD S (.str z) = (z.cps.toList.map (sideB S)).all id := by
            rw [eK, List.all_map]
            rfl
          rw [← e]
          exact k H' sm
    | _ => exact iteT (iteT (k H (Same.refl H)))
end
end My
end
section
set_option Elab.async false
set_option linter.all false
set_option maxRecDepth 100000
set_option maxHeartbeats 4000000
/-! B11: errors over a value. -/
namespace My
open PySem PySem.Spec PyProof.Rows L2
abbrev VErr (K : PySem.W.Frag) (mg : Str → Option Value) (x qi : Str) (U fI : Addr) : Prop := ErrC K mg x "value" qi "ValueError" "ValueError.__new__" "ValueError.__init__" bmValue bmValue U fI
/-- what is told of an error over a value -/
def Err (E : XK) (U : Addr) (v : V) (H : Hp) : Prop := ∀ H' dd, Same H H' → H dd = none → H' dd = some (.xd [("value", v)]) → E (.ref U) (some dd) H'
theorem Err.at {E : XK} {U : Addr} {v : V} {H H1 : Hp} {dd : Addr} (h : Err E U v H) (s : Same H H1) (f : H1 dd = none) : E (.ref U) (some dd) (upd H1 dd (.xd [("value", v)])) := by
  have n : New H1 dd (.xd [("value", v)]) (upd H1 dd (.xd [("value", v)])) := .mk' f
  refine h _ dd (s.trans n.same) ?_ n.here
  cases e : H dd with
  | none => rfl
  | some o => have := s _ _ e; rw [f] at this; cases this
theorem Same.free {H H1 : Hp} {a : Addr} (s : Same H H1) (f : H1 a = none) : H a = none := by
  cases e : H a with
  | none => rfl
  | some o => have := s _ _ e; rw [f] at this; cases this
theorem Err.up {E : XK} {U : Addr} {v : V} {H H1 : Hp} (h : Err E U v H) (s : Same H H1) : Err E U v H1 := fun H' dd s2 f e => h H' dd (L2.Same.trans s s2) (My.Same.free s f) e
theorem passN {P : Program} {w : World} {X : Cx} : Passes (L2.CX P w) X E0 := fun _ _ _ _ _ _ _ h => by
  obtain ⟨_, _, _, _, _, _, _, _, _, _, _, _, hE⟩ := h
  exact hE.elim
/-- a wish is asked only at slots of the def's own number -/
theorem takes_len {X : Cx} {W : WX} (t : Takes X W) : Takes X (fun c d σ H => σ.length = X.N.length → W c d σ H) := fun u s' ⟨a, B, sI, pins, σ, H, cls, d, e, I, nb, up, sky, na, os, ag, w⟩ =>
  t u s' ⟨a, B, sI, pins, σ, H, cls, d, e, I, nb, up, sky, na, os, ag, w I.len⟩
theorem set_at1 {σ : L2.St} {x : Option V} (h : σ.length = 2) : (σ.set 1 x)[1]? = some x := by
  rw [List.getElem?_set_self (by omega)]
theorem cx_up {P : Program} {w : World} {K : PySem.W.Frag} {mg : Str → Option Value} {base : Heap} {k : Nat} {f : Addr} {fd : FuncData} {ps : List Str} {sp : Sp} (F : FnOk P w K mg base CX0 k f fd ps sp) : FnOk P w K mg base (L2.CX P w) k f fd ps sp := by
  refine ⟨F.len, fun A o s H args us vs Q E hr e b v q => codeAny_mono (F.run A o s H args us vs Q E hr e b v q) fun r s' hq => ?_⟩
  cases r with
  | error er => exact False.elim hq
  | ok fl => cases fl <;> exact hq
end My
end
section
set_option Elab.async false
set_option linter.all false
set_option maxRecDepth 100000
set_option maxHeartbeats 2000000
namespace My
open PySem PySem.Spec PyProof.Rows L2
abbrev s_isSign : Stmt := topS 24
abbrev s_isSet : Stmt := topS 25
section
variable {P : Program} {w : World} {K : PySem.W.Frag} {mg : Str → Option Value} {base : Heap}
theorem sc_isSign : FnScope ["signs", "value"] ["signs", "value"] (defScope s_isSign) := ⟨rfl, rfl, rfl, by decide +kernel, rfl, by decide +kernel, by decide +kernel⟩
theorem ok_isSign {f : Addr} {fd : FuncData} (F : Fun K "is_sign" "is_sign" s_isSign f fd) (T : TB mg) : FnOk P w K mg base CX0 1 f fd ["signs", "value"] (sp_isSign K) := by
  refine F.ok sc_isSign (fun vs H Q E h => ?_) (fun cdv A outer s H vs Q E hr h => ?_)
  · obtain ⟨S, v, d, p, rfl, _⟩ := h
    rfl
  · obtain ⟨S, v, d, p, rfl, hd, hz, k⟩ := h
    refine ⟨_, pss_one (ps_ret (pe_and (pe_callB call_isi (by rfl) T.isi (by decide +kernel) (pa_cons (pv 1) (pa_cons (pe_bltn (v := .ty "str") (by rfl) T.str (by decide +kernel) rfl) pa_nil)))
      (pe_and (pe_cmpR op_eq (pe_callB call_len (by rfl) T.len PySem.boot_len (pa_cons (pv 1) pa_nil)) pe_int (nomark _)) (pe_one (pe_cmpR op_in_sign (pv 1) (pv 0) (by rfl)))))), ?_⟩
    refine ⟨_, rfl, _, _, _, _, _, rfl, .ty "str", hd.ty, kit_str d, _, rfl, ?_⟩
    cases d with
    | str z =>
      cases hd
      refine iteT ⟨_, rfl, _, z.length, rfl, ⟨hz, rfl⟩, rfl, _, rfl, ?_⟩
      refine ite2 (fun h1 => ?_) (fun h1 => ?_)
      · have h1 : z.length = 1 := by
          have := of_decide_eq_true h1
          injection this with e
          omega
        obtain ⟨c, rfl⟩ := one_sign h1
        refine ⟨_, rfl, _, rfl, c, S, rfl, rfl, ?_⟩
        have e : signD S (.str ⟨#[c]⟩) = decide (c ∈ S.cps.toList) := by
          rw [signD_str, h1]
          simp
        rw [e] at k
        exact k
      · have h2 : z.length ≠ 1 := fun e => h1 (by rw [e]; rfl)
        have e : signD S (.str z) = false := by
          rw [signD_str, decide_eq_false h2, Bool.false_and]
        rw [e] at k
        exact k
    | _ => exact iteF k
theorem sc_isSet : FnScope ["signs", "value", "sign"] ["signs", "value"] (defScope s_isSet) := ⟨rfl, rfl, rfl, by decide +kernel, rfl, by decide +kernel, by decide +kernel⟩
theorem ok_isSet {f : Addr} {fd : FuncData} (F : Fun K "is_set" "is_set" s_isSet f fd) (T : TB mg) : FnOk P w K mg base CX0 1 f fd ["signs", "value"] (sp_isSet K) := by
  refine F.ok sc_isSet (fun vs H Q E h => ?_) (fun cdv A outer s H vs Q E hr h => ?_)
  · obtain ⟨S, v, d, p, rfl, _⟩ := h
    rfl
  · obtain ⟨S, v, d, p, rfl, hd, hz, k⟩ := h
    refine ⟨_, pss_one (ps_ret (pe_and (pe_callB call_isi (by rfl) T.isi (by decide +kernel) (pa_cons (pv 1) (pa_cons (pe_bltn (v := .ty "str") (by rfl) T.str (by decide +kernel) rfl) pa_nil)))
      (pe_and (pe_cmpR op_eq (pe_lenSet (by rfl) T.len (by rfl) T.set (pv 1)) (pe_callB call_len (by rfl) T.len PySem.boot_len (pa_cons (pv 1) pa_nil)) (nomark _))
      (pe_one (pe_callB (cr_all rfl) (by rfl) T.all (by decide +kernel) (pa_cons (pe_lc (own := [("sign", 2)]) (g := gName 2) (tt := tYes) rfl sc_isSet.nd (pi_str (pv 1)) (blkOk_by (own := [("sign", 2)]) (N := ["signs", "value", "sign"]) (sc := defScope s_isSet) (by decide +kernel))
        (fun _ _ _ _ _ => pg_name (i := 2) sc_isSet.nd rfl (Or.inl rfl)) (fun _ _ _ _ _ => pts_nil) (fun _ _ _ _ _ => pe_cmpR op_in_sign (pv 2) (pv 0) (by rfl))) pa_nil)))))), ?_⟩
    refine ⟨_, rfl, _, _, _, _, _, rfl, .ty "str", hd.ty, kit_str d, _, rfl, ?_⟩
    cases d with
    | str z =>
      cases hd
      have hz : z.length ≤ 4000 := hz
      refine iteT ⟨_, rfl, z, rfl, hz, _, rfl, _, z.length, rfl, ⟨Nat.le_trans hz (by decide), rfl⟩, rfl, _, rfl, ?_⟩
      have ol := once_eq z.cps.toList
      have zl : z.cps.toList.length = z.length := Array.length_toList
      rw [zl] at ol
      refine ite2 (fun h1 => ?_) (fun h1 => ?_)
      · have h1 : z.cps.toList.Nodup := by
          have := of_decide_eq_true h1
          injection this with e
          exact ol.mp (by omega)
        refine ⟨_, rfl, z, rfl, fun D hD => lc_ff walk_signs (fun _ => true) (fun x => match x with | .str y => .bl (y.cps.toList.all fun c => decide (c ∈ S.cps.toList)) | _ => .non) hD (fun _ _ => trivial) (by rw [signs_len]; exact Nat.lt_of_le_of_lt hz (by decide)) (fun x => rfl) (fun x H' C _ _ h => h _ (Same.refl _)) ?_ ?_⟩
        · intro x H' C hx _ _ hC
          obtain ⟨c, _, rfl⟩ := mem_signs hx
          refine ⟨_, rfl, _, rfl, c, S, rfl, rfl, ?_⟩
          have := hC H' (Same.refl _)
          simpa using this
        · intro H' sm hl
          refine ⟨D, z.cps.toList.map fun c => decide (c ∈ S.cps.toList), rfl, SqL.of ?_, ?_⟩
          · rw [hl, pv_filter_true]
            simp [signs]
          · have e : setD S (.str z) = (z.cps.toList.map fun c => decide (c ∈ S.cps.toList)).all id := by
              rw [setD_str, decide_eq_true h1, Bool.true_and, List.all_map]
              rfl
            rw [← e]
            exact k H' sm
      · have h2 : ¬ z.cps.toList.Nodup := fun n => h1 (by rw [ol.mpr n]; simp)
        have e : setD S (.str z) = false := by
          rw [setD_str, decide_eq_false h2, Bool.false_and]
        rw [e] at k
        exact k H (Same.refl H)
    | _ => exact iteF (k H (Same.refl H))
abbrev s_isFont : Stmt := topS 23
theorem sc_isFont : FnScope ["value"] ["value"] (defScope s_isFont) := ⟨rfl, rfl, rfl, by decide +kernel, rfl, by decide +kernel, by decide +kernel⟩
theorem ok_isFont {f fS C : Addr} {fd fdS : FuncData} (F : Fun K "is_font_signs" "is_font_signs" s_isFont f fd) (T : TB mg) (D : Def K mg "is_set" fS fdS ["signs", "value"]) (G : FnOk P w K mg base CX0 1 fS fdS ["signs", "value"] (sp_isSet K))
    (gF : mg "Font" = some (.ref C)) (cM : ClassV K C "MAX_SIGNS" (.int 10)) {tA : Tok} (gA : mg "ALPHABET" = some (.str alphabet tA)) : FnOk P w K mg base CX0 2 f fd ["value"] (sp_isFont K) := by
  refine F.ok sc_isFont (fun vs H Q E h => ?_) (fun cdv A outer s H vs Q E hr h => ?_)
  · obtain ⟨v, d, p, rfl, _⟩ := h
    rfl
  · obtain ⟨v, d, p, rfl, hd, hz, k⟩ := h
    obtain ⟨mc, u, c1, c2⟩ := cM.ok
    refine ⟨_, pss_one (ps_ret (pe_and (pe_callB call_isi (by rfl) T.isi (by decide +kernel) (pa_cons (pv 0) (pa_cons (pe_bltn (v := .ty "str") (by rfl) T.str (by decide +kernel) rfl) pa_nil)))
      (pe_and (pe_chain op_le op_le pe_int (pe_callB call_len (by rfl) T.len PySem.boot_len (pa_cons (pv 0) pa_nil)) (ClX.pe_cval (pe_glob (v := .ref C) rfl gF rfl)))
      (pe_one (pe_call G hr rfl D.mgf D.kp D.bd .nil pass0 (pa_cons (pe_glob (v := .str alphabet) rfl gA ⟨_, rfl⟩) (pa_cons (pv 0) pa_nil))))))), ?_⟩
    refine ⟨_, rfl, _, _, _, _, _, rfl, .ty "str", hd.ty, kit_str d, _, rfl, ?_⟩
    cases d with
    | str z =>
      cases hd
      have hz : z.length ≤ 4000 := hz
      refine iteT ⟨_, rfl, _, z.length, rfl, ⟨Nat.le_trans hz (by decide), rfl⟩, _, _, rfl, rfl, _, rfl, ?_⟩
      refine ite2 (fun h1 => ?_) (fun h1 => ?_)
      · refine ⟨C, mc, _, u, rfl, c1, c2, _, _, rfl, rfl, _, rfl, ?_⟩
        refine ite2 (fun h2 => ?_) (fun h2 => ?_)
        · refine ⟨_, rfl, alphabet, _, _, p, rfl, Rp.str _ z, hz, fun H' sm => ?_⟩
          have e : fontD (.str z) = setD alphabet (.str z) := by
            rw [fontD_str, decide_eq_true (p := 2 ≤ z.length ∧ z.length ≤ 10) ⟨by have := of_decide_eq_true h1; omega, by have := of_decide_eq_true h2; omega⟩, Bool.true_and]
          rw [e] at k
          exact k H' sm
        · have e : fontD (.str z) = false := by
            rw [fontD_str, decide_eq_false (p := 2 ≤ z.length ∧ z.length ≤ 10) (fun q => h2 (decide_eq_true (by omega))), Bool.false_and]
          rw [e] at k
          exact k H (Same.refl H)
      · have e : fontD (.str z) = false := by
          rw [fontD_str, decide_eq_false (p := 2 ≤ z.length ∧ z.length ≤ 10) (fun q => h1 (decide_eq_true (by omega))), Bool.false_and]
        rw [e] at k
        exact ⟨_, rfl, iteF (k H (Same.refl H))⟩
    | _ => exact iteF (k H (Same.refl H))
abbrev s_isListed : Stmt := topS 5
theorem sc_isListed : FnScope ["value"] ["value"] (defScope s_isListed) := ⟨rfl, rfl, rfl, by decide +kernel, rfl, by decide +kernel, by decide +kernel⟩
theorem ok_isListed {f : Addr} {fd : FuncData} (F : Fun K "is_listed" "is_listed" s_isListed f fd) (T : TB mg) : FnOk P w K mg base CX0 1 f fd ["value"] (sp_isListed K) := by
  refine F.ok sc_isListed (fun vs H Q E h => ?_) (fun cdv A outer s H vs Q E hr h => ?_)
  · obtain ⟨v, d, p, rfl, _⟩ := h
    rfl
  · obtain ⟨v, d, p, rfl, hd, k⟩ := h
    refine ⟨_, pss_one (ps_ret (pe_callB call_isiT (by rfl) T.isi (by decide +kernel) (pa_cons (pv 0) (pa_cons (pe_tup' (pa_cons (pe_bltn (v := .ty "list") (by rfl) T.list (by decide +kernel) rfl) (pa_cons (pe_bltn (v := .ty "tuple") (by rfl) T.tuple (by decide +kernel) rfl) pa_nil))) pa_nil)))), ?_⟩
    refine ⟨_, rfl, by decide, fun q H1 n1 => ⟨_, q, _, _, _, _, rfl, n1.here, .cons (.ty "list") (.cons (.ty "tuple") .nil), (hd.but (.of n1.same) : Rp K p H1 false v d).ty, kit_seq d, k H1 n1.same⟩⟩
abbrev s_isPair : Stmt := topS 28
theorem sc_isPair : FnScope ["signs", "value", "sign"] ["signs", "value"] (defScope s_isPair) := ⟨rfl, rfl, rfl, by decide +kernel, rfl, by decide +kernel, by decide +kernel⟩
theorem ok_isPair {f fS : Addr} {fd fdS : FuncData} (F : Fun K "_is_pair" "_is_pair" s_isPair f fd) (T : TB mg) (D : Def K mg "is_sign" fS fdS ["signs", "value"]) (G : FnOk P w K mg base CX0 1 fS fdS ["signs", "value"] (sp_isSign K)) : FnOk P w K mg base CX0 2 f fd ["signs", "value"] (sp_isPair K) := by
  refine F.ok sc_isPair (fun vs H Q E h => ?_) (fun cdv A outer s H vs Q E hr h => ?_)
  · obtain ⟨S, v, d, p, rfl, _⟩ := h
    rfl
  · obtain ⟨S, v, d, p, rfl, hd, hf, k⟩ := h
    refine ⟨_, pss_one (ps_ret (pe_and (pe_callB call_isi (by rfl) T.isi (by decide +kernel) (pa_cons (pv 1) (pa_cons (pe_bltn (v := .ty "tuple") (by rfl) T.tuple (by decide +kernel) rfl) pa_nil)))
      (pe_and (pe_cmpR op_eq (pe_callB call_len_seq (by rfl) T.len PySem.boot_len (pa_cons (pv 1) pa_nil)) pe_int (nomark _))
      (pe_one (pe_callB (cr_all rfl) (by rfl) T.all (by decide +kernel) (pa_cons (pe_lc (own := [("sign", 2)]) (g := gName 2) (tt := tYes) rfl sc_isPair.nd (pi_tup (pv 1)) (blkOk_by (own := [("sign", 2)]) (N := ["signs", "value", "sign"]) (sc := defScope s_isPair) (by decide +kernel))
        (fun _ _ _ _ _ => pg_name (i := 2) sc_isPair.nd rfl (Or.inl rfl)) (fun _ _ _ _ _ => pts_nil) (fun _ _ _ _ _ => pe_call G hr rfl D.mgf D.kp D.bd .nil pass0 (pa_cons (pv 0) (pa_cons (pv 2) pa_nil)))) pa_nil)))))), ?_⟩
    refine ⟨_, rfl, _, _, _, _, _, rfl, .ty "tuple", hd.ty, kit_tup d, _, rfl, ?_⟩
    cases d with
    | tuple ds =>
      obtain ⟨a, xs, st2, rfl, ha, hr2⟩ := hd.tupS
      · simp only [fit, Bool.and_eq_true, decide_eq_true_eq] at hf
        have hlen := hr2.len
        refine iteT ⟨_, rfl, a, xs, rfl, .inr (ha), rfl, _, rfl, ?_⟩
        refine ite2 (fun h1 => ?_) (fun h1 => ?_)
        · have h2 : xs.length = 2 := by
            have := of_decide_eq_true h1
            injection this with e
            omega
          refine ⟨_, rfl, a, rfl, ⟨_, ha⟩, fun D hD => lc_pair walk_tup ds hlen.symm (fun _ => true) (fun d y _ => y = .bl (signD S d)) (fun _ _ _ _ _ _ h => h) hD (fun H' sm => sm.tupl (ha)) (by rw [h2]; decide) (fun x => rfl) (fun _ _ _ H' C _ _ _ h => h H' (Same.refl _)) ?_ ?_⟩
          · intro j x d' H' C hx hd' _ sm hC
            exact ⟨_, rfl, _, rfl, S, x, d', p, rfl, (hr2.at hx hd').loose2.but (.of sm), (fit.text (fitAll.at hf.2 hd')).more (by decide), hC H' _ (Same.refl _) rfl⟩
          · intro H' ys sm hD' hP
            refine ⟨D, ds.map (signD S), rfl, SqL.of ?_, ?_⟩
            · rw [pv_filter_true] at hP
              rw [hD', paired_eq hP, List.map_map]
              rfl
            · have e : (pairOf S (.tuple ds)).isSome = (ds.map (signD S)).all id := by
                match ds, (show ds.length = 2 by omega) with
                | [x, y], _ => rw [pairOf_two]; simp
              rw [← e]
              exact k H' sm
        · have h2 : ds.length ≠ 2 := fun e => h1 (by rw [hlen, e]; rfl)
          rw [pairOf_len S h2] at k
          exact k H (Same.refl H)
    | _ => exact iteF (k H (Same.refl H))
end
end My
end
section
set_option Elab.async false
set_option linter.all false
set_option maxRecDepth 100000
set_option maxHeartbeats 4000000
namespace My
open PySem PySem.Spec PyProof.Rows L2
abbrev s_kept : Stmt := topS 27
theorem find_one (z : Str) (c : Nat) (h : c ∈ z.cps.toList) : Txt.find z ⟨#[c]⟩ = ((z.cps.toList.idxOf c : Nat) : Int) := by
  have e := index0_one z c h
  unfold Txt.index0 at e
  unfold Txt.find
  revert e
  generalize Builtin.Str.occurrences z ⟨#[c]⟩ 0 z.length 1 = o
  intro e
  cases o with
  | nil => cases e
  | cons a l => exact congrArg Int.ofNat (Option.some.inj e)
section
variable {P : Program} {w : World} {K : PySem.W.Frag} {mg : Str → Option Value} {base : Heap}
theorem sc_kept : FnScope ["signs", "turns", "heads", "pair", "both", "sign"] ["signs", "turns"] (defScope s_kept) := ⟨rfl, rfl, rfl, by decide +kernel, rfl, by decide +kernel, by decide +kernel⟩
theorem ok_kept {f fL fP : Addr} {fd fdL fdP : FuncData} (F : Fun K "kept_turns" "kept_turns" s_kept f fd) (T : TB mg) (DL : Def K mg "is_listed" fL fdL ["value"]) (GL : FnOk P w K mg base CX0 1 fL fdL ["value"] (sp_isListed K))
    (DP : Def K mg "_is_pair" fP fdP ["signs", "value"]) (GP : FnOk P w K mg base CX0 2 fP fdP ["signs", "value"] (sp_isPair K)) : FnOk P w K mg base CX0 3 f fd ["signs", "turns"] (sp_kept K) := by
  refine F.ok sc_kept (fun vs H Q E h => ?_) (fun cdv A outer s H vs Q E hr h => ?_)
  · obtain ⟨S, v, d, p, rfl, _⟩ := h
    rfl
  · obtain ⟨S, v, d, p, rfl, hd, hf, hS, kN, kS⟩ := h
    have hu := hu_of hr
    have hr1 : Room 1 _ := hr.mono (by decide)
    refine ⟨_, pss_cons (ps_if (pt_not (pt_val (pe_call GL hr1 rfl DL.mgf DL.kp DL.bd .nil pass0 (pa_cons (pv 1) pa_nil)))) (pss_one (ps_ret pe_non)) pss_nil)
      (pss_cons (ps_set (i := 2) sc_kept.nd rfl (Or.inr rfl) pe_dnew')
      (pss_cons (ps_for PassesOwn.never rfl (pi_seq (pv 1)) (pg_name (i := 3) sc_kept.nd rfl (Or.inl rfl))
        (pss_cons (ps_if (PW.pt (pw_or (pt_not (pt_val (pe_call GP hr rfl DP.mgf DP.kp DP.bd .nil pass0 (pa_cons (pv 0) (pa_cons (pv 3) pa_nil)))))
            (pw_or (pt_cmp (pc_din hu (pe_ix ix_tup (pv 3) pe_int (fun _ _ => rfl)) (pv 2))) (pw_or1 (pt_cmp (pc_din hu (pe_ix ix_tup (pv 3) pe_int (fun _ _ => rfl)) (pv 2)))))))
          (pss_one (ps_ret pe_non)) pss_nil)
        (pss_cons (ps_dput hu (pv 2) (pe_ix ix_tup (pv 3) pe_int (fun _ _ => rfl)) (pe_ix ix_tup (pv 3) pe_int (fun _ _ => rfl)) rfl)
        (pss_one (ps_dput hu (pv 2) (pe_ix ix_tup (pv 3) pe_int (fun _ _ => rfl)) (pe_ix ix_tup (pv 3) pe_int (fun _ _ => rfl)) rfl)))))
      (pss_cons (ps_setLc (i := 4) (own := [("sign", 5)]) (g := gName 5) rfl sc_kept.nd rfl rfl (sw_true rfl rfl rfl (by decide +kernel)) (pi_str (pv 0)) (blkOk_by (own := [("sign", 5)]) (N := ["signs", "turns", "heads", "pair", "both", "sign"]) (sc := defScope s_kept) (by decide +kernel))
        (fun _ _ _ _ _ => pg_name (i := 5) sc_kept.nd rfl (Or.inl rfl)) (fun _ _ _ _ _ => pts_one (pt_cmp (pc_din hu (pv 5) (pv 2)))) (fun _ _ _ _ _ => pe_tup' (pa_cons (pv 5) (pa_cons (pe_dget hu (pv 2) (pv 5) (fun _ _ => rfl)) pa_nil))))
      (pss_one (ps_ret (pe_callTy call_tupOfL (by rfl) T.tuple (by decide +kernel) (pa_cons (by exact (pe_lc (own := [("pair", 3)]) (g := gName 3) rfl sc_kept.nd (pi_list (pv 4)) (blkOk_by (own := [("pair", 3)]) (N := ["signs", "turns", "heads", "pair", "both", "sign"]) (sc := defScope s_kept) (by decide +kernel))
        (fun _ _ _ _ _ => pg_name (i := 3) sc_kept.nd rfl (Or.inl rfl))
        (fun _ _ _ _ _ => pts_one (pt_cmpR op_le (pe_m1 PySem.F.slot_str_find PySem.F.type_str_find mt_find (pv 0) (pe_ix (ix_tupK (K := K) (by rfl)) (pv 3) pe_int (fun _ _ => rfl)))
          (pe_m1 PySem.F.slot_str_find PySem.F.type_str_find mt_find (pv 0) (pe_ix (ix_tupK (K := K) (by rfl)) (pv 3) pe_int (fun _ _ => rfl))) (nomark _)))
        (fun _ _ _ _ _ => pv 3))) pa_nil))))))), ?_⟩
    refine ⟨_, rfl, v, d, p, rfl, hd, fun H1 s1 => ⟨_, rfl, ?_⟩⟩
    cases hq : isSeqD d with
    | false =>
      refine iteT (kN ?_ H1 s1)
      cases d <;> first | rfl | exact absurd (show true = false from hq) (by decide)
    | true =>
      obtain ⟨a, xs, ds, st2, rfl, hseq, hall, hds⟩ := rp_seq hd hq
      have hk : keptD S d = (headsFrom S [] ds).map (dueOf S) := by
        rcases hds with rfl | rfl <;> rfl
      have hfa : fitAll ds = true ∧ ds.length ≤ 4000 := by
        rcases hds with rfl | rfl <;> (simp only [fit, Bool.and_eq_true, decide_eq_true_eq] at hf; exact ⟨hf.2, hf.1⟩)
      have hlen := hall.len
      refine iteF (fun hD H2 n2 => ?_)
      have s2 : Same H H2 := s1.trans n2.same
      have fD : H hD = none := by
        cases e : H hD with
        | none => rfl
        | some o => have := s1 _ _ e; rw [n2.free] at this; cases this
      show tFor (iSeq K (tVar 1)) (gName 3) _ _ [some (.str S), some (.ref a), some (.ref hD), none, none, none] H2
      refine tFor_seq (H0 := H) (fun C h => ⟨_, rfl, h⟩) hseq (fun i σ H' => ∃ (h : List (Nat × Nat)) (pr : Option V), σ = [some (.str S), some (.ref a), some (.ref hD), pr, none, none] ∧ Same H H' ∧ H' hD = some (.dK (toK h)) ∧ headsFrom S [] ds = headsFrom S h (ds.drop i) ∧ h.length ≤ 2 * i ∧ ∀ c b, headOf h c = some b → b ∈ S.cps.toList)
        ⟨[], none, rfl, s2, n2.here, rfl, Nat.le_refl _, fun c b e => by cases e⟩ (fun i σ' H' q => by obtain ⟨_, _, _, q, _⟩ := q; exact q) ?_ ?_
      · rintro i x σ H3 hi hx ⟨h, pr, rfl, s3, hH, hfr, hl, hin⟩
        obtain ⟨d', hd'⟩ : ∃ d', ds[i]? = some d' := ⟨ds[i]'(by omega), by simp [show i < ds.length by omega]⟩
        have hdrop : ds.drop i = d' :: ds.drop (i + 1) := by
          have := List.getElem?_eq_some_iff.mp hd'
          obtain ⟨hil, e⟩ := this
          rw [← e, List.getElem_cons_drop]
        rw [hdrop, headsFrom_cons] at hfr
        have hrp := ((hall.but2 s3).at hx hd').loose2
        refine ⟨_, rfl, _, rfl, S, x, d', p, rfl, hrp, fitAll.at hfa.1 hd', fun H4 s4 => ⟨_, rfl, ?_⟩⟩
        cases hp : pairOf S d' with
        | none =>
          rw [hp] at hfr
          refine iteT (iteT (kN (by rw [hk, hfr]; rfl) H4 (s3.trans s4)))
        | some ab =>
          obtain ⟨x1, x2⟩ := ab
          rw [hp] at hfr
          have hfr : headsFrom S [] ds = if ((headOf h x1).isSome || (headOf h x2).isSome) = true then none else headsFrom S (putN (putN h x1 x2) x2 x1) (ds.drop (i + 1)) := hfr
          obtain ⟨rfl, m1, m2⟩ := pairOf_some hp
          obtain ⟨q, rfl, hq4, _⟩ := rp_pair (hrp.but (.of s4))
          have hH4 := s4 _ _ hH
          refine iteF ⟨_, rfl, q, _, _, _, rfl, rfl, SqT.of hq4, at0 _ _, _, rfl, hD, _, rfl, dget_toK x1 hH4, _, rfl, ?_⟩
          cases e1 : headOf h x1 with
          | some y =>
            rw [e1] at hfr
            exact iteT (iteT (kN (by rw [hk, hfr]; rfl) H4 (s3.trans s4)))
          | none =>
            refine iteF ⟨_, rfl, q, _, _, _, rfl, rfl, SqT.of hq4, at1 _ _, _, rfl, hD, _, rfl, dget_toK x2 hH4, _, rfl, ?_⟩
            cases e2 : headOf h x2 with
            | some y =>
              rw [e1, e2] at hfr
              exact iteT (kN (by rw [hk, hfr]; rfl) H4 (s3.trans s4))
            | none =>
              rw [e1, e2] at hfr
              have l1 := putN_length h x1 x2
              have l2 := putN_length (putN h x1 x2) x2 x1
              refine iteF ⟨_, rfl, q, _, _, _, rfl, rfl, SqT.of hq4, at1 _ _, _, rfl, _, rfl, q, _, _, _, rfl, rfl, SqT.of hq4, at0 _ _, hD, _, rfl, dput_toK x1 x2 hH4 (Nat.lt_of_le_of_lt (show h.length ≤ 8000 by omega) (by decide)), ?_⟩
              have w5 : Wr H4 hD (.dK (toK (putN h x1 x2))) (upd H4 hD (.dK (toK (putN h x1 x2)))) := .mk'
              generalize upd H4 hD (HO.dK (toK (putN h x1 x2))) = H5 at w5 ⊢
              have hq5 : H5 q = some (.tup [sg x1, sg x2]) := w5.but q _ (ne_of hq4 hH4 (by intro z; cases z)) hq4
              refine ⟨_, rfl, q, _, _, _, rfl, rfl, SqT.of hq5, at0 _ _, _, rfl, _, rfl, q, _, _, _, rfl, rfl, SqT.of hq5, at1 _ _, hD, _, rfl, dput_toK x2 x1 w5.here (Nat.lt_of_le_of_lt (show (putN h x1 x2).length ≤ 9000 by omega) (by decide)), ?_⟩
              refine ⟨_, _, rfl, Same.wr (Same.wr (s3.trans s4) fD w5) fD .mk', upd_same, hfr, by omega, ?_⟩
              intro c b hcb
              rw [headOf_putN, headOf_putN] at hcb
              split at hcb
              · exact Option.some.inj hcb ▸ m1
              · split at hcb
                · exact Option.some.inj hcb ▸ m2
                · exact hin c b hcb
      · rintro σ' H3 ⟨h, pr, rfl, s3, hH, hfr, hl, hin⟩
        have hkd : keptD S d = some (dueOf S h) := by
          rw [hk, hfr, hlen, List.drop_length]
          rfl
        have hz : S.cps.toList.length = (signs S).length := by rw [signs_len]; exact Array.length_toList
        have hsm : (signs S).length < sizeLine := by rw [signs_len]; exact Nat.lt_of_le_of_lt hS (by decide)
        have tupStay : ∀ (H H' : Hp) (D q : Addr) (e : Nat × Nat), (∃ zs, H D = some (.lst zs)) → But D H H' → H q = some (.tup [sg e.1, sg e.2]) → H' q = some (.tup [sg e.1, sg e.2]) := by
          rintro H H' D q e ⟨zs, hz⟩ b hq
          exact b q _ (ne_of hq hz (by intro z; cases z)) hq
        refine ⟨_, rfl, S, rfl, fun D1 hD1 => lc_pair walk_signs S.cps.toList hz (fun c => (headOf h c).isSome) (fun c y H' => ∃ q, y = V.ref q ∧ H' q = some (.tup [sg c, sg ((headOf h c).getD 0)])) ?_ hD1 (fun _ _ => trivial) hsm (fun x => rfl) ?_ ?_ ?_⟩
        · rintro c y H5 H6 hl5 hb ⟨q, e, hq⟩
          exact ⟨q, e, tupStay H5 H6 D1 q (c, (headOf h c).getD 0) hl5 hb hq⟩
        · intro j x c H5 C hx hc s5 hC
          obtain rfl : x = sg c := by
            unfold signs at hx
            rw [List.getElem?_map, hc] at hx
            exact (Option.some.inj hx).symm
          refine ⟨_, rfl, _, rfl, hD, _, rfl, dget_toK c (s5 _ _ hH), _, rfl, ?_⟩
          have e : ((headOf h c).map sg).isSome = (headOf h c).isSome := by cases headOf h c <;> rfl
          rw [e]
          exact hC H5 (Same.refl _)
        · intro j x c H5 C hx hc hp s5 hC
          obtain rfl : x = sg c := by
            unfold signs at hx
            rw [List.getElem?_map, hc] at hx
            exact (Option.some.inj hx).symm
          obtain ⟨b, hb⟩ := Option.isSome_iff_exists.mp hp
          refine ⟨_, rfl, _, rfl, _, rfl, hD, sg b, rfl, ?_, (by show 2 ≤ sizeLine; decide), fun q H6 n6 => hC H6 _ n6.same ⟨q, rfl, ?_⟩⟩
          · have := dget_toK c (s5 _ _ hH)
            rw [hb] at this
            exact this
          · rw [hb]
            exact n6.here
        · intro H4 ys s4 hD4 hP
          -- the pairs that the dict tells
          have hP2 : PairsAt H4 ((S.cps.toList.filter fun c => (headOf h c).isSome).map fun c => (c, (headOf h c).getD 0)) ys := by
            clear hD4
            generalize S.cps.toList.filter (fun c => (headOf h c).isSome) = l at hP
            induction hP with
            | nil => exact .nil
            | cons a b ih => exact .cons a ih
          have hL : ∀ e ∈ (S.cps.toList.filter fun c => (headOf h c).isSome).map fun c => (c, (headOf h c).getD 0), e.1 ∈ S.cps.toList ∧ e.2 ∈ S.cps.toList := by
            intro e he
            obtain ⟨c, hc, rfl⟩ := List.mem_map.mp he
            obtain ⟨h1, h2⟩ := List.mem_filter.mp hc
            obtain ⟨b, hb⟩ := Option.isSome_iff_exists.mp h2
            exact ⟨h1, by rw [hb]; exact hin c b hb⟩
          have hdue : dueOf S h = ((S.cps.toList.filter fun c => (headOf h c).isSome).map fun c => (c, (headOf h c).getD 0)).filter fun e => decide (S.cps.toList.idxOf e.1 ≤ S.cps.toList.idxOf e.2) := rfl
          have hLl : ((S.cps.toList.filter fun c => (headOf h c).isSome).map fun c => (c, (headOf h c).getD 0)).length ≤ 4000 := by
            rw [List.length_map]
            refine Nat.le_trans (List.length_filter_le _ _) ?_
            rw [Array.length_toList]
            exact hS
          generalize (S.cps.toList.filter fun c => (headOf h c).isSome).map (fun c => (c, (headOf h c).getD 0)) = L at hP2 hL hdue hLl
          have hpl := hP2.length
          refine ⟨_, rfl, D1, rfl, ⟨ys, SqL.of hD4⟩, fun D2 hD2 => lc_pair walk_list L hpl (fun e => decide (S.cps.toList.idxOf e.1 ≤ S.cps.toList.idxOf e.2)) (fun e y H' => ∃ q, y = V.ref q ∧ H' q = some (.tup [sg e.1, sg e.2])) ?_ hD2 (fun H' sm => sm.seq (SqL.of hD4)) (by rw [← hpl]; exact Nat.lt_of_le_of_lt hLl (by decide)) (fun x => rfl) ?_ ?_ ?_⟩
          · rintro e y H5 H6 hl5 hb ⟨q, e1, hq⟩
            exact ⟨q, e1, tupStay H5 H6 D2 q e hl5 hb hq⟩
          · intro j x e H5 C hx he s5 hC
            obtain ⟨e', he', q, rfl, hq⟩ := Paired.at hP2 hx
            rw [he] at he'
            obtain rfl : e = e' := Option.some.inj he'
            obtain ⟨i1, i2⟩ := hL e (List.mem_of_getElem? he)
            have hq5 := s5 _ _ hq
            refine ⟨_, rfl, ⟨_, rfl⟩, _, rfl, q, _, _, _, rfl, rfl, SqT.of hq5, at0 _ _, S, ⟨#[e.1]⟩, rfl, rfl, ?_⟩
            rw [find_one S e.1 i1]
            refine ⟨_, rfl, ⟨_, rfl⟩, _, rfl, q, _, _, _, rfl, rfl, SqT.of hq5, at1 _ _, S, ⟨#[e.2]⟩, rfl, rfl, ?_⟩
            rw [find_one S e.2 i2]
            refine ⟨_, _, rfl, rfl, _, rfl, ?_⟩
            have e3 : decide (((S.cps.toList.idxOf e.1 : Nat) : Int) ≤ ((S.cps.toList.idxOf e.2 : Nat) : Int)) = decide (S.cps.toList.idxOf e.1 ≤ S.cps.toList.idxOf e.2) := by
              rw [decide_eq_decide]
              omega
            rw [e3]
            exact hC H5 (Same.refl _)
          · intro j x e H5 C hx he _ s5 hC
            obtain ⟨e', he', q, rfl, hq⟩ := Paired.at hP2 hx
            rw [he] at he'
            obtain rfl : e = e' := Option.some.inj he'
            exact ⟨_, rfl, hC H5 _ (Same.refl _) ⟨q, rfl, s5 _ _ hq⟩⟩
          · intro H5 zs s5 hD5 hP5
            refine ⟨D2, zs, rfl, SqL.of hD5, fun r H6 n6 => ?_⟩
            have sA : Same H H5 := (s3.trans s4).trans s5
            have fr : H r = none := by
              cases e : H r with
              | none => rfl
              | some o => have := sA _ _ e; rw [n6.free] at this; cases this
            have hP6 : PairsAt H5 (dueOf S h) zs := by
              rw [hdue]
              exact hP5
            exact kS _ hkd H6 r zs (sA.trans n6.same) fr n6.here (hP6.same n6.same)
end
end My
end
section
set_option Elab.async false
set_option linter.all false
set_option maxRecDepth 100000
set_option maxHeartbeats 4000000
namespace My
open PySem PySem.Spec PyProof.Rows L2
abbrev s_keptM : Stmt := inCls s_cls 11
abbrev s_shownM : Stmt := inCls s_cls 10
/-- where a side stands in the order -/
def sideAt (S : Str) (c : Nat) : Nat := (S.cps.toList ++ [45]).idxOf c
/-- a kind as it is kept -/
def keptK (S : Str) (x y : Nat) : Str := if sideAt S y < sideAt S x then mkS [y, x] else mkS [x, y]
theorem kind_two {S z : Str} (h : kindD S (.str z) = true) : ∃ x y, z = mkS [x, y] ∧ sideB S x = true ∧ sideB S y = true ∧ ¬ (x = 45 ∧ y = 45) := by
  have h : (decide (z.length = 2) && !decide (z = (⟨#[45, 45]⟩ : Str)) && z.cps.toList.all (sideB S)) = true := h
  rw [Bool.and_eq_true, Bool.and_eq_true] at h
  obtain ⟨⟨h1, h2⟩, h3⟩ := h
  have h1 := of_decide_eq_true h1
  have zl : z.cps.toList.length = 2 := Array.length_toList.trans h1
  obtain ⟨x, y, e⟩ : ∃ x y, z.cps.toList = [x, y] := by
    match z.cps.toList, zl with
    | [x, y], _ => exact ⟨x, y, rfl⟩
  have ez : z = mkS [x, y] := by rw [← e, mkS_self]
  rw [e] at h3
  simp only [List.all_cons, List.all_nil, Bool.and_true, Bool.and_eq_true] at h3
  refine ⟨x, y, ez, h3.1, h3.2, fun q => ?_⟩
  rw [ez, q.1, q.2] at h2
  revert h2
  decide
theorem side_mem {S : Str} {c : Nat} (h : sideB S c = true) : c ∈ S.cps.toList ++ [45] := by
  unfold sideB at h
  rw [Bool.or_eq_true] at h
  rcases h with h | h
  · exact List.mem_append_right _ (by rw [of_decide_eq_true h]; exact List.mem_cons_self)
  · exact List.mem_append_left _ (of_decide_eq_true h)
theorem order_cps (S : Str) : (S ++ PySem.Str.ofString "-").cps.toList = S.cps.toList ++ [45] := by
  show (S.cps ++ (PySem.Str.ofString "-").cps).toList = _
  rw [Array.toList_append]
  have : (PySem.Str.ofString "-").cps.toList = [45] := by decide
  rw [this]
def sp_keptM (K : PySem.W.Frag) (C IK : Addr) : Sp := fun vs H Q E => ∃ (a p : Addr) (S : Str) (ps : List (Nat × Nat)) (v : V) (d : PyData), vs = [.ref a, v] ∧ FontAt H C a S ps ∧ S.length ≤ 4000 ∧ Rp K p H false v d ∧ textFits 4000 d ∧
  (kindD S d = false → ∀ H' dd, Same H H' → H' dd = none → E (.ref IK) (some dd) (upd H' dd (.xd [("value", v)]))) ∧ (∀ x y, d = .str (mkS [x, y]) → kindD S d = true → ∀ H', Same H H' → Q (.str (keptK S x y)) H')
section
variable {P : Program} {w : World} {K : PySem.W.Frag} {mg : Str → Option Value} {base : Heap}
theorem sc_keptM : FnScope ["self", "kind", "order"] ["self", "kind"] (defScope s_keptM) := ⟨rfl, rfl, rfl, by decide +kernel, rfl, by decide +kernel, by decide +kernel⟩
theorem ok_keptM {f C fK IK fI : Addr} {fd fdK : FuncData} {tB : Tok} (F : Fun K "kept" "Font.kept" s_keptM f fd) (c : Cls K C) (n1 : NoAttr K C "_signs") (gB : mg "BLANK" = some (.str "-" tB)) (D : Def K mg "is_kind" fK fdK ["signs", "value"]) (G : FnOk P w K mg base CX0 1 fK fdK ["signs", "value"] (sp_isKind K))
    (T : VErr K mg "InvalidKind" "InvalidKind.__init__" IK fI) : FnOk P w K mg base (L2.CX P w) 2 f fd ["self", "kind"] (sp_keptM K C IK) := by
  refine F.okX sc_keptM (fun vs H Q E h => ?_) (fun cdv A outer s H vs Q E hr h => ?_)
  · obtain ⟨a, p, S, ps, v, d, rfl, _⟩ := h
    rfl
  · obtain ⟨a, p, S, ps, v, d, rfl, hF, hS, hd, hz, kE, kQ⟩ := h
    obtain ⟨dx, r, ys, h1, h2, h3⟩ := hF.at_
    refine ⟨_, pss_cons (ps_if (pt_not (pt_val (pe_call (E := E0) G hr rfl D.mgf D.kp D.bd .nil pass0 (pa_cons (pe_fld (pv 0) rfl) (pa_cons (pv 1) pa_nil))))) (pss_one (ps_raiseErr rfl T fld_value hr (show 1 ≤ 1 by decide) (takes_of rfl rfl rfl rfl) (by exact (pa_cons (pv 1) pa_nil)) rfl)) pss_nil)
      (PSs.nox (pss_cons (ps_set (i := 2) sc_keptM.nd rfl (Or.inl rfl) (pe_op op_add_str (pe_fld (pv 0) rfl) (pe_glob (v := .str "-") rfl gB ⟨_, rfl⟩)))
      (pss_cons (ps_if (pt_cmpR op_gt (pe_m1 PySem.F.slot_str_find PySem.F.type_str_find mt_find (pv 2) (pe_ix ix_str (pv 1) pe_int (fun _ _ => rfl))) (pe_m1 PySem.F.slot_str_find PySem.F.type_str_find mt_find (pv 2) (pe_ix ix_str (pv 1) pe_int (fun _ _ => rfl))) (nomark _))
        (pss_one (ps_ret (pe_op op_add_str (pe_ix ix_str (pv 1) pe_int (fun _ _ => rfl)) (pe_ix ix_str (pv 1) pe_int (fun _ _ => rfl))))) pss_nil)
      (pss_one (ps_ret (pv 1)))))), ?_⟩
    refine ⟨_, rfl, a, _, dx, _, _, rfl, h1, c, n1, fs_signs S r, _, rfl, S, v, d, p, rfl, hd, hz, fun H1 s1 => ⟨_, rfl, ?_⟩⟩
    cases hs : kindD S d with
    | false => exact iteT ⟨_, rfl, _, rfl, fun dd hdd => kE hs H1 dd s1 hdd⟩
    | true =>
      obtain ⟨z, rfl⟩ : ∃ z, d = .str z := by
        cases d with
        | str z => exact ⟨z, rfl⟩
        | _ => cases hs
      obtain ⟨x, y, rfl, bx, by_, _⟩ := kind_two hs
      cases hd
      have fin := kQ x y rfl hs H1 s1
      have h1' := s1 _ _ h1
      have l1 : (PySem.Str.ofString "-").length = 1 := by decide
      have l2 : (mkS [x, y]).length ≤ sizeLine := by rw [mkS_len]; show 2 ≤ sizeLine; decide
      have a0 : atI (mkS [x, y]).cps.toList (0 : Int) = some x := atI_nat (j := 0) rfl
      have a1 : atI (mkS [x, y]).cps.toList (1 : Int) = some y := atI_nat (j := 1) rfl
      have f0 : Txt.find (S ++ PySem.Str.ofString "-") ⟨#[x]⟩ = ((sideAt S x : Nat) : Int) := by
        rw [find_one _ x (by rw [order_cps]; exact side_mem bx), order_cps]
        rfl
      have f1 : Txt.find (S ++ PySem.Str.ofString "-") ⟨#[y]⟩ = ((sideAt S y : Nat) : Int) := by
        rw [find_one _ y (by rw [order_cps]; exact side_mem by_), order_cps]
        rfl
      refine iteF ⟨_, rfl, a, _, dx, _, _, rfl, h1', c, n1, fs_signs S r, S, _, rfl, rfl, ?_, ?_⟩
      · rw [l1]
        exact Nat.le_trans (show S.length + 1 ≤ 4001 by omega) (by decide)
      refine ⟨_, rfl, ⟨_, rfl⟩, _, rfl, _, _, _, rfl, rfl, l2, a0, _, ⟨#[x]⟩, rfl, rfl, ?_⟩
      rw [f0]
      refine ⟨_, rfl, ⟨_, rfl⟩, _, rfl, _, _, _, rfl, rfl, l2, a1, _, ⟨#[y]⟩, rfl, rfl, ?_⟩
      rw [f1]
      refine ⟨_, _, rfl, rfl, _, rfl, ?_⟩
      refine ite2 (fun h => ?_) (fun h => ?_)
      · have h : sideAt S y < sideAt S x := by have := of_decide_eq_true h; omega
        unfold keptK at fin
        rw [if_pos h] at fin
        refine ⟨_, rfl, _, _, _, rfl, rfl, l2, a1, _, rfl, _, _, _, rfl, rfl, l2, a0, _, _, rfl, rfl, by show 1 + 1 ≤ sizeLine; decide, ?_⟩
        exact fin
      · have h : ¬ sideAt S y < sideAt S x := fun z => h (decide_eq_true (by omega))
        unfold keptK at fin
        rw [if_neg h] at fin
        exact ⟨_, rfl, fin⟩
end
end My
end
section
set_option Elab.async false
set_option linter.all false
set_option maxRecDepth 100000
set_option maxHeartbeats 4000000
namespace My
open PySem PySem.Spec PyProof.Rows L2
abbrev s_kinds : Stmt := topS 50
/-- all kinds with this first side -/
def kindsAt (S : Str) (k : Nat) : List (Nat × Nat) := (S.cps.toList.drop k ++ [45]).map fun c => ((S.cps.toList[k]?).getD 0, c)
def kindV (e : Nat × Nat) : V := .str (mkS [e.1, e.2])
/-- all kinds of the first n first sides -/
def kindsTo (S : Str) : Nat → List (Nat × Nat)
  | 0 => []
  | n + 1 => kindsTo S n ++ kindsAt S n
def sp_kinds : Sp := fun vs H Q _ => ∃ S : Str, vs = [.str S] ∧ S.length ≤ 10 ∧ ∀ H' r, Same H H' → H r = none → H' r = some (.lst ((kindsTo S S.length).map kindV)) → Q (.ref r) H'
theorem kindsAt_len (S : Str) (h : S.length ≤ 10) (k : Nat) : (kindsAt S k).length ≤ 11 := by
  unfold kindsAt
  have : S.cps.toList.length = S.length := Array.length_toList
  rw [List.length_map, List.length_append, List.length_drop]
  simp only [List.length_cons, List.length_nil]
  omega
theorem kindsTo_len (S : Str) (h : S.length ≤ 10) : ∀ k, (kindsTo S k).length ≤ 11 * k
  | 0 => Nat.le_refl _
  | k + 1 => by
    have := kindsTo_len S h k
    have := kindsAt_len S h k
    show (kindsTo S k ++ kindsAt S k).length ≤ _
    rw [List.length_append]
    omega
/-- xs.extend(ys) -/
def qExt : V → List V → Hp → VK → Prop := fun x vs H Q => ∃ l b xs zs, x = .ref l ∧ vs = [.ref b] ∧ H l = some (.lst xs) ∧ H b = some (.lst zs) ∧ xs.length + zs.length ≤ sizeLine ∧ ∀ H', Wr H l (.lst (xs ++ zs)) H' → Q .non H'
theorem mt_extend' {X : Cx} : MtM X "list.extend" qExt := MtM.weak mt_extend fun x vs H Q q => by
  obtain ⟨l, b, xs, zs, e1, e2, h1, h2, hl, k⟩ := q
  exact ⟨l, b, xs, zs, e1, e2, h1, h2, hl, k _ .mk'⟩
theorem cut_from (S : Str) (k : Nat) : (cutS S (some ((k : Nat) : Int)) none).cps.toList = S.cps.toList.drop k := by
  have zl : S.cps.toList.length = S.length := Array.length_toList
  show (((S.cps.toList.drop (HT.sIx S.length 0 (some ((k : Nat) : Int)))).take (HT.sIx S.length S.length none - HT.sIx S.length 0 (some ((k : Nat) : Int)))).toArray).toList = _
  rw [HT.sIx_none, HT.sIx_nat]
  show (S.cps.toList.drop (min k S.length)).take (S.length - min k S.length) = _
  rw [← zl, List.take_of_length_le (by rw [List.length_drop]; exact Nat.le_refl _)]
  by_cases h : k ≤ S.cps.toList.length
  · rw [Nat.min_eq_left h]
  · rw [Nat.min_eq_right (by omega), List.drop_length, List.drop_of_length_le (by omega)]
section
variable {P : Program} {w : World} {K : PySem.W.Frag} {mg : Str → Option Value} {base : Heap}
abbrev NKi : List Str := ["_law_signs", "_law_found", "_law_k", "_law_side"]
theorem sc_kinds : FnScope NKi ["_law_signs"] (defScope s_kinds) := ⟨rfl, rfl, rfl, by decide +kernel, rfl, by decide +kernel, by decide +kernel⟩
theorem ok_kinds {f : Addr} {fd : FuncData} (F : Fun K "_law_kinds" "_law_kinds" s_kinds f fd) (T : TB mg) : FnOk P w K mg base CX0 1 f fd ["_law_signs"] sp_kinds := by
  refine F.ok sc_kinds (fun vs H Q E h => ?_) (fun cdv A outer s H vs Q E hr h => ?_)
  · obtain ⟨S, rfl, _⟩ := h
    rfl
  · obtain ⟨S, rfl, hS, k⟩ := h
    refine ⟨_, pss_cons (ps_set (i := 1) sc_kinds.nd rfl (Or.inl rfl) (pe_lst' pa_nil))
      (pss_cons (ps_for PassesOwn.never rfl (pi_range1 rfl T.range (pa_cons (pe_callB (id := "len") call_len_str (by rfl) T.len PySem.boot_len (pa_cons (pv 0) pa_nil)) pa_nil)) (pg_name (i := 2) sc_kinds.nd rfl (Or.inr rfl))
        (pss_one (ps_expr (pe_bm PySem.F.plainAttrs_list PySem.F.slot_list_extend PySem.F.type_list_extend mt_extend' (pv 1) (pa_cons (by exact (pe_lc (own := [("_law_side", 3)]) (g := gName 3) (tt := tYes) rfl sc_kinds.nd (pi_str (pe_op op_add_str (pe_slice sl_str (pv 0) (po_some (pv 2)) po_none) pe_str)) (blkOk_by (own := [("_law_side", 3)]) (N := NKi) (sc := defScope s_kinds) (by decide +kernel))
          (fun _ _ _ _ _ => pg_name (i := 3) sc_kinds.nd rfl (Or.inl rfl)) (fun _ _ _ _ _ => pts_nil) (fun _ _ _ _ _ => pe_op op_add_str (pe_ix ix_str (pv 0) (pv 2) (fun _ _ => rfl)) (pv 3)))) pa_nil)))))
      (pss_one (ps_ret (pv 1)))), ?_⟩
    have zl : S.cps.toList.length = S.length := Array.length_toList
    have hz : S.length ≤ sizeLine := Nat.le_trans hS (by decide)
    refine ⟨by show 0 ≤ sizeLine; decide, fun r H1 n1 => ?_⟩
    refine ⟨_, rfl, S, rfl, hz, (S.length : Int), rfl, by omega, by omega, for_it (walk_range (lo := 0) (n := S.length)) (fun i σ' H' => ∃ o2 o3 : Option V, σ' = [some (.str S), some (.ref r), o2, o3] ∧ Same H H' ∧ H' r = some (.lst ((kindsTo S i).map kindV)))
      ⟨none, none, rfl, n1.same, n1.here⟩ (fun _ _ _ _ _ => trivial) ?_ ?_⟩
    · rintro i x σ' Ha Hb hi ⟨o2, o3, rfl, sH, hr⟩ ⟨rfl, rfl⟩
      have hi : i < S.length := hi
      have e0 : ((0 : Int) + (i : Int)) = ((i : Nat) : Int) := by omega
      show gName 2 (V.int ((0 : Int) + (i : Int))) _ _ _
      rw [e0]
      obtain ⟨a, ha⟩ : ∃ a, S.cps.toList[i]? = some a := ⟨S.cps.toList[i]'(by omega), by simp [show i < S.cps.toList.length by omega]⟩
      have oz : (cutS S (some ((i : Nat) : Int)) none ++ PySem.Str.ofString "-").cps.toList = S.cps.toList.drop i ++ [45] := by rw [order_cps, cut_from]
      have cl : (cutS S (some ((i : Nat) : Int)) none).length ≤ 10 := by
        have : (cutS S (some ((i : Nat) : Int)) none).length = (cutS S (some ((i : Nat) : Int)) none).cps.toList.length := Array.length_toList.symm
        rw [this, cut_from, List.length_drop]
        omega
      have dl : (PySem.Str.ofString "-").length = 1 := by decide
      have kl := kindsAt_len S hS i
      have kt := kindsTo_len S hS i
      have ol : (signs (cutS S (some ((i : Nat) : Int)) none ++ PySem.Str.ofString "-")).length ≤ 11 := by
        unfold signs
        rw [List.length_map, oz, List.length_append, List.length_drop]
        simp only [List.length_cons, List.length_nil]
        omega
      have lsmall : (signs (cutS S (some ((i : Nat) : Int)) none ++ PySem.Str.ofString "-")).length < sizeLine := Nat.lt_of_le_of_lt ol (by decide)
      refine ⟨_, rfl, .inl ⟨rfl, _, SqL.of hr⟩, _, rfl, _, rfl, _, rfl, S, rfl, hz, _, _, rfl, rfl, ?_, _, rfl, fun D1 hD1 => lc_ff walk_signs (fun _ => true) (fun x => kindV (a, ofSg x)) hD1 (fun _ _ => trivial) lsmall (fun x => rfl) (fun x H' C _ _ h => h _ (Same.refl _)) ?_ ?_⟩
      · rw [dl]
        exact Nat.le_trans (show _ ≤ 11 by omega) (by decide)
      · intro v H' C' hx _ _ hC
        obtain ⟨ch, _, rfl⟩ := mem_signs hx
        have hC := hC H' (Same.refl _)
        refine ⟨_, rfl, _, rfl, S, _, a, rfl, rfl, hz, atI_nat ha, _, rfl, _, _, rfl, rfl, by show 1 + 1 ≤ sizeLine; decide, ?_⟩
        exact hC
      intro H2 s2 hl2
      have e2 : ((signs (cutS S (some ((i : Nat) : Int)) none ++ PySem.Str.ofString "-")).filter fun _ => true).map (fun x => kindV (a, ofSg x)) = (kindsAt S i).map kindV := by
        rw [pv_filter_true]
        unfold signs kindsAt
        rw [oz, ha, List.map_map, List.map_map]
        rfl
      rw [e2] at hl2
      have hr2 := s2 _ _ hr
      refine ⟨r, D1, _, _, rfl, rfl, hr2, hl2, ?_, fun H3 w3 => ?_⟩
      · rw [List.length_map, List.length_map]
        exact Nat.le_trans (show _ ≤ 200 by omega) (by decide)
      refine ⟨_, _, rfl, Same.wr (sH.trans s2) n1.free w3, ?_⟩
      rw [w3.here, ← List.map_append]
      rfl
    · rintro σ' H2 ⟨o2, o3, rfl, sH, hr⟩
      exact ⟨_, rfl, k H2 r sH n1.free hr⟩
end
end My
end
section
set_option Elab.async false
set_option linter.all false
set_option maxRecDepth 100000
set_option maxHeartbeats 4000000
/-! B9: dict comprehensions, dicts from signs to numbers, a dict that is walked. -/
namespace My
open PySem PySem.Spec PyProof.Rows L2
theorem isiN {X : Cx} {K : PySem.W.Frag} (h : X.K = K) : CallR X (.builtin "isinstance") (rIsi K) := h ▸ call_isi
theorem inSeqN {X : Cx} {K : PySem.W.Frag} (h : X.K = K) : OpR X (compareOp .In) (rIn K false) := h ▸ op_in_seq
theorem pe_fldN {X : Cx} {K : PySem.W.Frag} {e : Expr} {f : Str} {pos : Pos} {te : TE} (h : X.K = K) (he : PE X e te) (hb : attributeBase e f X.env (eval e X.env) = eval e X.env) : PE X (.Attribute e f pos) (tFld K te f) := h ▸ pe_fld he hb
/-- a comprehension of a dict over it: Pv by the turn and the heap (the new dict at D within) -/
theorem dc_it {J : It} {n : Nat} {G : Hp → Prop} {Y : Nat → Hp → V → Hp → Prop} (w : Walk J n G Y) {g : TG} {tt : TT} {tk tv : TE} {vs : List Nat} {σ : L2.St} {H1 : Hp} {D : Addr} {Qd : Hp → Prop} (Pv : Nat → Hp → Prop) (h0 : Pv 0 (upd H1 D (.dK []))) (hG : ∀ i H, i ≤ n → Pv i H → G H)
    (hs : ∀ i x H H', i < n → Pv i H → Y i H x H' → g x (wipe σ vs) H' fun σ2 H2 => wipe σ2 vs = wipe σ vs ∧ tt σ2 H2 fun b H3 =>
      if b = true then tk σ2 H3 fun y H4 => tv σ2 H4 fun z H5 => ∃ kvs k, y = kV k ∧ H5 D = some (.dK kvs) ∧ kvs.length < sizeLine ∧ Pv (i + 1) (upd H5 D (.dK (putK kvs k z))) else Pv (i + 1) H3) (hd : ∀ H, Pv n H → Qd H) :
    ∃ W : Nat → Nat → Hp → Prop, (∃ m, W 0 m (upd H1 D (.dK []))) ∧ ∀ j m H, W j m H →
      (J.stop j H ∧ Qd H) ∨ (J.go j H ∧ ∃ Nx : Hp → Prop, (∀ H', Nx H' → ∃ m', m' < m ∧ W (j + 1) m' H') ∧ ∀ x H', J.yld j H x H' → g x (wipe σ vs) H' fun σ2 H2 => wipe σ2 vs = wipe σ vs ∧ tt σ2 H2 fun b H3 =>
        if b = true then tk σ2 H3 fun y H4 => tv σ2 H4 fun z H5 => ∃ kvs k, y = kV k ∧ H5 D = some (.dK kvs) ∧ kvs.length < sizeLine ∧ Nx (upd H5 D (.dK (putK kvs k z))) else Nx H3) := by
  refine ⟨fun i m H => m = n - i ∧ i ≤ n ∧ Pv i H, ⟨n, by simp, Nat.zero_le _, h0⟩, ?_⟩
  rintro i m H ⟨rfl, hi, p⟩
  have q := hG i H hi p
  by_cases hlt : i < n
  · exact .inr ⟨w.goes i H hlt q, Pv (i + 1), fun H' p' => ⟨n - (i + 1), by omega, rfl, hlt, p'⟩, fun x H' y => hs i x H H' hlt p (w.yields i H x H' hlt q y)⟩
  · have e : i = n := by omega
    subst e
    exact .inl ⟨w.stops H q, hd H p⟩
theorem putK_new {kvs : List (Key × V)} {k : Key} {v : V} (h : k ∉ kvs.map (·.1)) : putK kvs k v = kvs ++ [(k, v)] := by
  unfold putK
  have e : (kvs.any fun kv => decide (kv.1 = k)) = false := by
    rw [List.any_eq_false]
    intro x hx hk
    exact h (List.mem_map.mpr ⟨x, hx, of_decide_eq_true hk⟩)
  rw [e]
  rfl
/-- what a dict comprehension over l makes: parts and tests change nothing that is tracked -/
theorem dc_map {α : Type} {J : It} {xs : List V} {G : Hp → Prop} (w : Walk J xs.length G (YAt xs)) (l : List α) (hl : l.length = xs.length) {i : Nat} {tt : TT} {tk tv : TE} {vs : List Nat} {σ : L2.St} {H1 : Hp} {D : Addr} {Qd : Hp → Prop} (p : α → Bool) (key : α → Key) (val : α → V) (nd : (l.map key).Nodup)
    (free : H1 D = none) (hG : ∀ H', Same H1 H' → G H') (small : xs.length < sizeLine) (hw : ∀ x, wipe ((wipe σ vs).set i (some x)) vs = wipe σ vs)
    (ht : ∀ (j : Nat) x a H' (C : Bool → Hp → Prop), xs[j]? = some x → l[j]? = some a → Same H1 H' → (∀ H3, Same H' H3 → C (p a) H3) → tt ((wipe σ vs).set i (some x)) H' C)
    (hk : ∀ (j : Nat) x a H' (C : VK), xs[j]? = some x → l[j]? = some a → p a = true → Same H1 H' → (∀ H4, Same H' H4 → C (kV (key a)) H4) → tk ((wipe σ vs).set i (some x)) H' C)
    (hv : ∀ (j : Nat) x a H' (C : VK), xs[j]? = some x → l[j]? = some a → p a = true → Same H1 H' → (∀ H4, Same H' H4 → C (val a) H4) → tv ((wipe σ vs).set i (some x)) H' C)
    (hd : ∀ H', Same H1 H' → H' D = some (.dK ((l.filter p).map fun a => (key a, val a))) → Qd H') :
    ∃ W : Nat → Nat → Hp → Prop, (∃ m, W 0 m (upd H1 D (.dK []))) ∧ ∀ j m H, W j m H →
      (J.stop j H ∧ Qd H) ∨ (J.go j H ∧ ∃ Nx : Hp → Prop, (∀ H', Nx H' → ∃ m', m' < m ∧ W (j + 1) m' H') ∧ ∀ x H', J.yld j H x H' → gName i x (wipe σ vs) H' fun σ2 H2 => wipe σ2 vs = wipe σ vs ∧ tt σ2 H2 fun b H3 =>
        if b = true then tk σ2 H3 fun y H4 => tv σ2 H4 fun z H5 => ∃ kvs k, y = kV k ∧ H5 D = some (.dK kvs) ∧ kvs.length < sizeLine ∧ Nx (upd H5 D (.dK (putK kvs k z))) else Nx H3) := by
  refine dc_it w (fun j H' => Same H1 H' ∧ H' D = some (.dK (((l.take j).filter p).map fun a => (key a, val a)))) ⟨Same.wr (Same.refl H1) free .mk', by simp [upd_same]⟩ (fun j H' _ q => hG H' q.1) ?_ ?_
  · rintro j x H2 H3 hj ⟨s, hD⟩ ⟨rfl, hx⟩
    have hjl : j < l.length := by omega
    obtain ⟨a, ha⟩ : ∃ a, l[j]? = some a := ⟨l[j], by simp [hjl]⟩
    have nx : l.take (j + 1) = l.take j ++ [a] := by
      rw [List.take_add_one, ha]
      rfl
    refine ⟨hw x, ht j x a H3 _ hx ha s fun H4 s4 => ?_⟩
    have hD4 := s4 _ _ hD
    cases hpa : p a with
    | true =>
      rw [if_pos rfl]
      refine hk j x a H4 _ hx ha hpa (s.trans s4) fun H5 s5 => hv j x a H5 _ hx ha hpa ((s.trans s4).trans s5) fun H6 s6 => ?_
      have hD6 := s6 _ _ (s5 _ _ hD4)
      refine ⟨_, key a, rfl, hD6, ?_, Same.wr (((s.trans s4).trans s5).trans s6) free .mk', ?_⟩
      · rw [List.length_map]
        have h1 : ((l.take j).filter p).length ≤ (l.take j).length := List.length_filter_le _ _
        have h2 : (l.take j).length ≤ l.length := by rw [List.length_take]; omega
        omega
      · rw [upd_same, nx, List.filter_append, List.map_append]
        have e : [a].filter p = [a] := by simp [hpa]
        rw [e]
        refine congrArg (fun z => some (HO.dK z)) (putK_new ?_)
        rw [List.map_map]
        intro hm
        obtain ⟨b, hb, eb⟩ := List.mem_map.mp hm
        have hb : b ∈ l.take j := (List.mem_filter.mp hb).1
        obtain ⟨i', hi'⟩ := List.mem_iff_getElem?.mp hb
        rw [List.getElem?_take] at hi'
        split at hi'
        · rename_i hlt
          have h1 : (l.map key)[i']? = some (key b) := by rw [List.getElem?_map, hi']; rfl
          have h2 : (l.map key)[j]? = some (key a) := by rw [List.getElem?_map, ha]; rfl
          have hlen : j < (l.map key).length := by rw [List.length_map]; exact hjl
          have eb : key b = key a := eb
          rw [← eb] at h2
          have := (List.getElem?_inj (Nat.lt_trans hlt hlen) nd).mp (h1.trans h2.symm)
          omega
        · cases hi'
    | false =>
      rw [if_neg Bool.false_ne_true]
      refine ⟨s.trans s4, ?_⟩
      rw [hD4, nx, List.filter_append]
      simp [hpa]
  · rintro H' ⟨s, hD⟩
    rw [← hl, List.take_length] at hD
    exact hd H' s hD
/-! ### a dict that is walked -/
theorem unlock {H H' : Hp} {d : Addr} {od : Obj} {u : HO} (h : H d = some u) (s : Same (upd H d (.frz od u)) H') : Same H (upd H' d u) := fun b o e => by
  by_cases q : b = d
  · subst q
    rw [h] at e
    rw [upd_same, e]
  · rw [upd_ne q]
    refine s b o ?_
    rw [upd_ne q]
    exact e
theorem locked {H : Hp} {d : Addr} {od : Obj} {u : HO} : (upd H d (.frz od u)) d = some (.frz od u) := upd_same
theorem lock_els {H : Hp} {d b : Addr} {od : Obj} {u : HO} (q : b ≠ d) : (upd H d (.frz od u)) b = H b := upd_ne q
theorem walk_ks {d : Addr} {o : Obj} {kvs : List (Key × V)} : Walk (Itk d o kvs) (kvs.map fun e => kV e.1).length (fun H => H d = some (.frz o (.dK kvs))) (YAt (kvs.map fun e => kV e.1)) := by
  rw [List.length_map]
  refine walk_keys.mono (fun _ h => h) fun i H x H' _ _ y => ?_
  obtain ⟨e, k, v, h1, h2⟩ := y
  refine ⟨e, ?_⟩
  rw [List.getElem?_map, h1, h2]
  rfl
/-! ### dicts from signs to numbers -/
def toC (h : List (Nat × Int)) : List (Key × V) := h.map fun e => (Sum.inr ⟨#[e.1]⟩, .int e.2)
def cntOf (h : List (Nat × Int)) (a : Nat) : Option Int := (h.find? fun e => decide (e.1 = a)).map (·.2)
theorem valV_toC (h : List (Nat × Int)) (a : Nat) : valV (toC h) (Sum.inr ⟨#[a]⟩ : Key) = (cntOf h a).map V.int := by
  induction h with
  | nil => rfl
  | cons e h ih =>
    by_cases q : e.1 = a
    · have e1 : valV (toC (e :: h)) (Sum.inr ⟨#[a]⟩ : Key) = some (.int e.2) := valV_pos (keyS_inj.mpr q)
      rw [e1]
      simp [cntOf, q]
    · have e1 : valV (toC (e :: h)) (Sum.inr ⟨#[a]⟩ : Key) = valV (toC h) (Sum.inr ⟨#[a]⟩ : Key) := valV_neg (fun z => q (keyS_inj.mp z))
      rw [e1, ih]
      simp [cntOf, q]
theorem dget_toC {H : Hp} {p : Addr} {h : List (Nat × Int)} (a : Nat) (e : H p = some (.dK (toC h))) : DGet H p (sg a) ((cntOf h a).map V.int) := by
  rw [← valV_toC]
  exact DGet.k (k := Sum.inr ⟨#[a]⟩) e
theorem dget_frz {H : Hp} {p : Addr} {o : Obj} {h : List (Nat × Int)} (a : Nat) (e : H p = some (.frz o (.dK (toC h)))) : DGet H p (sg a) ((cntOf h a).map V.int) := by
  rw [← valV_toC]
  exact .inl ⟨toC h, Sum.inr ⟨#[a]⟩, .inr ⟨o, e⟩, rfl, rfl⟩
/-- the counts f of these signs -/
def cts (l : List Nat) (f : Nat → Int) : List (Nat × Int) := l.map fun c => (c, f c)
theorem cts_at {l : List Nat} {f : Nat → Int} {c : Nat} (h : c ∈ l) : cntOf (cts l f) c = some (f c) := by
  induction l with
  | nil => cases h
  | cons a l ih =>
    by_cases q : a = c
    · subst q
      simp [cntOf, cts]
    · have hc : c ∈ l := (List.mem_cons.mp h).resolve_left (fun z => q z.symm)
      have e : cntOf (cts (a :: l) f) c = cntOf (cts l f) c := by simp [cntOf, cts, q]
      rw [e, ih hc]
theorem cts_no {l : List Nat} {f : Nat → Int} {c : Nat} (h : c ∉ l) : cntOf (cts l f) c = none := by
  induction l with
  | nil => rfl
  | cons a l ih =>
    have q : a ≠ c := fun z => h (z ▸ List.mem_cons_self)
    have e : cntOf (cts (a :: l) f) c = cntOf (cts l f) c := by simp [cntOf, cts, q]
    rw [e, ih fun z => h (List.mem_cons_of_mem _ z)]
theorem toC_keys (h : List (Nat × Int)) : (toC h).map (·.1) = h.map fun e => (Sum.inr ⟨#[e.1]⟩ : Key) := by
  unfold toC
  rw [List.map_map]
  rfl
theorem toC_ks (h : List (Nat × Int)) : (toC h).map (fun e => kV e.1) = (h.map (·.1)).map sg := by
  unfold toC
  rw [List.map_map, List.map_map]
  rfl
theorem nodup_map {α β : Type} {f : α → β} (hf : ∀ a b, f a = f b → a = b) : ∀ {l : List α}, l.Nodup → (l.map f).Nodup
  | [], _ => List.nodup_nil
  | a :: l, h => by
    obtain ⟨h1, h2⟩ := List.nodup_cons.mp h
    rw [List.map_cons, List.nodup_cons]
    refine ⟨fun m => ?_, nodup_map hf h2⟩
    obtain ⟨b, hb, e⟩ := List.mem_map.mp m
    exact h1 (hf _ _ e ▸ hb)
theorem keys_nodup {l : List Nat} (nd : l.Nodup) : (l.map fun c => (Sum.inr ⟨#[c]⟩ : Key)).Nodup := nodup_map (fun _ _ e => keyS_inj.mp e) nd
/-- dict(pairs) with different keys -/
theorem mergeK_nodup {kvs : List (Key × V)} (nd : (kvs.map (·.1)).Nodup) : mergeK [] kvs = kvs := by
  have aux : ∀ (b a : List (Key × V)), ((a ++ b).map (·.1)).Nodup → mergeK a b = a ++ b := by
    intro b
    induction b with
    | nil => intro a _; rw [List.append_nil]; rfl
    | cons e b ih =>
      intro a h
      have e1 : mergeK a (e :: b) = mergeK (putK a e.1 e.2) b := rfl
      rw [List.map_append, List.nodup_append] at h
      have hne : e.1 ∉ a.map (·.1) := fun m => h.2.2 _ m e.1 List.mem_cons_self rfl
      rw [e1, putK_new hne]
      have h2 : ((a ++ [(e.1, e.2)] ++ b).map (·.1)).Nodup := by
        rw [List.append_assoc]
        show ((a ++ e :: b).map (·.1)).Nodup
        rw [List.map_append, List.nodup_append]
        exact h
      rw [ih _ h2, List.append_assoc]
      rfl
  have := aux kvs [] (by simpa using nd)
  simpa using this
end My
end
section
set_option Elab.async false
set_option linter.all false
set_option maxRecDepth 100000
set_option maxHeartbeats 2000000
namespace My
open PySem PySem.Spec PyProof.Rows L2 LamX
/-- the heap that stands still: all but the tables and the script -/
structure Still (P : Program) (w : World) (K : PySem.W.Frag) (cs : List (Addr × Addr)) (a : Addr) (h : Heap) (H : Hp) : Prop where
  tab : ∀ p ∈ cs, H p.2 = some (.tbl #[])
  only : ∀ b u, H b = some u → (b ∈ cs.map (·.2) ∧ u = .tbl #[]) ∨ (b = a ∧ K.lookup a = none ∧ ∃ o xs, u = .frz o (.lst xs))
  ok : HOk P w H h
section
variable {P : Program} {w : World} {K : PySem.W.Frag} {mg mb : Str → Option Value} {k : Nat} {fa a : Addr} {cs : List (Addr × Addr)} {fd : FuncData} {x : Str} {sp : Sp} {s1 : Shared} {vs : List Value} {ns : List Int} {H : Hp}
abbrev emptyTab : Obj := { cls := .none, data := .fields #[] }
theorem tab_at (hT : ∀ p ∈ cs, s1.heap.get? p.2 = some emptyTab) {b : Addr} (hb : b ∈ cs.map (·.2)) : s1.heap.get? b = some emptyTab := by
  obtain ⟨p, hp, e⟩ := List.mem_map.mp hb
  exact e ▸ hT p hp
/-- what is neither a list nor an empty table stands still -/
theorem Still.free (S : Still P w K cs a s1.heap H) (hT : ∀ p ∈ cs, s1.heap.get? p.2 = some emptyTab) (ha : s1.heap.get? a = some { cls := .type "list", data := .seq vs.toArray }) {b : Addr} {o : Obj} (e : s1.heap.get? b = some o)
    (h1 : o ≠ emptyTab) (h2 : o ≠ { cls := .type "list", data := .seq vs.toArray }) : H b = none := by
  cases q : H b with
  | none => rfl
  | some u =>
    rcases S.only b u q with ⟨m, _⟩ | ⟨m, _⟩
    · rw [tab_at hT m] at e
      exact absurd (Option.some.inj e).symm h1
    · rw [m, ha] at e
      exact absurd (Option.some.inj e).symm h2
theorem still_call (S : Still P w K cs a s1.heap H) (KX : K.In s1.heap) (hns : s1.heap.Ns mainGlobals mg) (hb : s1.heap.Ns builtinsNs mb) (hbb : ∀ x : Str, x ≠ "__name__" → mb x = bootBuiltins x) (hlim : s1.heap.NoLimit) (hg : s1.gens = #[])
    (hT : ∀ p ∈ cs, s1.heap.get? p.2 = some emptyTab) (nT : ∀ p ∈ cs, K.lookup p.2 = none) (C : ∀ p ∈ cs, PySem.W.CodeHd s1.heap p.1 p.2)
    (hbm : ∃ (bm : Addr) (ob : Obj), mg "__builtins__" = some (.ref bm) ∧ bm ≠ builtinsNs ∧ s1.heap.get? bm = some ob ∧ ob.cls = .type "module" ∧ ob.dict = some builtinsNs ∧ ob.data = .plain)
    (ha : s1.heap.get? a = some { cls := .type "list", data := .seq vs.toArray }) (hr : Room k callerA) (hS : SqL K H a (ns.map V.int))
    (F : ∀ base : Heap, K.In base → base.Ns mainGlobals mg → (∀ p ∈ cs, TabB base mg p.1 p.2) → FnG P w K mg base k fa fd [x] sp) (bind1 : ∀ (s : Shared) (u : Value), BindsTo s fd ⟨[u], []⟩ [(x, u)])
    (hsp : sp [.ref a] H (fun v _ => v = .bl true) fun _ _ _ => False) :
    codeAny (model P w) callerA (.call (.ref fa) ⟨[.ref a], []⟩) (fun r s' => r = .ok (.ret (.bool true)) ∧ OldK s1.heap s'.heap ∧ s'.os = s1.os ∧ AllBare s'.gens) s1 := by
  have inB : ∀ {b : Addr} {o : Obj}, s1.heap.get? b = some o → H b = none → (hidT s1.heap H).get? b = some o := fun e n => hidT_get e n
  have dictB : ∀ {b : Addr} {m : Str → Option Value}, s1.heap.Ns b m → (hidT s1.heap H).Ns b m := by
    rintro b m ⟨o, es, ep, e, d, r⟩
    exact ⟨o, es, ep, inB e (S.free hT ha e (fun z => by rw [z] at d; cases d) fun z => by rw [z] at d; cases d), d, r⟩
  have kinB : K.In (hidT s1.heap H) := by
    intro b o e
    refine inB (KX b o e) ?_
    cases q : H b with
    | none => rfl
    | some u =>
      rcases S.only b u q with ⟨m, _⟩ | ⟨m, m2, _⟩
      · obtain ⟨p, hp, ep⟩ := List.mem_map.mp m
        have := nT p hp
        rw [ep, e] at this
        cases this
      · rw [← m, e] at m2
        cases m2
  have modB : L2.Mod K mg (hidT s1.heap H) := by
    refine ⟨kinB, dictB hns, ⟨mb, dictB hb, hbb⟩, ?_⟩
    obtain ⟨mc, h1, h2⟩ := hlim
    exact ⟨mc, dictB h1, h2⟩
  have tabB : ∀ p ∈ cs, TabB (hidT s1.heap H) mg p.1 p.2 := by
    intro p hp
    have tp := hT p hp
    constructor
    · obtain ⟨o, us, file, tf, flags, tg, inF, text, tt, e1, r1, r2, r3, r4, r5, r6, r7, r8, hne⟩ := C p hp
      refine ⟨o, us, file, tf, flags, tg, inF, text, tt, inB e1 (S.free hT ha e1 (fun z => ?_) fun z => ?_), r1, r2, r3, r4, r5, r6, r7, r8, hne⟩
      · rw [z] at r2
        cases r2
        simp at r3
      · rw [z] at r2
        cases r2
    · obtain ⟨bm, ob, b1, b2, b3, b4, b5, b6⟩ := hbm
      refine ⟨bm, ob, b1, b2, fun q => ?_, fun q => ?_, inB b3 (S.free hT ha b3 (fun z => ?_) fun z => ?_), b4, b5, b6⟩
      · obtain ⟨o, es, ep, e, hd, _⟩ := hns
        rw [q, e] at b3
        rw [Option.some.inj b3, b6] at hd
        cases hd
      · rw [q, tp] at b3
        rw [← Option.some.inj b3] at b6
        cases b6
      · rw [z] at b6
        cases b6
      · rw [z] at b6
        cases b6
    · intro z
      obtain ⟨o, es, ep, e, hd, _⟩ := hns
      rw [z, tp] at e
      rw [← Option.some.inj e] at hd
      cases hd
  have e0 : Env0 P w K mg (hidT s1.heap H) callerA [] s1 H := ⟨rfl, modB, fun b o e => of_hidT e, Nat.le_of_eq (hidT_size _ _), trivial, fun b m => absurd (show b ∈ ([] : List Addr) from m) (by simp), S.ok, .of_eq hg⟩
  refine codeAny_mono ((F _ kinB (dictB hns) tabB).goes callerA [] s1 H ⟨[.ref a], []⟩ [.ref a] [.ref a] _ _ rfl hr e0 (bind1 s1 (.ref a)) (.cons rfl .nil) hsp) ?_
  intro r s' hq
  match r, hq with
  | .error e, hq => exact hq.elim
  | .ok .next, hq => exact hq.elim
  | .ok .brk, hq => exact hq.elim
  | .ok .cont, hq => exact hq.elim
  | .ok (.ret u), hq =>
    obtain ⟨v, H', os, bare, un, ok', rv, q⟩ := hq
    have q : v = .bl true := q
    subst q
    obtain rfl : u = Value.bool true := rv
    have nof : ∀ b : Addr, b ∉ frs [] := fun b m => absurd (show b ∈ ([] : List Addr) from m) (by simp)
    have stay : ∀ b o, b ∉ cs.map (·.2) → s1.heap.get? b = some o → s'.heap.get? b = some o := by
      intro b o nb e
      cases z : H b with
      | none => exact un.keep b o e z (nof b) (by simp)
      | some u =>
        rcases S.only b u z with ⟨m, _⟩ | ⟨_, _, ob, xs, rfl⟩
        · exact absurd m nb
        · have z2 := un.frzs b ob _ z
          have e1 := (S.ok b _ z).1
          have e2 := (ok' b _ z2).1
          rw [e1] at e
          exact Option.some.inj e ▸ e2
    have grow : ∀ p ∈ cs, ∃ more : Array Value, s'.heap.get? p.2 = some { cls := .none, data := .fields more } := by
      intro p hp
      obtain ⟨more, z⟩ := un.tbls p.2 #[] (S.tab p hp)
      exact ⟨_, ok' p.2 _ z⟩
    refine ⟨rfl, ⟨fun b o e => ?_, fun b o e => ?_⟩, os, bare⟩
    · by_cases hb : b ∈ cs.map (·.2)
      · obtain ⟨p, hp, ep⟩ := List.mem_map.mp hb
        obtain ⟨more, hm⟩ := grow p hp
        subst ep
        have eo : o = emptyTab := by
          rw [hT p hp] at e
          exact (Option.some.inj e).symm
        subst eo
        exact .inr (.inl ⟨((C p hp).tab (hT p hp)).isCodeTable, rfl, #[], more, rfl, by rw [Array.empty_append]; exact hm⟩)
      · exact .inl (stay b o hb e)
    · by_cases hb : b ∈ cs.map (·.2)
      · obtain ⟨p, hp, ep⟩ := List.mem_map.mp hb
        obtain ⟨more, hm⟩ := grow p hp
        exact ⟨_, ep ▸ hm⟩
      · exact ⟨o, stay b o hb e⟩
theorem law_callG (KX : K.In s1.heap) (hns : s1.heap.Ns mainGlobals mg) (hb : s1.heap.Ns builtinsNs mb) (hbb : ∀ x : Str, x ≠ "__name__" → mb x = bootBuiltins x) (hlim : s1.heap.NoLimit) (hg : s1.gens = #[])
    (hT : ∀ p ∈ cs, s1.heap.get? p.2 = some emptyTab) (nT : ∀ p ∈ cs, K.lookup p.2 = none) (C : ∀ p ∈ cs, PySem.W.CodeHd s1.heap p.1 p.2)
    (hbm : ∃ (bm : Addr) (ob : Obj), mg "__builtins__" = some (.ref bm) ∧ bm ≠ builtinsNs ∧ s1.heap.get? bm = some ob ∧ ob.cls = .type "module" ∧ ob.dict = some builtinsNs ∧ ob.data = .plain)
    (ha : s1.heap.get? a = some { cls := .type "list", data := .seq vs.toArray }) (hi : IntsAre vs ns) (hl : ns.length ≤ sizeLine) (hr : Room k callerA)
    (F : ∀ base : Heap, K.In base → base.Ns mainGlobals mg → (∀ p ∈ cs, TabB base mg p.1 p.2) → FnG P w K mg base k fa fd [x] sp) (bind1 : ∀ (s : Shared) (u : Value), BindsTo s fd ⟨[u], []⟩ [(x, u)])
    (hsp : ∀ H : Hp, (∀ p ∈ cs, H p.2 = some (.tbl #[])) → SqL K H a (ns.map V.int) → sp [.ref a] H (fun v _ => v = .bl true) fun _ _ _ => False) :
    codeAny (model P w) callerA (.call (.ref fa) ⟨[.ref a], []⟩) (fun r s' => r = .ok (.ret (.bool true)) ∧ OldK s1.heap s'.heap ∧ s'.os = s1.os ∧ AllBare s'.gens) s1 := by
  have rel := vals_ints hi
  have lenV := hi.length
  have aT : a ∉ cs.map (·.2) := by
    intro m
    have z := tab_at hT m
    rw [ha] at z
    cases z
  have mem : ∀ p ∈ cs, p.2 ∈ cs.map (·.2) := fun p hp => List.mem_map.mpr ⟨p, hp, rfl⟩
  by_cases hk : K.lookup a = none
  · let H0 : Hp := fun b => if b = a then some (.frz { cls := .type "list", data := .seq vs.toArray } (.lst (ns.map V.int))) else if b ∈ cs.map (·.2) then some (.tbl #[]) else none
    have atA : H0 a = some (.frz { cls := .type "list", data := .seq vs.toArray } (.lst (ns.map V.int))) := if_pos rfl
    have atT : ∀ p ∈ cs, H0 p.2 = some (.tbl #[]) := fun p hp => (if_neg (show ¬ p.2 = a from fun e => aT (e ▸ mem p hp))).trans (if_pos (mem p hp))
    have S : Still P w K cs a s1.heap H0 := by
      refine ⟨atT, fun b u e => ?_, fun b u e => ?_⟩
      · by_cases q : b = a
        · subst q
          rw [atA] at e
          exact .inr ⟨rfl, hk, _, _, (Option.some.inj e).symm⟩
        · have e2 : H0 b = if b ∈ cs.map (·.2) then some (.tbl #[]) else none := if_neg q
          rw [e2] at e
          by_cases m : b ∈ cs.map (·.2)
          · rw [if_pos m] at e
            exact .inl ⟨m, (Option.some.inj e).symm⟩
          · rw [if_neg m] at e
            cases e
      · by_cases q : b = a
        · subst q
          rw [atA] at e
          obtain rfl := Option.some.inj e
          exact ⟨ha, by rw [List.length_map]; exact hl, vs, _, rel, ha⟩
        · have e2 : H0 b = if b ∈ cs.map (·.2) then some (.tbl #[]) else none := if_neg q
          rw [e2] at e
          by_cases m : b ∈ cs.map (·.2)
          · rw [if_pos m] at e
            obtain rfl := Option.some.inj e
            exact tab_at hT m
          · rw [if_neg m] at e
            cases e
    have hS : SqL K H0 a (ns.map V.int) := .inl (.inr ⟨_, atA⟩)
    exact still_call S KX hns hb hbb hlim hg hT nT C hbm ha hr hS F bind1 (hsp H0 atT hS)
  · obtain ⟨o, ho⟩ := Option.ne_none_iff_exists'.mp hk
    have eo := KX a o ho
    rw [ha] at eo
    obtain rfl := Option.some.inj eo
    let H0 : Hp := fun b => if b ∈ cs.map (·.2) then some (.tbl #[]) else none
    have atT : ∀ p ∈ cs, H0 p.2 = some (.tbl #[]) := fun p hp => if_pos (mem p hp)
    have S : Still P w K cs a s1.heap H0 := by
      refine ⟨atT, fun b u e => ?_, fun b u e => ?_⟩
      · by_cases m : b ∈ cs.map (·.2)
        · rw [show H0 b = some (.tbl #[]) from if_pos m] at e
          exact .inl ⟨m, (Option.some.inj e).symm⟩
        · rw [show H0 b = none from if_neg m] at e
          cases e
      · by_cases m : b ∈ cs.map (·.2)
        · rw [show H0 b = some (.tbl #[]) from if_pos m] at e
          obtain rfl := Option.some.inj e
          exact tab_at hT m
        · rw [show H0 b = none from if_neg m] at e
          cases e
    have hS : SqL K H0 a (ns.map V.int) := .inr ⟨_, vs.toArray, _, ho, rfl, rfl, rfl, by rw [List.size_toArray, lenV]; exact hl, by simpa using rel⟩
    exact still_call S KX hns hb hbb hlim hg hT nT C hbm ha hr hS F bind1 (hsp H0 atT hS)
end
/-- what the head's heap tells of the law -/
def LawG (l : PySem.W.OpenLaw) (w : World) (K : PySem.W.Frag) (k n : Nat) (x : Str) (mg : Str → Option Value) (fa : Addr) (h : Heap) : Prop :=
  ∃ (fd : FuncData) (cs : List (Addr × Addr)) (sp : Sp), (∀ p ∈ cs, h.get? p.2 = some emptyTab) ∧ (∀ p ∈ cs, K.lookup p.2 = none) ∧ (∀ p ∈ cs, PySem.W.CodeHd h p.1 p.2) ∧ (∀ (s : Shared) (u : Value), BindsTo s fd ⟨[u], []⟩ [(x, u)]) ∧
    (∀ (H : Hp) (a : Addr) (ns : List Int), ns.length ≤ n → (∀ z ∈ ns, Builtin.Int.intBits z ≤ 1048576) → (∀ p ∈ cs, H p.2 = some (.tbl #[])) → SqL K H a (ns.map V.int) → sp [.ref a] H (fun v _ => v = .bl true) fun _ _ _ => False) ∧
    ∀ base : Heap, K.In base → base.Ns mainGlobals mg → (∀ p ∈ cs, TabB base mg p.1 p.2) → FnG l.prog w K mg base k fa fd [x] sp
theorem walkG {l : PySem.W.OpenLaw} {n k : Nat} {q : Program} {loose : List Str} {XP : (Str → Option Value) → Heap → Prop} {YP : World → Heap → Prop} {d : DefRec} {K : Params → PySem.W.Frag} {x : Str}
    (hn : l.most = some n) (hn2 : n ≤ sizeLine) (hdf : d.params.defaults = []) (hr : Room k callerA) (hY : ∀ (w : World) (h : Heap), YP w h → (K w.params).In h)
    (F : ∀ (w : World) (mg : Str → Option Value) (fa : Addr) (h : Heap), YP w h → (K w.params).In h → h.Ns mainGlobals mg → mg d.name = some (.ref fa) → LawG l w (K w.params) k n x mg fa h) :
    PySem.W.WalkO q loose XP YP l.row.toRowW d [] (fun f vs => PySem.call f vs) := by
  apply Att.attach_callB hn hdf
  intro w s0 s1 mg mb fa o pm cd doc a vs ns G Y ho hd hcd hmg hobj hints hlen hbits hg
  have KX := hY w _ Y
  obtain ⟨fd, cs, sp, hT, nT, C, hb, hsp, hF⟩ := F w mg fa _ Y KX G.T.g hmg
  exact law_callG KX G.T.g G.T.b G.T.builtins G.T.nolimit hg hT nT C G.T.bmain hobj hints (Nat.le_trans hlen hn2) hr hF hb fun H hH hS => hsp H a ns hlen hbits hH hS
end My
end
section
set_option Elab.async false
set_option linter.all false
set_option maxRecDepth 100000
set_option maxHeartbeats 4000000
/-! B12: pairs for dict(..); the law's own def. -/
namespace My
open PySem PySem.Spec PyProof.Rows L2
theorem pairs_refs {α : Type} {K : PySem.W.Frag} {H : Hp} {key : α → Key} {val : α → V} : ∀ {l : List α} {ys : List V}, Paired (fun a y => ∃ q, y = V.ref q ∧ H q = some (.tup [kV (key a), val a])) l ys →
    ∃ qs : List Addr, ys = qs.map V.ref ∧ Paired (fun p kv => SqT K H p [kV kv.1, kv.2]) qs (l.map fun a => (key a, val a))
  | _, _, .nil => ⟨[], rfl, .nil⟩
  | _, _, .cons ⟨q, e, h⟩ t => by
    obtain ⟨qs, e2, p⟩ := pairs_refs (K := K) t
    exact ⟨q :: qs, by rw [e, e2]; rfl, .cons (SqT.of h) p⟩
def forBody : Stmt → List Stmt
  | .For _ _ b _ _ => b
  | _ => []
def nth (l : List Stmt) (i : Nat) : Stmt := l.getD i (.Pass ⟨0, 0, 0, 0⟩)
section
variable {P : Program} {w : World} {K : PySem.W.Frag} {mg : Str → Option Value} {base : Heap}
/-- a def by its body and its code object, where no repr is under way -/
theorem okGc {x qual : Str} {st : Stmt} {f : Addr} {oc kV doc pm cdv ct : Value} {od an : Option Addr} {osl : Array (Option Value)} {N ps : List Str} {k : Nat} {sp : Sp} (lk : K.lookup f = some ⟨oc, od, .func (PySem.W.fnOf x qual (defArgs st) (defBody st) (defScope st) .none kV doc pm an cdv ct), osl⟩) (hcd : PySem.W.codeIn K cdv qual = true)
    (S : FnScope N ps (defScope st)) (size : ∀ vs H Q E, sp vs H Q E → vs.length = ps.length)
    (body : ∀ (A : Around) (o : List Env) (s : Shared) (H : Hp) (vs : List V) (Q : VK) (E : XK), (A.deeper (envOfC qual (defScope st) s.heap.objs.size f cdv)).guards = some [] → Room k (A.deeper (envOfC qual (defScope st) s.heap.objs.size f cdv)) → sp vs H Q E →
      ∃ t, PSs (cxOf CX0 P w K mg base N qual (defScope st) f cdv A o s H E).nox (defBody st) t ∧ t { nx := fun _ H' => Q .non H', rt := Q } (L2.start N vs) H) :
    FnG P w K mg base (k + 1) f (PySem.W.fnOf x qual (defArgs st) (defBody st) (defScope st) .none kV doc pm an cdv ct) ps sp := by
  constructor
  · exact size
  intro A o s H args us vs Q E g room e0 bd rel want
  have hlen := size _ _ _ _ want
  have kin := e0.mod.kin.keeps fun b ob z => (e0.bs b ob z).1
  have nolim := e0.mod.nolimit.keeps fun b ob z => (e0.bs b ob z).1
  have kinds : ∀ y ∈ ps.zip us, (defScope st).names.lookup y.1 = some .local ∨ ((defScope st).names.lookup y.1 = some .cell ∧ ((cellsFrom (s.heap.objs.size + 1) (defScope st).names []).lookup y.1).isSome = true) := by
    intro y hy
    obtain ⟨n, v⟩ := y
    cases S.par n (List.of_mem_zip hy).1 with
    | inl z => exact Or.inl z
    | inr z => exact Or.inr ⟨z, PySem.W.cellsFrom_some _ _ _ (Or.inl z)⟩
  apply codeAny_call_function room.depth (kin _ _ lk) rfl S.co S.gen rfl (PySem.W.codeRec_of kin hcd)
  apply bd
  apply wpAny_newFunctionEnv_cells S.kind kinds
  intro env henv s1 x
  subst henv
  constructor
  · exact nolim.keeps x.toInCall.keep
  apply codeAny_func
  obtain ⟨t, der, rd⟩ := body A o s H vs Q E (guards_deeper g) (room.deeper _) want
  have J : Inv (cxOf CX0 P w K mg base N qual (defScope st) f cdv A o s H E) [] (L2.start N vs) H s1 := inv_start S room.hd e0 hlen rel x
  apply wpAny_mono (der.nox.run [] s1 (L2.start N vs) H _ J rd)
  · intro fl s' hs
    cases fl with
    | ret u =>
      obtain ⟨v, σ', H', J', rv, q⟩ := hs
      exact ⟨v, H', J'.os, J'.bare, J'.base, J'.hok, rv, q⟩
    | next =>
      obtain ⟨σ', H', J', q⟩ := hs
      exact ⟨V.non, H', J'.os, J'.bare, J'.base, J'.hok, rfl, q⟩
    | brk => exact hs.choose_spec.choose_spec.2.elim
    | cont => exact hs.choose_spec.choose_spec.2.elim
  · intro e s' hs
    exact hs
end
end My
end
section
set_option Elab.async false
set_option linter.all false
set_option maxRecDepth 100000
set_option maxHeartbeats 4000000
/-! B24: dicts from texts to numbers; a walk with any body. -/
namespace My
open PySem PySem.Spec PyProof.Rows L2
/-- a walk over a loop whose body is told by what it may go on with -/
theorem lcw {J : It} {n : Nat} {G : Hp → Prop} {Y : Nat → Hp → V → Hp → Prop} (w : Walk J n G Y) {B : (Hp → Prop) → V → Hp → Prop} {H1 : Hp} {Qd : Hp → Prop} (Pv : Nat → Hp → Prop) (h0 : Pv 0 H1) (hG : ∀ i H, i ≤ n → Pv i H → G H)
    (hs : ∀ i x H H', i < n → Pv i H → Y i H x H' → B (Pv (i + 1)) x H') (hd : ∀ H, Pv n H → Qd H) :
    ∃ W : Nat → Nat → Hp → Prop, (∃ m, W 0 m H1) ∧ ∀ i m H, W i m H →
      (J.stop i H ∧ Qd H) ∨ (J.go i H ∧ ∃ Nx : Hp → Prop, (∀ H', Nx H' → ∃ m', m' < m ∧ W (i + 1) m' H') ∧ ∀ x H', J.yld i H x H' → B Nx x H') := by
  refine ⟨fun i m H => m = n - i ∧ i ≤ n ∧ Pv i H, ⟨n, by simp, Nat.zero_le _, h0⟩, ?_⟩
  rintro i m H ⟨rfl, hi, p⟩
  have q := hG i H hi p
  by_cases hlt : i < n
  · exact .inr ⟨w.goes i H hlt q, Pv (i + 1), fun H' p' => ⟨n - (i + 1), by omega, rfl, hlt, p'⟩, fun x H' y => hs i x H H' hlt p (w.yields i H x H' hlt q y)⟩
  · have e : i = n := by omega
    subst e
    exact .inl ⟨w.stops H q, hd H p⟩
/-! ### dicts from texts to numbers -/
def toS (h : List (Str × Int)) : List (Key × V) := h.map fun e => (Sum.inr e.1, .int e.2)
def ctK (h : List (Str × Int)) (a : Str) : Option Int := (h.find? fun e => decide (e.1 = a)).map (·.2)
theorem keyT_inj {a b : Str} : (Sum.inr a : Key) = Sum.inr b ↔ a = b := ⟨fun z => Sum.inr.inj z, fun z => by rw [z]⟩
theorem ctK_pos {e : Str × Int} {h : List (Str × Int)} {a : Str} (q : e.1 = a) : ctK (e :: h) a = some e.2 := by simp [ctK, q]
theorem ctK_neg {e : Str × Int} {h : List (Str × Int)} {a : Str} (q : ¬ e.1 = a) : ctK (e :: h) a = ctK h a := by simp [ctK, q]
theorem valV_toS (h : List (Str × Int)) (a : Str) : valV (toS h) (Sum.inr a : Key) = (ctK h a).map V.int := by
  induction h with
  | nil => rfl
  | cons e h ih =>
    by_cases q : e.1 = a
    · have e1 : valV (toS (e :: h)) (Sum.inr a : Key) = some (.int e.2) := valV_pos (keyT_inj.mpr q)
      rw [e1, ctK_pos q]
      rfl
    · have e1 : valV (toS (e :: h)) (Sum.inr a : Key) = valV (toS h) (Sum.inr a : Key) := valV_neg (fun z => q (keyT_inj.mp z))
      rw [e1, ih, ctK_neg q]
theorem dget_toS {H : Hp} {p : Addr} {h : List (Str × Int)} (a : Str) (e : H p = some (.dK (toS h))) : DGet H p (.str a) ((ctK h a).map V.int) := by
  rw [← valV_toS]
  exact DGet.k (k := Sum.inr a) e
theorem dget_frzK {H : Hp} {p : Addr} {o : Obj} {h : List (Str × Int)} (a : Str) (e : H p = some (.frz o (.dK (toS h)))) : DGet H p (.str a) ((ctK h a).map V.int) := by
  rw [← valV_toS]
  exact .inl ⟨toS h, Sum.inr a, .inr ⟨o, e⟩, rfl, rfl⟩
theorem toS_keys (h : List (Str × Int)) : (toS h).map (·.1) = (h.map (·.1)).map Sum.inr := by
  unfold toS
  rw [List.map_map, List.map_map]
  rfl
theorem toS_ks (h : List (Str × Int)) : (toS h).map (fun e => kV e.1) = (h.map (·.1)).map V.str := by
  unfold toS
  rw [List.map_map, List.map_map]
  rfl
theorem toS_nodup {h : List (Str × Int)} (nd : (h.map (·.1)).Nodup) : ((toS h).map (·.1)).Nodup := by
  rw [toS_keys]
  exact nodup_map (fun _ _ e => keyT_inj.mp e) nd
/-- a count set -/
def putT (cs : List (Str × Int)) (a : Str) (v : Int) : List (Str × Int) := if a ∈ cs.map (·.1) then cs.map fun e => if e.1 = a then (e.1, v) else e else cs ++ [(a, v)]
theorem putK_toS (cs : List (Str × Int)) (a : Str) (v : Int) : putK (toS cs) (Sum.inr a : Key) (.int v) = toS (putT cs a v) := by
  unfold putT
  by_cases h : a ∈ cs.map (·.1)
  · rw [if_pos h]
    unfold putK
    have e : ((toS cs).any fun kv => decide (kv.1 = (Sum.inr a : Key))) = true := by
      rw [List.any_eq_true]
      obtain ⟨x, hx, ex⟩ := List.mem_map.mp h
      exact ⟨(Sum.inr x.1, .int x.2), List.mem_map.mpr ⟨x, hx, rfl⟩, decide_eq_true (keyT_inj.mpr ex)⟩
    rw [if_pos e]
    unfold toS
    rw [List.map_map, List.map_map]
    apply List.map_congr_left
    intro x _
    show (if (Sum.inr x.1 : Key) = Sum.inr a then ((Sum.inr x.1 : Key), V.int v) else (Sum.inr x.1, .int x.2)) = _
    by_cases q : x.1 = a
    · rw [if_pos (keyT_inj.mpr q)]
      simp [q]
    · rw [if_neg (fun z => q (keyT_inj.mp z))]
      simp [q]
  · rw [if_neg h, putK_new]
    · simp [toS]
    · rw [toS_keys]
      intro m
      obtain ⟨x, hx, ex⟩ := List.mem_map.mp m
      exact h (keyT_inj.mp ex ▸ hx)
theorem dput_toS {H : Hp} {d : Addr} {cs : List (Str × Int)} {a : Str} {v : Int} (e : H d = some (.dK (toS cs))) (l : cs.length < sizeLine) : DPut H d (.str a) (.int v) (upd H d (.dK (toS (putT cs a v)))) := by
  rw [← putK_toS]
  exact DPut.k (k := Sum.inr a) e (by simpa [toS] using l)
theorem putT_new {cs : List (Str × Int)} {a : Str} {v : Int} (h : a ∉ cs.map (·.1)) : putT cs a v = cs ++ [(a, v)] := by unfold putT; rw [if_neg h]
theorem putT_len (cs : List (Str × Int)) (a : Str) (v : Int) : (putT cs a v).length ≤ cs.length + 1 := by
  unfold putT
  split
  · rw [List.length_map]; omega
  · rw [List.length_append]; exact Nat.le_refl _
theorem putT_mem {cs : List (Str × Int)} {a : Str} {v : Int} {e : Str × Int} (h : e ∈ putT cs a v) : e ∈ cs ∨ e = (a, v) := by
  unfold putT at h
  split at h
  · obtain ⟨x, hx, rfl⟩ := List.mem_map.mp h
    by_cases q : x.1 = a
    · rw [if_pos q, q]; exact .inr rfl
    · rw [if_neg q]; exact .inl hx
  · rcases List.mem_append.mp h with h | h
    · exact .inl h
    · exact .inr (List.mem_singleton.mp h)
/-- a count is one of the values -/
theorem ctK_mem {cs : List (Str × Int)} {a : Str} {v : Int} (h : ctK cs a = some v) : (a, v) ∈ cs := by
  unfold ctK at h
  obtain ⟨e, he, ev⟩ := Option.map_eq_some_iff.mp h
  have h1 := List.mem_of_find?_eq_some he
  have h2 : e.1 = a := by simpa using List.find?_some he
  obtain ⟨x, y⟩ := e
  cases h2
  cases ev
  exact h1
theorem ctK_none {cs : List (Str × Int)} {a : Str} (h : a ∉ cs.map (·.1)) : ctK cs a = none := by
  cases e : ctK cs a with
  | none => rfl
  | some v => exact absurd (List.mem_map.mpr ⟨_, ctK_mem e, rfl⟩) h
theorem ctK_nd {cs : List (Str × Int)} {a : Str} {v : Int} (nd : (cs.map (·.1)).Nodup) (h : (a, v) ∈ cs) : ctK cs a = some v := by
  induction cs with
  | nil => cases h
  | cons e cs ih =>
    rw [List.map_cons, List.nodup_cons] at nd
    rcases List.mem_cons.mp h with rfl | h
    · exact ctK_pos rfl
    · have ne : e.1 ≠ a := fun z => nd.1 (by rw [z]; exact List.mem_map.mpr ⟨_, h, rfl⟩)
      rw [ctK_neg ne, ih nd.2 h]
theorem ctK_perm {cs ds : List (Str × Int)} (nd : (cs.map (·.1)).Nodup) (p : ds.Perm cs) (a : Str) : ctK ds a = ctK cs a := by
  have nd2 : (ds.map (·.1)).Nodup := (p.map _).nodup_iff.mpr nd
  cases e : ctK cs a with
  | some v => exact ctK_nd nd2 (p.mem_iff.mpr (ctK_mem e))
  | none =>
    cases e2 : ctK ds a with
    | none => rfl
    | some v =>
      rw [ctK_nd nd (p.mem_iff.mp (ctK_mem e2))] at e
      cases e
/-- the counts above 0, in the order of these kinds -/
def ordC (l : List Str) (f : Str → Int) : List (Str × Int) := (l.filter fun k => decide (0 < f k)).map fun k => (k, f k)
theorem ordC_keys (l : List Str) (f : Str → Int) : (ordC l f).map (·.1) = l.filter fun k => decide (0 < f k) := by
  unfold ordC
  rw [List.map_map]
  exact List.map_id _
theorem ordC_nd {l : List Str} (f : Str → Int) (nd : l.Nodup) : ((ordC l f).map (·.1)).Nodup := by
  rw [ordC_keys]
  exact nd.sublist List.filter_sublist
theorem ordC_mem {l : List Str} {f : Str → Int} {e : Str × Int} : e ∈ ordC l f ↔ e.1 ∈ l ∧ 0 < f e.1 ∧ e.2 = f e.1 := by
  unfold ordC
  rw [List.mem_map]
  constructor
  · rintro ⟨k, hk, rfl⟩
    obtain ⟨h1, h2⟩ := List.mem_filter.mp hk
    exact ⟨h1, of_decide_eq_true h2, rfl⟩
  · rintro ⟨h1, h2, h3⟩
    exact ⟨e.1, List.mem_filter.mpr ⟨h1, decide_eq_true h2⟩, by rw [← h3]⟩
theorem ordC_ct {l : List Str} {f : Str → Int} (nd : l.Nodup) {k : Str} (h : k ∈ l) : ctK (ordC l f) k = if 0 < f k then some (f k) else none := by
  by_cases q : 0 < f k
  · rw [if_pos q]
    exact ctK_nd (ordC_nd f nd) (ordC_mem.mpr ⟨h, q, rfl⟩)
  · rw [if_neg q]
    refine ctK_none fun m => ?_
    obtain ⟨e, he, rfl⟩ := List.mem_map.mp m
    exact q (ordC_mem.mp he).2.1
end My
end
section
set_option Elab.async false
set_option linter.all false
set_option maxRecDepth 100000
set_option maxHeartbeats 4000000
namespace My
open PySem PySem.Spec PyProof.Rows L2
theorem idx_nodup {l : List Nat} (nd : l.Nodup) {c k : Nat} (h : l[k]? = some c) : l.idxOf c = k := by
  refine idx_first h fun j hj hjc => ?_
  obtain ⟨hk, ek⟩ := List.getElem?_eq_some_iff.mp h
  obtain ⟨hj2, ej⟩ := List.getElem?_eq_some_iff.mp hjc
  exact List.pairwise_iff_getElem.mp nd j k hj2 hk hj (ej.trans ek.symm)
theorem at_idx {l : List Nat} {c : Nat} (h : c ∈ l) : l[l.idxOf c]? = some c := by
  rw [List.getElem?_eq_getElem (List.idxOf_lt_length_of_mem h)]
  exact congrArg some (List.getElem_idxOf _)
section
variable {S : Str}
theorem order_nodup (nd : S.cps.toList.Nodup) (no : 45 ∉ S.cps.toList) : (S.cps.toList ++ [45]).Nodup := by
  rw [List.nodup_append]
  refine ⟨nd, by simp, fun a ha b hb e => ?_⟩
  have : b = 45 := by simpa using hb
  rw [← e] at this
  exact no (this ▸ ha)
theorem kinds_mem {e : Nat × Nat} : ∀ {n : Nat}, e ∈ kindsTo S n → ∃ i, i < n ∧ e ∈ kindsAt S i
  | 0, h => by cases h
  | n + 1, h => by
    rcases List.mem_append.mp (show e ∈ kindsTo S n ++ kindsAt S n from h) with h | h
    · obtain ⟨i, hi, he⟩ := kinds_mem h
      exact ⟨i, by omega, he⟩
    · exact ⟨n, by omega, h⟩
/-- a kind as it is kept: what is known of its sides -/
structure KindOk (S : Str) (a c : Nat) : Prop where
  am : a ∈ S.cps.toList
  cm : c = 45 ∨ c ∈ S.cps.toList
  le : sideAt S a ≤ sideAt S c
theorem kind_ok (nd : S.cps.toList.Nodup) (no : 45 ∉ S.cps.toList) {e : Nat × Nat} (h : e ∈ kindsTo S S.length) : KindOk S e.1 e.2 := by
  have zl : S.cps.toList.length = S.length := Array.length_toList
  obtain ⟨i, hi, he⟩ := kinds_mem h
  unfold kindsAt at he
  obtain ⟨c, hc, rfl⟩ := List.mem_map.mp he
  obtain ⟨a, ha⟩ : ∃ a, S.cps.toList[i]? = some a := ⟨S.cps.toList[i]'(by omega), by simp [show i < S.cps.toList.length by omega]⟩
  have ea : (S.cps.toList[i]?).getD 0 = a := by rw [ha]; rfl
  have od := order_nodup nd no
  have sa : sideAt S a = i := idx_nodup od (by rw [List.getElem?_append_left (by omega)]; exact ha)
  show KindOk S ((S.cps.toList[i]?).getD 0) c
  rw [ea]
  rcases List.mem_append.mp hc with hc | hc
  · obtain ⟨j, hj⟩ := List.mem_iff_getElem?.mp hc
    rw [List.getElem?_drop] at hj
    have hlt : i + j < S.cps.toList.length := (List.getElem?_eq_some_iff.mp hj).1
    have sc : sideAt S c = i + j := idx_nodup od (by rw [List.getElem?_append_left hlt]; exact hj)
    exact ⟨List.mem_of_getElem? ha, .inr (List.mem_of_mem_drop hc), by rw [sa, sc]; omega⟩
  · have e45 : c = 45 := by simpa using hc
    have sc : sideAt S c = S.cps.toList.length := idx_nodup od (by rw [e45, List.getElem?_append_right (Nat.le_refl _), Nat.sub_self]; rfl)
    exact ⟨List.mem_of_getElem? ha, .inl e45, by rw [sa, sc]; omega⟩
theorem side_of {c : Nat} (h : c = 45 ∨ c ∈ S.cps.toList) : sideB S c = true := by
  unfold sideB
  rcases h with h | h
  · rw [decide_eq_true h]; rfl
  · rw [decide_eq_true h, Bool.or_true]
theorem kind_yes (no : 45 ∉ S.cps.toList) {x y a : Nat} (hx : sideB S x = true) (hy : sideB S y = true) (ha : a ∈ S.cps.toList) (h : x = a ∨ y = a) : kindD S (.str (mkS [x, y])) = true := by
  show (decide ((mkS [x, y]).length = 2) && !decide (mkS [x, y] = (⟨#[45, 45]⟩ : Str)) && [x, y].all (sideB S)) = true
  have ne : mkS [x, y] ≠ (⟨#[45, 45]⟩ : Str) := fun z => by
    have e := congrArg (fun q : Str => q.cps.toList) z
    have e : [x, y] = [45, 45] := by simpa using e
    simp at e
    rcases h with h | h
    · exact no (by rw [← e.1, h]; exact ha)
    · exact no (by rw [← e.2, h]; exact ha)
  rw [show (mkS [x, y]).length = 2 from mkS_len [x, y], decide_eq_false ne]
  simp [hx, hy]
theorem kept_first {a c : Nat} (k : KindOk S a c) : keptK S a c = mkS [a, c] := by
  unfold keptK
  rw [if_neg (Nat.not_lt.mpr k.le)]
theorem kept_turned {a c : Nat} (k : KindOk S a c) : keptK S c a = mkS [a, c] := by
  unfold keptK
  by_cases h : sideAt S a < sideAt S c
  · rw [if_pos h]
  · rw [if_neg h]
    have e : sideAt S a = sideAt S c := by have := k.le; omega
    have m1 : a ∈ S.cps.toList ++ [45] := List.mem_append_left _ k.am
    have m2 : c ∈ S.cps.toList ++ [45] := side_mem (side_of k.cm)
    have g1 : (S.cps.toList ++ [45])[sideAt S a]? = some a := at_idx m1
    have g2 : (S.cps.toList ++ [45])[sideAt S c]? = some c := at_idx m2
    rw [e, g2] at g1
    rw [Option.some.inj g1]
end
theorem no_dash {m : Nat} {S : Str} {ps : List (Nat × Nat)} (g : Good m S ps) : 45 ∉ S.cps.toList := fun h => by
  have := g.ab 45 h
  revert this
  decide +kernel
end My
end
section
set_option Elab.async false
set_option linter.all false
set_option maxRecDepth 100000
set_option maxHeartbeats 4000000
/-! B22: enumerate over a text. -/
namespace My
open PySem PySem.Spec PyProof.Rows L2
/-- the signs of a text, each with its place in a new pair -/
def Ites (z : Str) : It := ⟨fun i _ => i < z.cps.size, fun i H v H' => ∃ T c, v = .ref T ∧ H T = none ∧ H' = upd H T (.tup [.int (i : Nat), .str ⟨#[c]⟩]) ∧ z.cps[i]? = some c, fun i _ => i = z.cps.size⟩
theorem turn_enumS {P : Program} {w : World} {K : PySem.W.Frag} {elts : List Expr} {kk : Nat} {tpos : Pos} (e it : Addr) (z : Str) (t : Tok) :
    Turn P w K (.Tuple elts kk tpos) (Ites z) [e, it] e (fun i h => (∃ old, IsEnum h e it ((i : Nat) : Int) old) ∧ h.IsStrIter it (strIterType z) z t i ∧ e ≠ it) where
  mem := by simp
  obj := fun i h st b hb => by
    obtain ⟨⟨old, he⟩, ⟨o, ho, hc, hd⟩, _⟩ := st
    have e' : b = e ∨ b = it := by simpa using hb
    rcases e' with q | q
    · rw [q]; exact ⟨_, he, fun v q => nomatch q⟩
    · rw [q]; exact ⟨o, ho, fun v q => by rw [hd] at q; cases q⟩
  keep := fun i h h' st k => by
    obtain ⟨⟨old, he⟩, ⟨o, ho, r⟩, hne⟩ := st
    exact ⟨⟨old, k e (by simp) _ he⟩, ⟨o, k it (by simp) o ho, r⟩, hne⟩
  item := by
    intro X hP hw hK hc i pins s σ H E I hf st hg
    subst hP hw hK
    obtain ⟨⟨old, he⟩, hit, hne⟩ := st
    have D := Draws.text (prog := X.prog) (w := X.w) (A := X.A.in1) (I.ok.hd hc) it z t
    have hel : e < s.heap.objs.size := Heap.lt_size he
    have hil : it < s.heap.objs.size := by obtain ⟨_, q, _⟩ := hit; exact Heap.lt_size q
    refine wpAny_pyNext_enum_itemC D he hit hg hne (by simpa using hne) fun x h' tk hPx ho hit' hT hsz hk => ?_
    obtain ⟨c, u, hcx, rfl⟩ := hPx
    refine ⟨_, rfl, wpAny_letOwnedTupleGo_enum (s := { s with heap := h', toks := tk + 1 }) ho fun h'' he' sb => ?_⟩
    have hT2 : h''.get? s.heap.objs.size = some { cls := .type "tuple", data := .seq #[.int i tk, .str ⟨#[c]⟩ u] } := (sb.2 _ (Nat.ne_of_gt hel)).trans hT
    have new : ObjOk X.prog X.w (upd H s.heap.objs.size (.tup [.int (i : Nat), .str ⟨#[c]⟩])) h'' s.heap.objs.size (.tup [.int (i : Nat), .str ⟨#[c]⟩]) :=
      ⟨by show 2 ≤ sizeLine; decide, [.int i tk, .str ⟨#[c]⟩ u], .cons ⟨_, rfl⟩ (.cons ⟨_, rfl⟩ .nil), ⟨_, hT2, rfl, _, rfl⟩⟩
    have I1 : Inv X pins σ (upd H s.heap.objs.size (.tup [.int (i : Nat), .str ⟨#[c]⟩])) { s with heap := h'', toks := tk + 1 } :=
      I.turnedNew (ch := [e, it]) (fun b ob hb q => (sb.2 b (fun z => hb (by simp [z]))).trans (hk b ob (fun z => hb (by simp [z])) (fun z => hb (by simp [z])) q)) hf (Nat.le_refl _) new
    refine ⟨.ref s.heap.objs.size, _, I1, rfl, ⟨_, c, rfl, I.hok.fresh (Nat.le_refl _), rfl, hcx⟩, ⟨⟨.str ⟨#[c]⟩ u, ?_⟩, ?_, hne⟩, fun b hb => ?_⟩
    · have e1 : ((i + 1 : Nat) : Int) = (i : Int) + 1 := by omega
      rw [e1]; exact he'
    · obtain ⟨o, q, r⟩ := hit'
      exact ⟨o, (sb.2 it (Ne.symm hne)).trans q, r⟩
    · have hb' : b < s.heap.objs.size := by
        have e' : b = e ∨ b = it := by simpa using hb
        rcases e' with z | z
        · rw [z]; exact hel
        · rw [z]; exact hil
      rw [upd_ne (Nat.ne_of_lt hb')]
      exact (hf b hb).1
  done := by
    intro X hP hw hK hc i pins s σ H E I hf st hg
    subst hP hw hK
    obtain ⟨⟨old, he⟩, hit, hne⟩ := st
    have D := Draws.text (prog := X.prog) (w := X.w) (A := X.A.in1) (I.ok.hd hc) it z t
    have hg : i = z.cps.size := hg
    subst hg
    obtain ⟨f0, f1, f2, f3, f4, f5⟩ := hf it (by simp)
    exact wpAny_pyNext_enum_endD D he hit fun h' eb => ⟨rfl, I.turned (t' := s.toks) (fun b o hb q => eb b o hb q) f0 f1 f3 f4 f5⟩
  self := fun A i s Q E st h => let ⟨⟨_, he⟩, _⟩ := st; wpAny_pyIter_enum he h
def iEnumS (ta : TA) : TI := fun σ H R => ta σ H fun vs H1 => ∃ z, vs = [.str z] ∧ R (Ites z) H1
theorem pi_enumS {X : Cx} {e : Expr} {ta : TA} {p pos tpos : Pos} {elts : List Expr} {kk : Nat} (hg : Gl X "enumerate") (hm : X.mg "enumerate" = none) (ha : PA X [e] ta) (hs : starEach [e] X.env = [(false, eval e X.env)] := by rfl) :
    PI X (.Tuple elts kk tpos) (.Call (.Name "enumerate" p) [e] [] pos) (iEnumS ta) := by
  refine ⟨fun pins s σ H R I h => ?_⟩
  refine Call_ (ld_blt I hg hm boot_enumerate (PyProof.Rows.callWith_type1 (thn (ha.run pos pins s σ H _ I h) fun us s1 ⟨vs, H1, I1, r1, q1⟩ => ?_) hs rfl))
  obtain ⟨z, ex, q⟩ := q1
  subst ex
  cases r1 with
  | cons r rr =>
    cases rr
    obtain ⟨t, rfl⟩ := r
    refine call_enumerate_str fun h' he hit hsz hk => wpAny_pyIter_enum he ?_
    have I2 : Inv X pins σ H1 { s1 with heap := h' } := I1.kept (t' := s1.toks) hk
    refine ⟨s1.heap.objs.size + 1, [s1.heap.objs.size + 1, s1.heap.objs.size], _, _, H1, rfl, I2, turn_enumS (s1.heap.objs.size + 1) s1.heap.objs.size z t, ⟨⟨.none, he⟩, hit, Nat.succ_ne_self _⟩, fun b hb => ?_, q⟩
    have e' : b = s1.heap.objs.size + 1 ∨ b = s1.heap.objs.size := by simpa using hb
    have hle : s1.heap.objs.size ≤ b := by
      rcases e' with z | z
      · rw [z]; exact Nat.le_add_right _ _
      · rw [z]; exact Nat.le_refl _
    exact I1.fpOk hle (I1.hok.fresh hle)
theorem walk_enumS {z : Str} : Walk (Ites z) z.cps.size (fun _ => True) (fun i H v H' => ∃ T c, v = .ref T ∧ New H T (.tup [.int (i : Nat), .str ⟨#[c]⟩]) H' ∧ z.cps.toList[i]? = some c) :=
  ⟨fun _ _ hi _ => hi, fun _ _ => rfl, fun i H v H' _ _ y => by
    obtain ⟨T, c, rfl, hT, rfl, hc⟩ := y
    exact ⟨T, c, rfl, .mk' hT, by simpa using hc⟩⟩
end My
end
section
set_option Elab.async false
set_option linter.all false
set_option maxRecDepth 100000
set_option maxHeartbeats 4000000
namespace My
open PySem PySem.Spec PyProof.Rows L2
/-- the property signs of a font -/
structure SgnC (P : Program) (w : World) (K : PySem.W.Frag) (mg : Str → Option Value) (base : Heap) (C : Addr) : Prop where
  cls : Cls K C
  nS : NoAttr K C "_signs"
  ex : ∃ p g fd, PropOf K C "signs" p g ∧ FnOk P w K mg base CX0 2 g fd ["self"] (getSp C "_signs") ∧ Binds K fd ["self"] []
end My
end
section
set_option Elab.async false
set_option linter.all false
set_option maxRecDepth 100000
set_option maxHeartbeats 4000000
/-! all kinds of a font. -/
namespace My
open PySem PySem.Spec PyProof.Rows L2
abbrev s_allKinds : Stmt := topS 30
def sp_allKinds (C : Addr) : Sp := fun vs H Q _ => ∃ (a : Addr) (S : Str) (ps : List (Nat × Nat)), vs = [.ref a] ∧ FontAt H C a S ps ∧ S.length ≤ 10 ∧ 45 ∉ S.cps.toList ∧ ∀ H' r, Same H H' → H r = none → H' r = some (.lst ((kindsTo S S.length).map kindV)) → Q (.ref r) H'
/-- the kinds of one first side so far -/
def kindsUp (S : Str) (k j : Nat) : List (Nat × Nat) := ((S.cps.toList ++ [45]).drop k |>.take j).map fun c => ((S.cps.toList[k]?).getD 0, c)
theorem kindsUp_all {S : Str} {k : Nat} (h : k < S.length) : kindsUp S k (S.length + 1 - k) = kindsAt S k := by
  have hl : S.cps.toList.length = S.length := Array.length_toList
  unfold kindsUp kindsAt
  rw [List.drop_append_of_le_length (by omega), List.take_of_length_le]
  rw [List.length_append, List.length_drop]
  simp only [List.length_cons, List.length_nil]
  omega
section
variable {P : Program} {w : World} {K : PySem.W.Frag} {mg : Str → Option Value} {base : Heap}
abbrev NAk : List Str := ["font", "sides", "at", "one", "other"]
theorem sc_allKinds : FnScope NAk ["font"] (defScope s_allKinds) := ⟨rfl, rfl, rfl, by decide +kernel, rfl, by decide +kernel, by decide +kernel⟩
theorem ok_allKinds {f C : Addr} {fd : FuncData} {tB : Tok} (F : Fun K "all_kinds" "all_kinds" s_allKinds f fd) (sg_ : SgnC P w K mg base C) (ten : mg "enumerate" = none) (gB : mg "BLANK" = some (.str "-" tB)) : FnOk P w K mg base CX0 4 f fd ["font"] (sp_allKinds C) := by
  obtain ⟨p1, g1, fd1, hp1, G1, b1⟩ := sg_.ex
  refine F.ok sc_allKinds (fun vs H Q E h => ?_) (fun cdv A outer s H vs Q E hr h => ?_)
  · obtain ⟨a, S, ps, rfl, _⟩ := h
    rfl
  · obtain ⟨a, S, ps, rfl, hF, hS, no, k⟩ := h
    obtain ⟨dx, r, ys, h1, h2, h3⟩ := hF.at_
    have zl : S.cps.toList.length = S.length := Array.length_toList
    refine ⟨_, PSs.nox (pss_cons (ps_set (i := 1) sc_allKinds.nd rfl (Or.inr rfl) (pe_op op_add_str (pe_prop (E := E0) (pv 0) sg_.cls hp1 G1 hr b1 .nil pass0 rfl) (pe_glob (v := .str "-") rfl gB ⟨_, rfl⟩)))
      (pss_one (ps_ret (by exact (pe_lc2 (own := [("at", 2), ("one", 3), ("other", 4)]) (vs1 := [4]) (g := gTup K 2 (gCons (gName 2) (gCons (gName 3) gNil))) (tt := tYes) (g1 := gName 4) rfl sc_allKinds.nd (pi_enumS rfl ten (pa_cons (pv 1) pa_nil))
        (blkOk_by (own := [("at", 2), ("one", 3), ("other", 4)]) (N := NAk) (sc := defScope s_allKinds) (by decide +kernel)) (by decide)
        (fun _ _ _ _ _ => pg_tup rfl (pgs_cons (pg_name (i := 2) sc_allKinds.nd rfl (Or.inl rfl)) (pgs_cons (pg_name (i := 3) sc_allKinds.nd rfl (Or.inl rfl)) pgs_nil))) (fun _ _ _ _ _ => pts_nil)
        (fun _ _ _ _ _ => pi_str (pe_slice sl_str (pv 1) (po_some (pv 2)) po_none))
        (fun _ _ _ _ _ => pg_name (i := 4) sc_allKinds.nd rfl (Or.inl rfl)) (fun _ _ _ _ _ => pts_one (pt_cmpR op_ne (pv 3) (pe_glob (v := .str "-") rfl gB ⟨_, rfl⟩) (nomark _)))
        (fun _ _ _ _ _ => pe_op op_add_str (pv 3) (pv 4))))))), ?_⟩
    have gS : ∀ (Q : VK), Q (.str S) H → getSp C "_signs" [.ref a] H Q E0 := fun Q q => ⟨a, dx, _, _, rfl, h1, fs_signs S r, q⟩
    have l1 : (PySem.Str.ofString "-").length = 1 := by decide
    refine ⟨_, rfl, a, dx, _, rfl, h1, gS _ ⟨_, _, rfl, rfl, by rw [l1]; exact Nat.le_trans (show S.length + 1 ≤ 11 by omega) (by decide), ?_⟩⟩
    have oz : (S ++ PySem.Str.ofString "-").cps.toList = S.cps.toList ++ [45] := order_cps S
    have ol : (S ++ PySem.Str.ofString "-").cps.size = S.length + 1 := by
      rw [← Array.length_toList, oz, List.length_append, zl]; rfl
    have ol2 : (S ++ PySem.Str.ofString "-").length ≤ sizeLine := by
      show (S ++ PySem.Str.ofString "-").cps.size ≤ _
      rw [ol]
      exact Nat.le_trans (show S.length + 1 ≤ 11 by omega) (by decide)
    generalize S ++ PySem.Str.ofString "-" = O at oz ol ol2
    refine ⟨_, rfl, O, rfl, fun D hD => lcw walk_enumS (fun i H' => Same H H' ∧ H' D = some (.lst ((kindsTo S (min i S.length)).map kindV)))
      ⟨Same.wr (Same.refl H) hD .mk', by rw [upd_same, Nat.zero_min]; rfl⟩ (fun _ _ _ _ => trivial) ?_ ?_⟩
    · rintro i x Ha Hb hi ⟨sa, ha⟩ ⟨T, c, rfl, nT, hc⟩
      rw [ol] at hi
      have sb := sa.trans nT.same
      have hb := nT.same _ _ ha
      have hT : Hb T = some (.tup [.int (i : Nat), .str ⟨#[c]⟩]) := nT.here
      refine ⟨T, _, rfl, SqT.of hT, rfl, _, _, rfl, _, _, rfl, rfl, rfl, ?_⟩
      unfold tYes
      show (if true = true then _ else _)
      rw [if_pos rfl]
      refine ⟨_, rfl, _, rfl, _, rfl, O, rfl, ol2, cutS O (some ((i : Nat) : Int)) none, rfl, ?_⟩
      have cz : (cutS O (some ((i : Nat) : Int)) none).cps.toList = (S.cps.toList ++ [45]).drop i := by rw [cut_from, oz]
      have kt := kindsTo_len S hS
      have kl := kindsAt_len S hS
      have cl : (signs (cutS O (some ((i : Nat) : Int)) none)).length = S.length + 1 - i := by
        unfold signs
        rw [List.length_map, cz, List.length_drop, List.length_append, zl]
        rfl
      refine lcw walk_signs (fun j H' => Same H H' ∧ H' D = some (.lst ((kindsTo S (min i S.length) ++ (if i < S.length then kindsUp S i j else [])).map kindV))) ⟨sb, by rw [hb]; simp [kindsUp]⟩ (fun _ _ _ _ => trivial) ?_ ?_
      · rintro j x Hc Hd hj ⟨sc, hc'⟩ ⟨rfl, hx⟩
        obtain ⟨ch, hch, rfl⟩ : ∃ ch, ((S.cps.toList ++ [45]).drop i)[j]? = some ch ∧ x = sg ch := by
          unfold signs at hx
          rw [List.getElem?_map, cz] at hx
          obtain ⟨ch, h1, h2⟩ := Option.map_eq_some_iff.mp hx
          exact ⟨ch, h1, h2.symm⟩
        refine ⟨rfl, _, rfl, rfl, _, rfl, ?_⟩
        rw [oz] at hc
        have d45 := dash_sg c
        by_cases hlt : i < S.length
        · have hc2 : S.cps.toList[i]? = some c := by rw [List.getElem?_append_left (by omega)] at hc; exact hc
          have ne : c ≠ 45 := fun e => no (e ▸ List.mem_of_getElem? hc2)
          have e1 : decide (sg c = V.str (PySem.Str.ofString "-")) = false := by rw [d45]; exact decide_eq_false ne
          have e2 : (!decide (sg c = V.str (PySem.Str.ofString "-"))) = true := by rw [e1]; rfl
          refine ite2 (fun _ => ?_) (fun h => absurd e2 h)
          rw [if_pos hlt] at hc'
          refine ⟨_, rfl, _, rfl, _, _, rfl, rfl, by show 1 + 1 ≤ sizeLine; decide, _, hc', ?_, Same.wr sc hD .mk', ?_⟩
          · rw [List.length_map, List.length_append]
            have := kt (min i S.length)
            have u : (kindsUp S i j).length ≤ 11 := by
              unfold kindsUp
              rw [List.length_map, List.length_take, List.length_drop, List.length_append, zl]
              simp only [List.length_cons, List.length_nil]
              omega
            exact Nat.lt_of_le_of_lt (show _ ≤ 200 by omega) (by decide)
          · rw [upd_same, if_pos hlt]
            have nx : kindsUp S i (j + 1) = kindsUp S i j ++ [(c, ch)] := by
              unfold kindsUp
              rw [List.take_add_one, hch, List.map_append, hc2]
              rfl
            rw [nx, ← List.append_assoc, List.map_append (l₁ := kindsTo S (min i S.length) ++ kindsUp S i j)]
            rfl
        · have hi2 : i = S.length := by omega
          have hc2 : c = 45 := by
            rw [List.getElem?_append_right (by omega), zl, hi2, Nat.sub_self] at hc
            exact (Option.some.inj hc).symm
          have e2 : ¬ (!decide (sg c = V.str (PySem.Str.ofString "-"))) = true := by rw [d45, hc2]; decide
          refine ite2 (fun h => absurd h e2) (fun _ => ⟨sc, ?_⟩)
          rw [if_neg hlt] at hc' ⊢
          exact hc'
      · rintro Hc ⟨sc, hc'⟩
        refine ⟨sc, ?_⟩
        rw [hc']
        by_cases hlt : i < S.length
        · rw [if_pos hlt, cl, kindsUp_all hlt, Nat.min_eq_left (by omega), Nat.min_eq_left (by omega)]
          rfl
        · rw [if_neg hlt, Nat.min_eq_right (by omega), Nat.min_eq_right (by omega), List.append_nil]
    · rintro H' ⟨s', h'⟩
      rw [ol, Nat.min_eq_right (by omega)] at h'
      exact k H' D s' hD h'
end
end My
end
section
set_option Elab.async false
set_option linter.all false
set_option maxRecDepth 100000
set_option maxHeartbeats 4000000
namespace My
open PySem PySem.Spec PyProof.Rows L2
abbrev s_isInt : Stmt := topS 3
abbrev s_isNum : Stmt := topS 4
def intD : PyData → Bool | .int _ => true | _ => false
theorem kit_int {K : PySem.W.Frag} (d : PyData) : PySem.W.kitOne K (.type (tyName d)) (.type "int") = some (match d with | .int _ => true | .bool _ => true | _ => false) := by
  cases d
  · exact kit_ty (show kitB "NoneType" "int" = some false by decide +kernel)
  · exact kit_ty (show kitB "bool" "int" = some true by decide +kernel)
  · exact kit_ty (show kitB "int" "int" = some true by decide +kernel)
  · exact kit_ty (show kitB "str" "int" = some false by decide +kernel)
  · exact kit_ty (show kitB "list" "int" = some false by decide +kernel)
  · exact kit_ty (show kitB "tuple" "int" = some false by decide +kernel)
  · exact kit_ty (show kitB "dict" "int" = some false by decide +kernel)
theorem kit_bool {K : PySem.W.Frag} (d : PyData) : PySem.W.kitOne K (.type (tyName d)) (.type "bool") = some (match d with | .bool _ => true | _ => false) := by
  cases d
  · exact kit_ty (show kitB "NoneType" "bool" = some false by decide +kernel)
  · exact kit_ty (show kitB "bool" "bool" = some true by decide +kernel)
  · exact kit_ty (show kitB "int" "bool" = some false by decide +kernel)
  · exact kit_ty (show kitB "str" "bool" = some false by decide +kernel)
  · exact kit_ty (show kitB "list" "bool" = some false by decide +kernel)
  · exact kit_ty (show kitB "tuple" "bool" = some false by decide +kernel)
  · exact kit_ty (show kitB "dict" "bool" = some false by decide +kernel)
def sp_isInt (K : PySem.W.Frag) : Sp := fun vs H Q _ => ∃ (v : V) (d : PyData) (p : Addr), vs = [v] ∧ Rp K p H false v d ∧ Q (.bl (intD d)) H
/-- an upper bound: None, or a number -/
def upTo : Option Int → V | none => .non | some j => .int j
def below (i : Int) : Option Int → Bool | none => true | some j => decide (i ≤ j)
def numD (lo : Int) (hi : Option Int) : PyData → Bool
  | .int i => decide (lo ≤ i) && below i hi
  | _ => false
def sp_isNum (K : PySem.W.Frag) : Sp := fun vs H Q _ => ∃ (v : V) (d : PyData) (p : Addr) (lo : Int) (hi : Option Int), vs = [v, .int lo, upTo hi] ∧ Rp K p H false v d ∧ Q (.bl (numD lo hi d)) H
/-- 10 ** 30 -/
def big30 : Int := 1000000000000000000000000000000
section
variable {P : Program} {w : World} {K : PySem.W.Frag} {mg : Str → Option Value} {base : Heap}
theorem sc_isInt : FnScope ["value"] ["value"] (defScope s_isInt) := ⟨rfl, rfl, rfl, by decide +kernel, rfl, by decide +kernel, by decide +kernel⟩
theorem ok_isInt {f : Addr} {fd : FuncData} (F : Fun K "is_integer" "is_integer" s_isInt f fd) (T : TB mg) (tb : mg "bool" = none) : FnOk P w K mg base CX0 1 f fd ["value"] (sp_isInt K) := by
  refine F.ok sc_isInt (fun vs H Q E h => ?_) (fun cdv A outer s H vs Q E hr h => ?_)
  · obtain ⟨v, d, p, rfl, _⟩ := h
    rfl
  · obtain ⟨v, d, p, rfl, hd, k⟩ := h
    refine ⟨_, pss_one (ps_ret (pe_and (pe_callB call_isi (by rfl) T.isi (by decide +kernel) (pa_cons (pv 0) (pa_cons (pe_bltn (v := .ty "int") (by rfl) T.int (by decide +kernel) rfl) pa_nil)))
      (pe_one (pe_not (pe_callB call_isi (by rfl) T.isi (by decide +kernel) (pa_cons (pv 0) (pa_cons (pe_bltn (v := .ty "bool") (by rfl) tb (by decide +kernel) rfl) pa_nil))))))), ?_⟩
    refine ⟨_, rfl, _, _, _, _, _, rfl, .ty "int", hd.ty, kit_int d, _, rfl, ?_⟩
    cases d <;> first
      | exact iteF k
      | (refine iteT ?_
         exact ⟨_, rfl, _, _, _, _, _, rfl, .ty "bool", hd.ty, kit_bool _, _, rfl, k⟩)
theorem sc_isNum : FnScope ["value", "least", "greatest"] ["value", "least", "greatest"] (defScope s_isNum) := ⟨rfl, rfl, rfl, by decide +kernel, rfl, by decide +kernel, by decide +kernel⟩
theorem ok_isNum {f fI : Addr} {fd fdI : FuncData} {dvs : List V} (F : FunD K "is_number" "is_number" (defArgs s_isNum) (defBody s_isNum) (defScope s_isNum) dvs [] f fd) (D : Def K mg "is_integer" fI fdI ["value"]) (G : FnOk P w K mg base CX0 1 fI fdI ["value"] (sp_isInt K)) :
    FnOk P w K mg base CX0 2 f fd ["value", "least", "greatest"] (sp_isNum K) := by
  refine F.ok sc_isNum (fun vs H Q E h => ?_) (fun cdv A outer s H vs Q E hr h => ?_)
  · obtain ⟨v, d, p, lo, hi, rfl, _⟩ := h
    rfl
  · obtain ⟨v, d, p, lo, hi, rfl, hd, k⟩ := h
    refine ⟨_, PSs.nox (pss_cons (ps_if (PW.pt (pw_or (pt_not (pt_val (pe_call G hr rfl D.mgf D.kp D.bd .nil pass0 (pa_cons (pv 0) pa_nil)))) (pw_or1 (pt_cmpR op_lt (pv 0) (pv 1) (nomark _))))) (pss_one (ps_ret pe_bl)) pss_nil)
      (pss_one (ps_ret (pe_or (pe_cmp (pc_isN (pv 2)) rfl) (pe_one (pe_cmpR op_le (pv 0) (pv 2) (nomark _))))))), ?_⟩
    refine ⟨_, rfl, v, d, p, rfl, hd, _, rfl, ?_⟩
    cases d with
    | int i =>
      cases hd
      refine iteF ⟨_, rfl, _, rfl, _, _, rfl, rfl, _, rfl, ?_⟩
      have k : Q (.bl (decide (lo ≤ i) && below i hi)) H := k
      refine ite2 (fun t => ?_) (fun t => ?_)
      · have t := of_decide_eq_true t
        rw [decide_eq_false (by omega), Bool.false_and] at k
        exact k
      · have t : ¬ i < lo := fun z => t (decide_eq_true z)
        rw [decide_eq_true (by omega), Bool.true_and] at k
        cases hi with
        | none => exact ⟨_, rfl, _, rfl, iteT k⟩
        | some j => exact ⟨_, rfl, _, rfl, iteF ⟨_, rfl, _, rfl, _, _, rfl, rfl, k⟩⟩
    | _ => exact iteT k
end
end My
end
section
set_option Elab.async false
set_option linter.all false
set_option maxRecDepth 100000
set_option maxHeartbeats 4000000
/-! an entry of a list of plates. -/
namespace My
open PySem PySem.Spec PyProof.Rows L2
abbrev c_cls : Stmt := topS 33
abbrev s_isEntry : Stmt := topS 36
/-- whether data is an entry of plates -/
def entD (S : Str) : PyData → Bool
  | .tuple [x, y] => kindD S x && numD 1 (some big30) y
  | _ => false
theorem entD_len (S : Str) {ds : List PyData} (h : ds.length ≠ 2) : entD S (.tuple ds) = false := by
  match ds, h with
  | [], _ => rfl
  | [_], _ => rfl
  | [_, _], h => exact absurd rfl h
  | _ :: _ :: _ :: _, _ => rfl
def sp_isEntry (K : PySem.W.Frag) (C : Addr) : Sp := fun vs H Q _ => ∃ (a p : Addr) (S : Str) (ps : List (Nat × Nat)) (v : V) (d : PyData), vs = [.ref a, v] ∧ FontAt H C a S ps ∧ Rp K p H false v d ∧ fit d = true ∧ ∀ H', Same H H' → Q (.bl (entD S d)) H'
section
variable {P : Program} {w : World} {K : PySem.W.Frag} {mg : Str → Option Value} {base : Heap}
theorem sc_isEntry : FnScope ["font", "value"] ["font", "value"] (defScope s_isEntry) := ⟨rfl, rfl, rfl, by decide +kernel, rfl, by decide +kernel, by decide +kernel⟩
theorem ok_isEntry {f C CC fK fN : Addr} {fd fdK fdN : FuncData} (F : Fun K "_is_entry" "_is_entry" s_isEntry f fd) (T : TB mg) (sg_ : SgnC P w K mg base C) (DK : Def K mg "is_kind" fK fdK ["signs", "value"]) (GK : FnOk P w K mg base CX0 1 fK fdK ["signs", "value"] (sp_isKind K))
    (DN : Def K mg "is_number" fN fdN ["value", "least", "greatest"]) (GN : FnOk P w K mg base CX0 2 fN fdN ["value", "least", "greatest"] (sp_isNum K)) (gC : mg "Case" = some (.ref CC)) (cM : ClassV K CC "MAX_COUNT" (.int big30)) : FnOk P w K mg base CX0 4 f fd ["font", "value"] (sp_isEntry K C) := by
  obtain ⟨p1, g1, fd1, hp1, G1, b1⟩ := sg_.ex
  refine F.ok sc_isEntry (fun vs H Q E h => ?_) (fun cdv A outer s H vs Q E hr h => ?_)
  · obtain ⟨a, p, S, ps, v, d, rfl, _⟩ := h
    rfl
  · obtain ⟨a, p, S, ps, v, d, rfl, hF, hd, hf, k⟩ := h
    obtain ⟨dx, r, ys, h1, h2, h3⟩ := hF.at_
    obtain ⟨mc, u, c1, c2⟩ := cM.ok
    have r2 : Room 2 _ := hr.mono (by decide)
    have r1 : Room 1 _ := hr.mono (by decide)
    refine ⟨_, PSs.nox (pss_cons (ps_if (PW.pt (pw_or (pt_not (pt_val (pe_callB call_isi (by rfl) T.isi (by decide +kernel) (pa_cons (pv 1) (pa_cons (pe_bltn (v := .ty "tuple") (by rfl) T.tuple (by decide +kernel) rfl) pa_nil)))))
        (pw_or1 (pt_cmpR op_ne (pe_callB call_len_seq (by rfl) T.len PySem.boot_len (pa_cons (pv 1) pa_nil)) pe_int (nomark _))))) (pss_one (ps_ret pe_bl)) pss_nil)
      (pss_one (ps_ret (pe_and (pe_call (E := E0) GK r1 rfl DK.mgf DK.kp DK.bd .nil pass0 (pa_cons (pe_prop (E := E0) (pv 0) sg_.cls hp1 G1 hr b1 .nil pass0 rfl) (pa_cons (pe_ix ix_tup (pv 1) pe_int (fun _ _ => rfl)) pa_nil)))
        (pe_one (pe_call (E := E0) GN r2 rfl DN.mgf DN.kp DN.bd .nil pass0 (pa_cons (pe_ix ix_tup (pv 1) pe_int (fun _ _ => rfl)) (pa_cons pe_int (pa_cons (ClX.pe_cval (pe_glob (v := .ref CC) rfl gC rfl)) pa_nil))))))))), ?_⟩
    have gS : ∀ (Q : VK), Q (.str S) H → getSp C "_signs" [.ref a] H Q E0 := fun Q q => ⟨a, dx, _, _, rfl, h1, fs_signs S r, q⟩
    refine ⟨_, rfl, _, _, _, _, _, rfl, .ty "tuple", hd.ty, kit_tup d, _, rfl, ?_⟩
    cases d with
    | tuple ds =>
      obtain ⟨q, xs, st2, rfl, hq, hr2⟩ := hd.tupS
      simp only [fit, Bool.and_eq_true, decide_eq_true_eq] at hf
      have hlen := hr2.len
      refine iteF ⟨_, rfl, q, xs, rfl, .inr hq, rfl, _, rfl, ?_⟩
      refine ite2 (fun h1' => ?_) (fun h1' => ?_)
      · have h2 : ds.length ≠ 2 := fun e => by rw [hlen, e] at h1'; simp at h1'
        have e := entD_len S h2
        rw [e] at k
        exact k H (Same.refl H)
      · have h2 : xs.length = 2 := by
          by_cases e : xs.length = 2
          · exact e
          · refine absurd ?_ h1'
            rw [decide_eq_false (fun q => e (by injection q with q; omega))]
            rfl
        match xs, ds, h2, hr2, hlen with
        | [x, y], [d1, d2], _, .cons hx (.cons hy _), _ =>
          have ft := hf.2
          simp only [fitAll, Bool.and_eq_true] at ft
          obtain ⟨f1, f2, _⟩ := ft
          refine ⟨_, rfl, a, dx, _, rfl, h1, gS _ ⟨_, rfl, q, _, _, x, rfl, rfl, hq, rfl, S, x, d1, p, rfl, hx.loose2, fit.text f1, fun H1 s1 => ⟨_, rfl, ?_⟩⟩⟩
          have k : ∀ (H' : Hp), Same H H' → Q (.bl (kindD S d1 && numD 1 (some big30) d2)) H' := k
          cases hk : kindD S d1 with
          | false =>
            rw [hk] at k
            exact iteF (k H1 s1)
          | true =>
            rw [hk, Bool.true_and] at k
            refine iteT ?_
            exact ⟨_, rfl, q, _, _, y, rfl, rfl, s1.tupl hq, rfl, CC, mc, _, u, rfl, c1, c2, y, d2, p, 1, some big30, rfl, (hy.but (.of s1)).loose2, k H1 s1⟩
    | _ => exact iteT (k H (Same.refl H))
end
end My
end
section
set_option Elab.async false
set_option linter.all false
set_option maxRecDepth 100000
set_option maxHeartbeats 4000000
/-! the counts of a list of plates. -/
namespace My
open PySem PySem.Spec PyProof.Rows L2
abbrev s_counted : Stmt := topS 35
/-- a kind as it is kept -/
def keptZ (S z : Str) : Str := match z.cps.toList with
  | [x, y] => keptK S x y
  | _ => z
/-- all kinds, as texts -/
def ksS (S : Str) : List Str := (kindsTo S S.length).map fun e => mkS [e.1, e.2]
theorem ksS_V (S : Str) : (kindsTo S S.length).map kindV = (ksS S).map V.str := by
  unfold ksS
  rw [List.map_map]
  rfl
theorem ksS_len {S : Str} (h : S.length ≤ 10) : (ksS S).length ≤ 110 := by
  unfold ksS
  rw [List.length_map]
  have := kindsTo_len S h S.length
  omega
theorem kinds_nd {S : Str} (nd : S.cps.toList.Nodup) (no : 45 ∉ S.cps.toList) : ∀ n, n ≤ S.length → (kindsTo S n).Nodup
  | 0, _ => List.nodup_nil
  | n + 1, h => by
    have zl : S.cps.toList.length = S.length := Array.length_toList
    have od := order_nodup nd no
    show (kindsTo S n ++ kindsAt S n).Nodup
    rw [List.nodup_append]
    refine ⟨kinds_nd nd no n (by omega), ?_, ?_⟩
    · unfold kindsAt
      refine nodup_map (fun a b e => (Prod.mk.inj e).2) ?_
      have : (S.cps.toList.drop n ++ [45]) = (S.cps.toList ++ [45]).drop n := by rw [List.drop_append_of_le_length (by omega)]
      rw [this]
      exact od.sublist (List.drop_sublist _ _)
    · intro x hx y hy e
      subst e
      obtain ⟨i, hi, he⟩ := kinds_mem hx
      unfold kindsAt at he hy
      obtain ⟨c1, _, rfl⟩ := List.mem_map.mp he
      obtain ⟨c2, _, e2⟩ := List.mem_map.mp hy
      have e2 := (Prod.mk.inj e2).1
      obtain ⟨a, ha⟩ : ∃ a, S.cps.toList[i]? = some a := ⟨S.cps.toList[i]'(by omega), by simp [show i < S.cps.toList.length by omega]⟩
      obtain ⟨b, hb⟩ : ∃ b, S.cps.toList[n]? = some b := ⟨S.cps.toList[n]'(by omega), by simp [show n < S.cps.toList.length by omega]⟩
      rw [ha, hb] at e2
      have e2 : b = a := e2
      rw [e2, ← ha] at hb
      have := (List.getElem?_inj (show n < S.cps.toList.length by omega) nd).mp hb
      omega
theorem ksS_nd {S : Str} (nd : S.cps.toList.Nodup) (no : 45 ∉ S.cps.toList) : (ksS S).Nodup := by
  unfold ksS
  refine nodup_map (fun a b e => ?_) (kinds_nd nd no _ (Nat.le_refl _))
  have e : ([a.1, a.2] : List Nat) = [b.1, b.2] := by
    have h := congrArg (fun z : Str => z.cps.toList) e
    simpa using h
  obtain ⟨a1, a2⟩ := a
  obtain ⟨b1, b2⟩ := b
  simp at e
  rw [e.1, e.2]
/-- entries at their places -/
abbrev EntAt (H : Hp) (es : List (Str × Int)) (ys : List V) : Prop := Paired (fun e y => ∃ q, y = V.ref q ∧ H q = some (.tup [.str e.1, .int e.2])) es ys
theorem EntAt.same {H H1 : Hp} {es : List (Str × Int)} {ys : List V} (s : Same H H1) (h : EntAt H es ys) : EntAt H1 es ys := Paired.map (fun e y hy => by
  obtain ⟨q, e1, e2⟩ := hy
  exact ⟨q, e1, s _ _ e2⟩) h
/-- the counts of these entries -/
def cntd (S : Str) (es : List (Str × Int)) : List (Str × Int) := ((ksS S).filter fun k => (ctK (es.map fun e => (keptZ S e.1, e.2)) k).isSome).map fun k => (k, (ctK (es.map fun e => (keptZ S e.1, e.2)) k).getD 0)
/-- entries that are right -/
structure EntOk (S : Str) (es : List (Str × Int)) : Prop where
  kind : ∀ e ∈ es, kindD S (.str e.1) = true
  bd : ∀ e ∈ es, 1 ≤ e.2 ∧ e.2 ≤ big30
  nd : (es.map fun e => keptZ S e.1).Nodup
  len : es.length ≤ 4000
def sp_counted (K : PySem.W.Frag) (C : Addr) : Sp := fun vs H Q _ => ∃ (a b p : Addr) (d : PyData) (S : Str) (ps : List (Nat × Nat)) (es : List (Str × Int)) (ys : List V), vs = [.ref a, .ref b] ∧ Rp K p H false (.ref b) d ∧ isSeqD d = true ∧ FontAt H C a S ps ∧ S.length ≤ 10 ∧ S.cps.toList.Nodup ∧ 45 ∉ S.cps.toList ∧ (SqL K H b ys ∨ SqT K H b ys) ∧ EntAt H es ys ∧ EntOk S es ∧
  ∀ H' r, Same H H' → H r = none → H' r = some (.dK (toS (cntd S es))) → Q (.ref r) H'
section
variable {P : Program} {w : World} {K : PySem.W.Frag} {mg : Str → Option Value} {base : Heap}
abbrev NCo : List Str := ["font", "plates", "counts", "entry", "kind"]
theorem sc_counted : FnScope NCo ["font", "plates"] (defScope s_counted) := ⟨rfl, rfl, rfl, by decide +kernel, rfl, by decide +kernel, by decide +kernel⟩
theorem ok_counted {f C IK fL fE fA fK : Addr} {fd fdL fdE fdA fdK : FuncData} (F : Fun K "_counted" "_counted" s_counted f fd) (T : TB mg) (c : Cls K C)
    (DL : Def K mg "is_listed" fL fdL ["value"]) (GL : FnOk P w K mg base CX0 1 fL fdL ["value"] (sp_isListed K)) (DE : Def K mg "_is_entry" fE fdE ["font", "value"]) (GE : FnOk P w K mg base CX0 4 fE fdE ["font", "value"] (sp_isEntry K C))
    (DA : Def K mg "all_kinds" fA fdA ["font"]) (GA : FnOk P w K mg base CX0 4 fA fdA ["font"] (sp_allKinds C))
    (MK : Meth K C "kept" fK) (GK : FnOk P w K mg base (L2.CX P w) 2 fK fdK ["self", "kind"] (sp_keptM K C IK)) (bK : Binds K fdK ["self", "kind"] []) : FnOk P w K mg base CX0 5 f fd ["font", "plates"] (sp_counted K C) := by
  refine F.ok sc_counted (fun vs H Q E h => ?_) (fun cdv A outer s H vs Q E hr h => ?_)
  · obtain ⟨a, b, p, d, S, ps, es, ys, rfl, _⟩ := h
    rfl
  · obtain ⟨a, b, p, d, S, ps, es, ys, rfl, hd, hsd, hF, hS, nd, no, hsq, hE, ok, k⟩ := h
    have hu := hu_of hr
    have r1 : Room 1 _ := hr.mono (by decide)
    have r2 : Room 2 _ := hr.mono (by decide)
    refine ⟨_, PSs.nox (pss_cons (ps_if (pt_not (pt_val (pe_call GL r1 rfl DL.mgf DL.kp DL.bd .nil pass0 (pa_cons (pv 1) pa_nil)))) (pss_one ps_never) pss_nil)
      (pss_cons (ps_set (i := 2) sc_counted.nd rfl (Or.inr rfl) pe_dnew')
      (pss_cons (ps_for PassesOwn.never rfl (pi_seq (pv 1)) (pg_name (i := 3) sc_counted.nd rfl (Or.inl rfl))
        (pss_cons (ps_if (PW.pt (pw_or (pt_not (pt_val (pe_call GE hr rfl DE.mgf DE.kp DE.bd .nil pass0 (pa_cons (pv 0) (pa_cons (pv 3) pa_nil)))))
            (pw_or1 (pt_cmp (pc_din hu (pe_meth (C := C) (E := E0) (pv 0) c MK GK r2 bK .nil passN (pa_cons (pe_ix ix_tup (pv 3) pe_int (fun _ _ => rfl)) pa_nil)) (pv 2))))))
          (pss_one ps_never) pss_nil)
        (pss_one (ps_dput hu (pv 2) (pe_meth (C := C) (E := E0) (pv 0) c MK GK r2 bK .nil passN (pa_cons (pe_ix ix_tup (pv 3) pe_int (fun _ _ => rfl)) pa_nil)) (pe_ix ix_tup (pv 3) pe_int (fun _ _ => rfl)) rfl))))
      (pss_one (ps_ret (by exact (pe_dc (own := [("kind", 4)]) (g := gName 4) rfl sc_counted.nd (pi_list (pe_call GA hr rfl DA.mgf DA.kp DA.bd .nil pass0 (pa_cons (pv 0) pa_nil))) (blkOk_by (own := [("kind", 4)]) (N := NCo) (sc := defScope s_counted) (by decide +kernel))
        (fun _ _ _ _ _ => pg_name (i := 4) sc_counted.nd rfl (Or.inl rfl)) (fun _ _ _ _ _ => pts_one (pt_cmp (pc_din hu (pv 4) (pv 2)))) (fun _ _ _ _ _ => pv 4) (fun _ _ _ _ _ => pe_dget hu (pv 2) (pv 4) (fun _ _ => rfl))))))))), ?_⟩
    have all := fun (i : Nat) (e : Str × Int) (he : es[i]? = some e) => ok.kind e (List.mem_of_getElem? he)
    have el : es.length = ys.length := Paired.length hE
    obtain ⟨dx, r, fys, h1, h2, h3⟩ := hF.at_
    refine ⟨_, rfl, .ref b, d, p, rfl, hd, fun H1 s1 => ⟨_, rfl, ?_⟩⟩
    rw [hsd]
    refine iteF (fun D H2 n2 => ?_)
    have s2 : Same H H2 := s1.trans n2.same
    have fD : H D = none := s1.free n2.free
    show tFor (iSeq K (tVar 1)) (gName 3) _ _ [some (.ref a), some (.ref b), some (.ref D), none, none] H2
    refine tFor_seq (H0 := H) (fun C h => ⟨_, rfl, h⟩) hsq (fun i σ H' => ∃ (pr : Option V), σ = [some (.ref a), some (.ref b), some (.ref D), pr, none] ∧ Same H H' ∧ H' D = some (.dK (toS ((es.take i).map fun e => (keptZ S e.1, e.2)))))
      ⟨none, rfl, s2, n2.here⟩ (fun i σ' H' q => by obtain ⟨_, _, q, _⟩ := q; exact q) ?_ ?_
    · rintro i x σ H3 hi hx ⟨pr, rfl, s3, hD⟩
      obtain ⟨e, he, q, rfl, hq⟩ := Paired.at hE hx
      have hk := all i e he
      have hb := ok.bd e (List.mem_of_getElem? he)
      obtain ⟨x, y, ez, bx, by_, _⟩ := kind_two hk
      have hz : e.1.length = 2 := by rw [ez, mkS_len]; rfl
      have ent : entD S (.tuple [.str e.1, .int e.2]) = true := by
        show (kindD S (.str e.1) && (decide (1 ≤ e.2) && decide (e.2 ≤ big30))) = true
        rw [hk, decide_eq_true hb.1, decide_eq_true hb.2]
        rfl
      have rp : ∀ H', Same H H' → Rp K (q + 1) H' false (.ref q) (.tuple [.str e.1, .int e.2]) := fun H' s => .tup (s _ _ hq) (Nat.succ_ne_self q).symm (.cons (.str _ _) (.cons (.int _ _) (.nil _)))
      have ft : fit (.tuple [.str e.1, .int e.2]) = true := by
        simp [fit, fitAll, hz]
      have kz : keptZ S e.1 = keptK S x y := by rw [ez]; rfl
      refine ⟨_, rfl, _, rfl, a, q + 1, S, ps, .ref q, _, rfl, hF.same s3, rp _ s3, ft, fun H4 s4 => ⟨_, rfl, ?_⟩⟩
      rw [ent]
      have s34 := s3.trans s4
      have hD4 := s4 _ _ hD
      refine iteF ⟨_, rfl, a, dx, _, rfl, s34 _ _ h1, rfl, _, rfl, q, _, _, _, rfl, rfl, SqT.of (s34 _ _ hq), at0 _ _, ?_⟩
      have nx : (es.take (i + 1)).map (fun e => (keptZ S e.1, e.2)) = (es.take i).map (fun e => (keptZ S e.1, e.2)) ++ [(keptZ S e.1, e.2)] := by
        rw [List.take_add_one, he, List.map_append]
        rfl
      have new : keptZ S e.1 ∉ ((es.take i).map fun e => (keptZ S e.1, e.2)).map (·.1) := by
        rw [List.map_map]
        intro m
        obtain ⟨e2, h2m, h2e⟩ := List.mem_map.mp m
        obtain ⟨j, hj⟩ := List.mem_iff_getElem?.mp h2m
        rw [List.getElem?_take] at hj
        split at hj
        · rename_i hlt
          have g1 : (es.map fun e => keptZ S e.1)[j]? = some (keptZ S e2.1) := by rw [List.getElem?_map, hj]; rfl
          have g2 : (es.map fun e => keptZ S e.1)[i]? = some (keptZ S e.1) := by rw [List.getElem?_map, he]; rfl
          have h2e : keptZ S e2.1 = keptZ S e.1 := h2e
          rw [← h2e] at g2
          have := (List.getElem?_inj (by rw [List.length_map]; omega) ok.nd).mp (g1.trans g2.symm)
          omega
        · cases hj
      have hzt : textFits 4000 (.str e.1) := by show e.1.length ≤ 4000; omega
      have hS2 : S.length ≤ 4000 := by omega
      have ke : kindD S (.str e.1) = false → ∀ {r : Prop}, r := fun z => absurd (hk.symm.trans z) (by intro z; cases z)
      have ek : ∀ x' y' : Nat, PyData.str e.1 = .str (mkS [x', y']) → keptK S x' y' = keptZ S e.1 := fun x' y' e' => by
        have e' : e.1 = mkS [x', y'] := by injection e'
        rw [e']
        rfl
      refine ⟨a, q + 1, S, ps, _, _, rfl, hF.same s34, hS2, .str _ _, hzt, fun z => ke z, fun x' y' e' _ H5 s5 => ?_⟩
      rw [ek x' y' e']
      have s35 := s34.trans s5
      have hD5 := s5 _ _ hD4
      refine ⟨_, rfl, D, _, rfl, dget_toS _ hD5, _, rfl, ?_⟩
      rw [ctK_none new]
      refine iteF ⟨_, rfl, q, _, _, _, rfl, rfl, SqT.of (s35 _ _ hq), at1 _ _, _, rfl, _, rfl, a, dx, _, rfl, s35 _ _ h1, rfl, _, rfl, q, _, _, _, rfl, rfl, SqT.of (s35 _ _ hq), at0 _ _, ?_⟩
      refine ⟨a, q + 1, S, ps, _, _, rfl, hF.same s35, hS2, .str _ _, hzt, fun z => ke z, fun x' y' e' _ H6 s6 => ?_⟩
      rw [ek x' y' e']
      have hD6 := s6 _ _ hD5
      refine ⟨D, _, rfl, dput_toS hD6 ?_, ?_⟩
      · rw [List.length_map, List.length_take]
        have := ok.len
        exact Nat.lt_of_le_of_lt (show _ ≤ 4000 by omega) (by decide)
      refine ⟨_, rfl, Same.wr (s35.trans s6) fD .mk', ?_⟩
      rw [upd_same, putT_new new, nx]
    · rintro σ' H3 ⟨pr, rfl, s3, hD⟩
      rw [← el, List.take_length] at hD
      refine ⟨_, rfl, a, S, ps, rfl, hF.same s3, hS, no, fun H4 r4 s4 f4 h4 => ?_⟩
      rw [ksS_V] at h4
      have hD4 := s4 _ _ hD
      have s34 := s3.trans s4
      refine ⟨r4, rfl, ⟨_, SqL.of h4⟩, fun D2 hD2 => ?_⟩
      refine dc_map (walk_list (xs := (ksS S).map V.str)) (ksS S) (by rw [List.length_map]) (fun k => (ctK (es.map fun e => (keptZ S e.1, e.2)) k).isSome) (fun k => Sum.inr k) (fun k => .int ((ctK (es.map fun e => (keptZ S e.1, e.2)) k).getD 0)) (nodup_map (fun _ _ e => keyT_inj.mp e) (ksS_nd nd no)) hD2 (fun H' s => s.seq (SqL.of h4)) (by rw [List.length_map]; exact Nat.lt_of_le_of_lt (ksS_len hS) (by decide)) (fun x => rfl) ?_ ?_ ?_ ?_
      · intro j x z H' C' hx hz s5 hC
        rw [List.getElem?_map, hz] at hx
        cases hx
        exact ⟨_, rfl, _, rfl, D, _, rfl, dget_toS z (s5 _ _ hD4), _, rfl, by rw [Option.isSome_map]; exact hC H' (Same.refl _)⟩
      · intro j x z H' C' hx hz _ s5 hC
        rw [List.getElem?_map, hz] at hx
        cases hx
        exact ⟨_, rfl, hC H' (Same.refl _)⟩
      · intro j x z H' C' hx hz hp s5 hC
        rw [List.getElem?_map, hz] at hx
        cases hx
        obtain ⟨n, hn⟩ := Option.isSome_iff_exists.mp hp
        have dg := dget_toS z (s5 _ _ hD4)
        rw [hn] at dg hC
        exact ⟨_, rfl, _, rfl, D, _, rfl, dg, hC H' (Same.refl _)⟩
      · intro H' s5 hD'
        refine k H' D2 (s34.trans s5) (s34.free hD2) ?_
        rw [hD']
        unfold cntd toS
        rw [List.map_map]
        rfl
end
end My
end
section
set_option Elab.async false
set_option linter.all false
set_option maxRecDepth 100000
set_option maxHeartbeats 4000000
namespace My
open PySem PySem.Spec PyProof.Rows L2
abbrev s_ordered : Stmt := topS 51
/-- a count, 0 where there is none -/
def gC (cs : List (Str × Int)) (k : Str) : Int := (ctK cs k).getD 0
def sp_ordered (K : PySem.W.Frag) : Sp := fun vs H Q _ => ∃ (t d b : Addr) (S : Str) (cs : List (Str × Int)), vs = [.ref t, .ref d] ∧ SqT K H t [.str S, .ref b] ∧ S.length ≤ 10 ∧ S.cps.toList.Nodup ∧ 45 ∉ S.cps.toList ∧ H d = some (.dK (toS cs)) ∧ ∀ H' r, Same H H' → H r = none → H' r = some (.dK (toS (ordC (ksS S) (gC cs)))) → Q (.ref r) H'
section
variable {P : Program} {w : World} {K : PySem.W.Frag} {mg : Str → Option Value} {base : Heap}
abbrev NOr : List Str := ["_law_font_here", "_law_counts", "_law_kind"]
theorem sc_ordered : FnScope NOr ["_law_font_here", "_law_counts"] (defScope s_ordered) := ⟨rfl, rfl, rfl, by decide +kernel, rfl, by decide +kernel, by decide +kernel⟩
theorem ok_ordered {f fK : Addr} {fd fdK : FuncData} (F : Fun K "_law_ordered" "_law_ordered" s_ordered f fd) (td : mg "dict" = none) (D : Def K mg "_law_kinds" fK fdK ["_law_signs"]) (G : FnOk P w K mg base CX0 1 fK fdK ["_law_signs"] sp_kinds) : FnOk P w K mg base CX0 2 f fd ["_law_font_here", "_law_counts"] (sp_ordered K) := by
  refine F.ok sc_ordered (fun vs H Q E h => ?_) (fun cdv A outer s H vs Q E hr h => ?_)
  · obtain ⟨t, d, b, S, cs, rfl, _⟩ := h
    rfl
  · obtain ⟨t, d, b, S, cs, rfl, ht, hS, nd, no, hd, k⟩ := h
    have hu := hu_of hr
    refine ⟨_, pss_one (ps_ret (pe_callTy (call_dictP rfl) (by rfl) td (by decide +kernel) (pa_cons (by exact (pe_lc (own := [("_law_kind", 2)]) (g := gName 2) rfl sc_ordered.nd (pi_list (pe_call G hr rfl D.mgf D.kp D.bd .nil pass0 (pa_cons (pe_ix ix_tup (pv 0) pe_int (fun _ _ => rfl)) pa_nil))) (blkOk_by (own := [("_law_kind", 2)]) (N := NOr) (sc := defScope s_ordered) (by decide +kernel))
      (fun _ _ _ _ _ => pg_name (i := 2) sc_ordered.nd rfl (Or.inl rfl)) (fun _ _ _ _ _ => pts_one (pt_cmpR op_gt (pe_dget2 hu (pv 1) (pv 2) pe_int (by first | exact ⟨rfl, rfl, rfl, rfl⟩ | exact ⟨rfl, rfl, rfl, rfl, rfl⟩)) pe_int (nomark _)))
      (fun _ _ _ _ _ => pe_tup' (pa_cons (pv 2) (pa_cons (pe_dget hu (pv 1) (pv 2) (fun _ _ => rfl)) pa_nil))))) pa_nil))), ?_⟩
    refine ⟨_, rfl, t, _, _, _, rfl, rfl, ht, rfl, S, rfl, hS, fun H1 r1 s1 f1 h1 => ?_⟩
    rw [ksS_V] at h1
    have hd1 := s1 _ _ hd
    have nd1 : ((ksS S).map V.str).length < sizeLine := by rw [List.length_map]; exact Nat.lt_of_le_of_lt (ksS_len hS) (by decide)
    refine ⟨r1, rfl, ⟨_, SqL.of h1⟩, fun D hD => lc_pair (walk_list (xs := (ksS S).map V.str)) (ksS S) (by rw [List.length_map]) (fun k => decide (0 < gC cs k)) (fun k y H' => ∃ q, y = V.ref q ∧ H' q = some (.tup [.str k, .int (gC cs k)])) ?_ hD (fun H' s => s.seq (SqL.of h1)) nd1 (fun x => rfl) ?_ ?_ ?_⟩
    · rintro c y H5 H6 ⟨zs, hl5⟩ hb ⟨q, e, hq⟩
      exact ⟨q, e, hb q _ (ne_of hq hl5 (by intro z; cases z)) hq⟩
    · intro j x c H' C hx hc s hC
      rw [List.getElem?_map, hc] at hx
      cases hx
      have hd' := s _ _ hd1
      refine ⟨_, rfl, d, rfl, .inl ⟨_, .inl hd'⟩, _, rfl, _, dget_toS c hd', ?_⟩
      have e : ((ctK cs c).map V.int).getD (.int 0) = .int (gC cs c) := by unfold gC; cases ctK cs c <;> rfl
      rw [e]
      exact ⟨_, _, rfl, rfl, _, rfl, hC H' (Same.refl _)⟩
    · intro j x c H' C hx hc hp s hC
      rw [List.getElem?_map, hc] at hx
      cases hx
      have hd' := s _ _ hd1
      have hp := of_decide_eq_true hp
      unfold gC at hp
      obtain ⟨z, hz⟩ : ∃ z, ctK cs c = some z := by
        cases e : ctK cs c with
        | none => rw [e] at hp; exact absurd hp (by decide)
        | some z => exact ⟨z, rfl⟩
      have dg := dget_toS c hd'
      rw [hz] at dg
      refine ⟨_, rfl, _, rfl, _, rfl, d, _, rfl, dg, by show 2 ≤ sizeLine; decide, fun q H6 n6 => hC H6 _ n6.same ⟨q, rfl, ?_⟩⟩
      unfold gC
      rw [hz]
      exact n6.here
    · intro H' ys s hD' hP
      obtain ⟨qs, rfl, hq⟩ := pairs_refs (K := K) (key := fun c => Sum.inr c) (val := fun c => .int (gC cs c)) hP
      refine ⟨D, qs, _, rfl, SqL.of hD', hq, fun r hr' => ?_⟩
      have s13 := s1.trans s
      refine k _ r (s13.trans (New.same (.mk' hr'))) (by cases e : H r with | none => rfl | some o => have := s13 _ _ e; rw [hr'] at this; cases this) ?_
      rw [upd_same, mergeK_nodup]
      · unfold ordC toS
        rw [List.map_map]
        rfl
      · rw [List.map_map]
        exact (nodup_map (fun _ _ e => keyT_inj.mp e) (ksS_nd nd no)).sublist (List.Sublist.map _ List.filter_sublist)
end
end My
end
section
set_option Elab.async false
set_option linter.all false
set_option maxRecDepth 100000
set_option maxHeartbeats 4000000
namespace My
open PySem PySem.Spec PyProof.Rows L2
abbrev s_plain : Stmt := topS 52
/-- drawn counts: of kinds, in their order, each from 1 to B -/
def CsP (S : Str) (B : Int) (cs : List (Str × Int)) : Prop := ∃ f : Str → Int, cs = ordC (ksS S) f ∧ ∀ k, f k ≤ B
/-- a drawn font and drawn counts -/
structure PlainAt (H : Hp) (t t1 a d : Addr) (S : Str) (ys : List V) (ps : List (Nat × Nat)) (cs : List (Str × Int)) : Prop where
  h0 : H t = some (.tup [.ref t1, .ref d])
  h1 : H t1 = some (.tup [.str S, .ref a])
  h2 : H a = some (.lst ys)
  h3 : PairsAt H ps ys
  h4 : H d = some (.dK (toS cs))
theorem toS_pen {cs : List (Str × Int)} {c : Addr} {u l : Int} (h : penK c u l = toS cs) : False := by
  cases cs with
  | nil => cases h
  | cons e cs =>
    have h : penK c u l = (Sum.inr e.1, V.int e.2) :: toS cs := h
    injection h with h _
    injection h with _ h
    cases h
theorem PenAt.neK {H : Hp} {p c d : Addr} {n : Nat} {cs : List (Str × Int)} (hP : PenAt H p c n) (h : H d = some (.dK (toS cs))) : d ≠ p := fun e => by
  obtain ⟨_, u, z, hp, _⟩ := hP
  rw [e, hp] at h
  have := Option.some.inj h
  injection this with this
  exact toS_pen this
def sp_plain : Sp := fun vs H Q _ => ∃ (p c : Addr) (m q n : Nat) (B : Int), vs = [.ref p, .int m, .int q, .int B] ∧ PenAt H p c n ∧ n < 2 ^ 49 ∧ 2 ≤ m ∧ m ≤ 10 ∧ q ≤ 20 ∧ 4 ≤ B ∧ B ≤ 5000000000000000000000000000000 ∧
  ∀ H' t t1 a d S ys ps cs, DrewP H p c (n + 1000) H' → PlainAt H' t t1 a d S ys ps cs → Good m S ps → CsP S B cs → a ≠ sysModules → d ≠ p → Q (.ref t) H'
section
variable {P : Program} {w : World} {K : PySem.W.Frag} {mg : Str → Option Value} {base : Heap}
abbrev NPl : List Str := ["_law_pen_here", "_law_signs", "_law_most", "_law_bound", "_law_font_here", "_law_found", "_law_kinds_here", "_law_k", "_law_kind"]
theorem sc_plain : FnScope NPl ["_law_pen_here", "_law_signs", "_law_most", "_law_bound"] (defScope s_plain) := ⟨rfl, rfl, rfl, by decide +kernel, rfl, by decide +kernel, by decide +kernel⟩
theorem ok_plain {f fD fP fF fK fO : Addr} {fd fdD fdP fdF fdK fdO : FuncData} (F : Fun K "_law_plain" "_law_plain" s_plain f fd) (T : TB mg)
    (DD : Def K mg "_law_draw" fD fdD ["_law_pen_here", "_law_many"]) (GD : FnOk P w K mg base CX0 1 fD fdD ["_law_pen_here", "_law_many"] sp_draw) (GB : FnOk P w K mg base CX0 4 fD fdD ["_law_pen_here", "_law_many"] (sp_drawB 5000000000000000000000000000000 4))
    (DP : Def K mg "_law_pick" fP fdP ["_law_pen_here", "_law_options"]) (GP : FnOk P w K mg base CX0 2 fP fdP ["_law_pen_here", "_law_options"] (sp_pick K))
    (DF : Def K mg "_law_font" fF fdF ["_law_pen_here", "_law_most"]) (GF : FnOk P w K mg base CX0 3 fF fdF ["_law_pen_here", "_law_most"] (sp_font K))
    (DK : Def K mg "_law_kinds" fK fdK ["_law_signs"]) (GK : FnOk P w K mg base CX0 1 fK fdK ["_law_signs"] sp_kinds)
    (DO : Def K mg "_law_ordered" fO fdO ["_law_font_here", "_law_counts"]) (GO : FnOk P w K mg base CX0 2 fO fdO ["_law_font_here", "_law_counts"] (sp_ordered K)) :
    FnOk P w K mg base CX0 5 f fd ["_law_pen_here", "_law_signs", "_law_most", "_law_bound"] sp_plain := by
  refine F.ok sc_plain (fun vs H Q E h => ?_) (fun cdv A outer s H vs Q E hr h => ?_)
  · obtain ⟨p, c, m, q, n, B, rfl, _⟩ := h
    rfl
  · obtain ⟨p, c, m, q, n, B, rfl, hP, hn, m2, m10, q20, b4, b30, k⟩ := h
    have r1 : Room 1 _ := hr.mono (by decide)
    have r2 : Room 2 _ := hr.mono (by decide)
    have r3 : Room 3 _ := hr.mono (by decide)
    have hu := hu_of r1
    refine ⟨_, pss_cons (ps_par (i := 4) (j := 5) rfl sc_plain.nd rfl rfl (by decide) rfl rfl (pa_cons (pe_call GF r3 rfl DF.mgf DF.kp DF.bd .nil pass0 (pa_cons (pv 0) (pa_cons (pv 1) pa_nil))) (pa_cons pe_dnew' pa_nil)) (by rfl))
      (pss_cons (ps_set (i := 6) sc_plain.nd rfl (Or.inl rfl) (pe_call GK r1 rfl DK.mgf DK.kp DK.bd .nil pass0 (pa_cons (pe_ix ix_tup (pv 4) pe_int (fun _ _ => rfl)) pa_nil)))
      (pss_cons (ps_for PassesOwn.never rfl (pi_range1 rfl T.range (pa_cons (pe_call GD r1 rfl DD.mgf DD.kp DD.bd .nil pass0 (pa_cons (pv 0) (pa_cons (pe_op op_add (pv 2) pe_int) pa_nil))) pa_nil)) (pg_name (i := 7) sc_plain.nd rfl (Or.inl rfl))
        (pss_cons (ps_set (i := 8) sc_plain.nd rfl (Or.inl rfl) (pe_call GP r2 rfl DP.mgf DP.kp DP.bd .nil pass0 (pa_cons (pv 0) (pa_cons (pv 6) pa_nil))))
        (pss_one (ps_dput hu (pv 5) (pv 8) (pe_call GP r2 rfl DP.mgf DP.kp DP.bd .nil pass0 (pa_cons (pv 0) (pa_cons (pe_lst' (pa_cons pe_int (pa_cons (pe_op op_add pe_int (pe_call GD r1 rfl DD.mgf DD.kp DD.bd .nil pass0 (pa_cons (pv 0) (pa_cons pe_int pa_nil))))
            (pa_cons (pe_op op_add pe_int (pe_call GD r1 rfl DD.mgf DD.kp DD.bd .nil pass0 (pa_cons (pv 0) (pa_cons pe_int pa_nil))))
            (pa_cons (pe_op op_add pe_int (pe_call GB hr rfl DD.mgf DD.kp DD.bd .nil pass0 (pa_cons (pv 0) (pa_cons (pv 3) pa_nil)))) (pa_cons (pv 3) pa_nil)))))) pa_nil))) rfl))))
      (pss_one (ps_ret (pe_tup' (pa_cons (pv 4) (pa_cons (pe_call GO r2 rfl DO.mgf DO.kp DO.bd .nil pass0 (pa_cons (pv 4) (pa_cons (pv 5) pa_nil))) pa_nil))))))), ?_⟩
    refine ⟨_, rfl, _, rfl, p, c, m, n, rfl, hP, by omega, m2, m10, fun H1 t1 a S ys ps d1 ft fa h1 h2 h3 hG hs => fun d H2 n2 => ⟨_, _, rfl, ?_⟩⟩
    have no := no_dash hG
    have hS : S.length ≤ 10 := Nat.le_trans hG.hi m10
    have d2 : DrewP H p c (n + 40) H2 := d1.new n2
    have h1' := n2.same _ _ h1
    refine ⟨_, rfl, t1, _, _, _, rfl, rfl, SqT.of h1', rfl, S, rfl, hS, fun H3 r s3 f3 h3r => ?_⟩
    rw [ksS_V] at h3r
    have d3 : DrewP H p c (n + 40) H3 := ⟨d2.but.trans (.of s3), d2.pen.same s3⟩
    have pt : t1 ≠ p := (hP.ne ft).symm
    have pa : a ≠ p := (hP.ne fa).symm
    have pr : r ≠ p := (d2.pen.ne f3).symm
    have pd : d ≠ p := (d1.pen.ne n2.free).symm
    have cd : c ≠ d := d1.pen.neC n2.free
    have s13 := n2.same.trans s3
    have i1 := s13 _ _ h1
    have i2 := s13 _ _ h2
    have i3 := h3.same s13
    have dd := s3 _ _ n2.here
    have rd : r ≠ d := fun z => by rw [z, n2.here] at f3; cases f3
    have td : t1 ≠ d := fun z => by rw [z, n2.free] at h1; cases h1
    have ad : a ≠ d := fun z => by rw [z, n2.free] at h2; cases h2
    have fD : H d = none := by
      cases e : H d with
      | none => rfl
      | some o => have := d1.but _ _ pd e; rw [n2.free] at this; cases this
    refine ⟨_, rfl, _, rfl, _, _, rfl, rfl, p, c, (q : Int) + 1, n + 40, rfl, d3.pen, by omega, by omega, by omega, fun H4 x d4 x0 x1 => ?_⟩
    obtain ⟨j, rfl⟩ : ∃ j : Nat, x = j := ⟨_, (Int.toNat_of_nonneg x0).symm⟩
    refine ⟨(j : Int), rfl, by omega, by omega, for_it (walk_range (lo := 0) (n := j)) (fun i σ' H' => ∃ (o7 o8 : Option V) (cs : List (Str × Int)) (m' : Nat), σ' = [some (.ref p), some (.int m), some (.int q), some (.int B), some (.ref t1), some (.ref d), some (.ref r), o7, o8] ∧ But p H H' ∧ PenAt H' p c m' ∧ m' ≤ n + 41 + 10 * i ∧ H' t1 = some (.tup [.str S, .ref a]) ∧ H' a = some (.lst ys) ∧ PairsAt H' ps ys ∧ H' r = some (.lst ((ksS S).map V.str)) ∧ H' d = some (.dK (toS cs)) ∧ (∀ e ∈ cs, 1 ≤ e.2 ∧ e.2 ≤ B) ∧ cs.length ≤ i)
      ⟨none, none, [], n + 41, rfl, (d3.trans d4).but, d4.pen, by omega, d4.but _ _ pt i1, d4.but _ _ pa i2, i3.pen d3.pen d4.but, d4.but _ _ pr h3r, d4.but _ _ pd dd, (fun e he => by cases he), Nat.le_refl _⟩ (fun _ _ _ _ _ => trivial) ?_ ?_⟩
    · rintro i v σ' Ha Hb hi ⟨o7, o8, cs, m', rfl, hB, hPm, hm, e1, e2, e3, er, ed, hbd, hcl⟩ ⟨rfl, rfl⟩
      have hi : i < j := hi
      have kl := ksS_len hS
      have kpos : 0 < (ksS S).length := by
        unfold ksS
        rw [List.length_map]
        have zl := hG.lo
        obtain ⟨l, hl⟩ : ∃ l, S.length = l + 1 := ⟨S.length - 1, by omega⟩
        rw [hl]
        show 0 < (kindsTo S l ++ kindsAt S l).length
        unfold kindsAt
        rw [List.length_append, List.length_map, List.length_append]
        simp only [List.length_cons, List.length_nil]
        omega
      refine ⟨_, rfl, _, rfl, p, c, r, _, m', rfl, hPm, by omega, SqL.of er, pr, by rw [List.length_map]; exact kpos, by rw [List.length_map]; omega, fun H5 v d5 hv => ?_⟩
      obtain ⟨kd, hkd, rfl⟩ := List.mem_map.mp hv
      have er5 := d5.but _ _ pr er
      have ed5 := d5.but _ _ pd ed
      refine ⟨_, rfl, _, rfl, p, c, 4, m' + 1, rfl, d5.pen, by omega, by decide, by decide, fun H6 x6 d6 x60 x61 => ⟨_, _, rfl, rfl, ?_⟩⟩
      refine ⟨_, rfl, p, c, 4, m' + 2, rfl, d6.pen, by omega, by decide, by decide, fun H7 x7 d7 x70 x71 => ⟨_, _, rfl, rfl, ?_⟩⟩
      refine ⟨_, rfl, _, rfl, p, c, B, m' + 3, rfl, d7.pen, by omega, by omega, b30, fun H8 x8 d8 x80 x81 => ⟨_, _, rfl, rfl, ?_⟩⟩
      refine ⟨_, rfl, by show 5 ≤ sizeLine; decide, fun l9 H9 n9 => ?_⟩
      have P9 := d8.pen.same n9.same
      have b59 : But p H5 H9 := d6.but.trans (d7.but.trans (d8.but.trans (.of n9.same)))
      have lp : l9 ≠ p := fun z => d8.pen.ne n9.free z.symm
      refine ⟨p, c, l9, _, m' + 7, rfl, P9, by omega, SqL.of n9.here, lp, by show 0 < 5; decide, by show 5 ≤ 1000000; decide, fun H10 v10 d10 hv10 => ?_⟩
      obtain ⟨z, rfl, z0, z1⟩ : ∃ z : Int, v10 = .int z ∧ 1 ≤ z ∧ z ≤ B := by
        rcases List.mem_cons.mp hv10 with rfl | hv
        · exact ⟨1, rfl, by decide, by omega⟩
        rcases List.mem_cons.mp hv with rfl | hv
        · exact ⟨1 + x6, rfl, by omega, by omega⟩
        rcases List.mem_cons.mp hv with rfl | hv
        · exact ⟨1 + x7, rfl, by omega, by omega⟩
        rcases List.mem_cons.mp hv with rfl | hv
        · exact ⟨1 + x8, rfl, by omega, by omega⟩
        rcases List.mem_cons.mp hv with rfl | hv
        · exact ⟨B, rfl, by omega, by omega⟩
        cases hv
      have b510 : But p Hb H10 := d5.but.trans (b59.trans d10.but)
      have ed10 := b510 _ _ pd ed
      refine ⟨_, rfl, _, rfl, d, _, rfl, dput_toS ed10 (Nat.lt_of_le_of_lt (show cs.length ≤ 20 by omega) (by decide)), ?_⟩
      have w11 : Wr H10 d (.dK (toS (putT cs kd z))) (upd H10 d (.dK (toS (putT cs kd z)))) := .mk'
      generalize upd H10 d (HO.dK (toS (putT cs kd z))) = H11 at w11 ⊢
      have ih2 := b510 _ _ pa e2
      have e3' := e3.pen hPm b510
      refine ⟨_, _, putT cs kd z, m' + 8, rfl, But.wr (hB.trans b510) fD w11, d10.pen.els w11 pd.symm cd, by omega, (w11.els _ td).trans (b510 _ _ pt e1), (w11.els _ ad).trans ih2, ?_, (w11.els _ rd).trans (b510 _ _ pr er), w11.here, ?_, ?_⟩
      · refine Paired.map (fun e y hy => ?_) e3'
        obtain ⟨q', hq1, hq2⟩ := hy
        exact ⟨q', hq1, (w11.els q' (ne_of hq2 ed10 (by intro z; cases z))).trans hq2⟩
      · intro e he
        rcases putT_mem he with he | rfl
        · exact hbd e he
        · exact ⟨z0, z1⟩
      · have := putT_len cs kd z
        omega
    · rintro σ' H5 ⟨o7, o8, cs, m', rfl, hB, hPm, hm, e1, e2, e3, er, ed, hbd, hcl⟩
      refine ⟨_, rfl, _, rfl, _, rfl, t1, d, a, S, cs, rfl, SqT.of e1, hS, hG.nd, no, ed, fun H6 d' s6 f6 h6 => ⟨by show 2 ≤ sizeLine; decide, fun t H7 n7 => ?_⟩⟩
      have s57 := s6.trans n7.same
      have pd' : d' ≠ p := (hPm.ne f6).symm
      refine k H7 t t1 a d' S ys ps _ ⟨hB.trans (.of s57), (hPm.same s57).mono (by omega)⟩ ⟨n7.here, s57 _ _ e1, s57 _ _ e2, e3.same s57, n7.same _ _ h6⟩ hG ⟨gC cs, rfl, fun kk => ?_⟩ hs pd'
      unfold gC
      cases e : ctK cs kk with
      | none => show (0 : Int) ≤ B; omega
      | some v => exact (hbd _ (ctK_mem e)).2
end
end My
end
section
set_option Elab.async false
set_option linter.all false
set_option maxRecDepth 100000
set_option maxHeartbeats 4000000
/-! Qcsb: drawn counts. -/
namespace My
open PySem PySem.Spec PyProof.Rows L2
/-- counts that can be shown -/
structure CsB (S : Str) (cs : List (Str × Int)) : Prop where
  nd : (cs.map (·.1)).Nodup
  inS : ∀ e ∈ cs, e.1 ∈ ksS S
  bd : ∀ e ∈ cs, 0 ≤ e.2 ∧ e.2 ≤ 10 ^ 31
  len : cs.length ≤ 110
theorem ks_cps {S z : Str} (h : z ∈ ksS S) : ∃ a c, z = mkS [a, c] ∧ a ∈ S.cps.toList ∧ (c = 45 ∨ c ∈ S.cps.toList) := by
  unfold ksS at h
  obtain ⟨e, he, rfl⟩ := List.mem_map.mp h
  obtain ⟨i, hi, he⟩ := kinds_mem he
  unfold kindsAt at he
  obtain ⟨c, hc, rfl⟩ := List.mem_map.mp he
  have zl : S.cps.toList.length = S.length := Array.length_toList
  obtain ⟨a, ha⟩ : ∃ a, S.cps.toList[i]? = some a := ⟨S.cps.toList[i]'(by omega), by simp [show i < S.cps.toList.length by omega]⟩
  refine ⟨a, c, by show mkS [(S.cps.toList[i]?).getD 0, c] = _; rw [ha]; rfl, List.mem_of_getElem? ha, ?_⟩
  rcases List.mem_append.mp hc with hc | hc
  · exact .inr (List.mem_of_mem_drop hc)
  · exact .inl (by simpa using hc)
end My
end
section
set_option Elab.async false
set_option linter.all false
set_option maxRecDepth 100000
set_option maxHeartbeats 4000000
/-! cases. -/
namespace My
open PySem PySem.Spec PyProof.Rows L2
abbrev c_init : Stmt := inCls c_cls 1
abbrev c_kinds : Stmt := inCls c_cls 5
abbrev c_size : Stmt := inCls c_cls 6
abbrev c_cont : Stmt := inCls c_cls 8
abbrev c_get : Stmt := inCls c_cls 9
/-- what a case keeps -/
def caseFs (fa d t : Addr) : List (Str × V) := putF "_plates" (.ref t) (putF "_counts" (.ref d) (putF "_font" (.ref fa) []))
theorem cfs_font (fa d t : Addr) : List.lookup ("_font" : Str) (caseFs fa d t) = some (V.ref fa) := rfl
theorem cfs_counts (fa d t : Addr) : List.lookup ("_counts" : Str) (caseFs fa d t) = some (V.ref d) := rfl
theorem cfs_plates (fa d t : Addr) : List.lookup ("_plates" : Str) (caseFs fa d t) = some (V.ref t) := rfl
/-- a case at a -/
structure CaseAt (H : Hp) (CC C a : Addr) (S : Str) (ps : List (Nat × Nat)) (cs : List (Str × Int)) : Prop where
  at_ : ∃ dx fa d t ys, H a = some (.ins CC dx (caseFs fa d t)) ∧ FontAt H C fa S ps ∧ H d = some (.dK (toS cs)) ∧ H t = some (.tup ys) ∧ EntAt H cs ys
theorem CaseAt.same {H H1 : Hp} {CC C a : Addr} {S : Str} {ps : List (Nat × Nat)} {cs : List (Str × Int)} (s : Same H H1) (h : CaseAt H CC C a S ps cs) : CaseAt H1 CC C a S ps cs := by
  obtain ⟨dx, fa, d, t, ys, h1, h2, h3, h4, h5⟩ := h.at_
  exact ⟨dx, fa, d, t, ys, s _ _ h1, h2.same s, s _ _ h3, s _ _ h4, h5.same s⟩
/-- what a class of instances tells of its own store -/
structure CCls (K : PySem.W.Frag) (CC : Addr) : Prop where
  cls : Cls K CC
  nF : NoAttr K CC "_font"
  nC : NoAttr K CC "_counts"
  nP : NoAttr K CC "_plates"
/-- counts a case may have: its keys are kinds, each once -/
structure CsOk (S : Str) (cs : List (Str × Int)) : Prop where
  nd : (cs.map (·.1)).Nodup
  inS : ∀ e ∈ cs, e.1 ∈ ksS S
  len : cs.length ≤ 110
theorem cntd_ok {S : Str} (hS : S.length ≤ 10) (nd : S.cps.toList.Nodup) (no : 45 ∉ S.cps.toList) (es : List (Str × Int)) : CsOk S (cntd S es) := by
  refine ⟨?_, fun e he => ?_, ?_⟩
  · unfold cntd
    rw [List.map_map]
    have : ((fun e : Str × Int => e.1) ∘ fun k : Str => (k, (ctK (es.map fun e => (keptZ S e.1, e.2)) k).getD 0)) = id := rfl
    rw [this, List.map_id]
    exact (ksS_nd nd no).sublist List.filter_sublist
  · unfold cntd at he
    obtain ⟨k, hk, rfl⟩ := List.mem_map.mp he
    exact (List.mem_filter.mp hk).1
  · unfold cntd
    rw [List.length_map]
    exact Nat.le_trans (List.length_filter_le _ _) (ksS_len hS)
/-- a comprehension over entries -/
theorem lc_ent {K : PySem.W.Frag} {cs : List (Str × Int)} {xs : List V} {J : It} {G : Hp → Prop} (w : Walk J xs.length G (YAt xs)) {H1 : Hp} (hE : EntAt H1 cs xs) {i j : Nat} {vs : List Nat} {σ : L2.St} {D : Addr} {te : TE} {Qd : Hp → Prop} (f : Str × Int → V) (free : H1 D = none)
    (hG : ∀ H', Same H1 H' → G H') (small : xs.length < sizeLine) (hw : ∀ x y, wipe (((wipe σ vs).set i (some x)).set j (some y)) vs = wipe σ vs)
    (he : ∀ e H' (C : VK), e ∈ cs → Same H1 H' → (∀ H4, Same H' H4 → C (f e) H4) → te (((wipe σ vs).set i (some (.str e.1))).set j (some (.int e.2))) H' C) (hd : ∀ H', Same H1 H' → H' D = some (.lst (cs.map f)) → Qd H') :
    ∃ W : Nat → Nat → Hp → Prop, (∃ m, W 0 m (upd H1 D (.lst []))) ∧ ∀ k m H, W k m H →
      (J.stop k H ∧ Qd H) ∨ (J.go k H ∧ ∃ Nx : Hp → Prop, (∀ H', Nx H' → ∃ m', m' < m ∧ W (k + 1) m' H') ∧ ∀ x H', J.yld k H x H' → gTup K 2 (gCons (gName i) (gCons (gName j) gNil)) x (wipe σ vs) H' fun σ2 H2 => wipe σ2 vs = wipe σ vs ∧ tYes σ2 H2 fun b H3 =>
        if b = true then te σ2 H3 fun y H4 => ∃ acc, H4 D = some (.lst acc) ∧ acc.length < sizeLine ∧ Nx (upd H4 D (.lst (acc ++ [y]))) else Nx H3) := by
  have hl : cs.length = xs.length := Paired.length hE
  refine lcw w (fun k H' => Same H1 H' ∧ H' D = some (.lst ((cs.take k).map f))) ⟨Same.wr (Same.refl H1) free .mk', upd_same⟩ (fun k H' _ q => hG H' q.1) ?_ ?_
  · rintro k x H2 H3 hk ⟨s, hD⟩ ⟨rfl, hx⟩
    obtain ⟨e, hek, q, rfl, hq⟩ := Paired.at hE hx
    refine ⟨q, _, rfl, SqT.of (s _ _ hq), rfl, _, _, rfl, _, _, rfl, rfl, hw _ _, ?_⟩
    unfold tYes
    show (if true = true then _ else _)
    rw [if_pos rfl]
    refine he e H3 _ (List.mem_of_getElem? hek) s fun H4 s4 => ⟨_, s4 _ _ hD, ?_, Same.wr (s.trans s4) free .mk', ?_⟩
    · rw [List.length_map, List.length_take]
      omega
    · rw [upd_same, List.take_add_one, hek, List.map_append]
      rfl
  · rintro H' ⟨s, hD⟩
    rw [← hl, List.take_length] at hD
    exact hd H' s hD
def sp_cinit (K : PySem.W.Frag) (CC C : Addr) : Sp := fun vs H Q _ => ∃ (a dx fa b p : Addr) (d : PyData) (S : Str) (ps : List (Nat × Nat)) (es : List (Str × Int)) (ys : List V), vs = [.ref a, .ref fa, .ref b] ∧ H a = some (.ins CC dx []) ∧ Rp K p H false (.ref b) d ∧ isSeqD d = true ∧ FontAt H C fa S ps ∧ S.length ≤ 10 ∧ S.cps.toList.Nodup ∧ 45 ∉ S.cps.toList ∧ (SqL K H b ys ∨ SqT K H b ys) ∧ EntAt H es ys ∧ EntOk S es ∧
  ∀ H', But a H H' → CaseAt H' CC C a S ps (cntd S es) → Q .non H'
def sp_ckinds (CC C : Addr) : Sp := fun vs H Q _ => ∃ (a : Addr) (S : Str) (ps : List (Nat × Nat)) (cs : List (Str × Int)), vs = [.ref a] ∧ CaseAt H CC C a S ps cs ∧ cs.length ≤ 110 ∧ ∀ H' r, Same H H' → H r = none → H' r = some (.tup ((cs.map (·.1)).map V.str)) → Q (.ref r) H'
def sp_csize (CC C : Addr) : Sp := fun vs H Q _ => ∃ (a : Addr) (S : Str) (ps : List (Nat × Nat)) (cs : List (Str × Int)), vs = [.ref a] ∧ CaseAt H CC C a S ps cs ∧ cs.length ≤ 110 ∧ ∀ H', Same H H' → Q (.int (cs.map (·.2)).sum) H'
/-- the count of a value that is a kind -/
def keptD' (S : Str) : PyData → Str
  | .str z => keptZ S z
  | _ => ⟨#[]⟩
def sp_ccont (K : PySem.W.Frag) (CC C : Addr) : Sp := fun vs H Q _ => ∃ (a p : Addr) (S : Str) (ps : List (Nat × Nat)) (cs : List (Str × Int)) (v : V) (d : PyData), vs = [.ref a, v] ∧ CaseAt H CC C a S ps cs ∧ S.length ≤ 10 ∧ Rp K p H false v d ∧ textFits 4000 d ∧ ∀ H', Same H H' → Q (.bl (kindD S d && (ctK cs (keptD' S d)).isSome)) H'
def sp_cget (K : PySem.W.Frag) (CC C IK : Addr) : Sp := fun vs H Q E => ∃ (a p : Addr) (S : Str) (ps : List (Nat × Nat)) (cs : List (Str × Int)) (v : V) (d : PyData), vs = [.ref a, v] ∧ CaseAt H CC C a S ps cs ∧ S.length ≤ 10 ∧ Rp K p H false v d ∧ textFits 4000 d ∧
  (kindD S d = false → Err E IK v H) ∧ (kindD S d = true → ∀ H', Same H H' → Q (.int ((ctK cs (keptD' S d)).getD 0)) H')
section
variable {P : Program} {w : World} {K : PySem.W.Frag} {mg : Str → Option Value} {base : Heap}
abbrev NCi : List Str := ["self", "font", "plates", "counts", "kind"]
theorem sc_cinit : FnScope NCi ["self", "font", "plates"] (defScope c_init) := ⟨rfl, rfl, rfl, by decide +kernel, rfl, by decide +kernel, by decide +kernel⟩
theorem ok_cinit {f CC C fC : Addr} {fd fdC : FuncData} {dvs : List V} (F : FunD K "__init__" "Case.__init__" (defArgs c_init) (defBody c_init) (defScope c_init) dvs [] f fd) (T : TB mg) (cc : CCls K CC) (DC : Def K mg "_counted" fC fdC ["font", "plates"]) (GC : FnOk P w K mg base CX0 5 fC fdC ["font", "plates"] (sp_counted K C)) :
    FnOk P w K mg base CX0 6 f fd ["self", "font", "plates"] (sp_cinit K CC C) := by
  refine F.ok sc_cinit (fun vs H Q E h => ?_) (fun cdv A outer s H vs Q E hr h => ?_)
  · obtain ⟨a, dx, fa, b, p, d, S, ps, es, ys, rfl, _⟩ := h
    rfl
  · obtain ⟨a, dx, fa, b, p, d, S, ps, es, ys, rfl, ha, hd, hsd, hF, hS, nd, no, hsq, hE, ok, k⟩ := h
    have hu := hu_of hr
    refine ⟨_, PSs.nox (pss_cons (ps_set (i := 3) sc_cinit.nd rfl (Or.inr rfl) (pe_call GC hr rfl DC.mgf DC.kp DC.bd .nil pass0 (pa_cons (pv 1) (pa_cons (pv 2) pa_nil))))
      (pss_cons (ps_fld (pv 0) (pv 1) rfl)
      (pss_cons (ps_fld (pv 0) (pv 3) rfl)
      (pss_one (ps_fld (pv 0) (pe_callTy call_tupOfL (by rfl) T.tuple (by decide +kernel) (pa_cons (by exact (pe_lock (pe_lc (own := [("kind", 4)]) (g := gName 4) (tt := tYes) rfl sc_cinit.nd (pi_keys (pv 3)) (blkOk_by (own := [("kind", 4)]) (N := NCi) (sc := defScope c_init) (by decide +kernel))
        (fun _ _ _ _ _ => pg_name (i := 4) sc_cinit.nd rfl (Or.inl rfl)) (fun _ _ _ _ _ => pts_nil) (fun _ _ _ _ _ => pe_tup' (pa_cons (pv 4) (pa_cons (pe_dget hu (pv 3) (pv 4) (fun _ _ => rfl)) pa_nil)))))) pa_nil)) rfl))))), ?_⟩
    refine ⟨_, rfl, _, rfl, fa, b, p, d, S, ps, es, ys, rfl, hd, hsd, hF, hS, nd, no, hsq, hE, ok, fun H1 r s1 fr hr1 => ?_⟩
    have ko := cntd_ok hS nd no es
    generalize cntd S es = cs at hr1 k ko
    have ha1 := s1 _ _ ha
    refine ⟨_, rfl, _, rfl, a, CC, dx, [], rfl, ha1, cc.cls, cc.nF, by decide, ?_⟩
    have w2 : Wr H1 a (.ins CC dx (putF "_font" (.ref fa) [])) (upd H1 a (.ins CC dx (putF "_font" (.ref fa) []))) := .mk'
    generalize upd H1 a (HO.ins CC dx (putF "_font" (V.ref fa) [])) = H2 at w2 ⊢
    refine ⟨_, rfl, _, rfl, a, CC, dx, _, rfl, w2.here, cc.cls, cc.nC, (show 1 < 1000 by decide), ?_⟩
    have w3 : Wr H2 a (.ins CC dx (putF "_counts" (.ref r) (putF "_font" (.ref fa) []))) (upd H2 a (.ins CC dx (putF "_counts" (.ref r) (putF "_font" (.ref fa) [])))) := .mk'
    generalize upd H2 a (HO.ins CC dx (putF "_counts" (V.ref r) (putF "_font" (V.ref fa) []))) = H3 at w3 ⊢
    have rne : r ≠ a := fun z => by rw [z, ha] at fr; cases fr
    have el : ∀ {q : Addr} {o : HO}, H1 q = some o → q ≠ a → H3 q = some o := fun {q o} e ne => (w3.els q ne).trans ((w2.els q ne).trans e)
    have r3 : H3 r = some (.dK (toS cs)) := el hr1 rne
    have F3 : FontAt H3 C fa S ps := by
      obtain ⟨fx, fr', fys, g1, g2, g3⟩ := (hF.same s1).at_
      have fneA : fa ≠ a := fun z => by
        rw [z, ha1] at g1
        have := Option.some.inj g1
        injection this with _ _ e
        cases e
      exact ⟨fx, fr', fys, el g1 fneA, el g2 (ne_of g2 ha1 (by intro z; cases z)), Paired.map (fun e y hy => by
        obtain ⟨q, e1, e2⟩ := hy
        exact ⟨q, e1, el e2 (ne_of e2 ha1 (by intro z; cases z))⟩) g3⟩
    refine ⟨r, _, r3, trivial, fun od => ?_⟩
    have lk : (upd H3 r (.frz od (.dK (toS cs)))) r = some (.frz od (.dK (toS cs))) := locked
    have bk : ∀ H', Same (upd H3 r (.frz od (.dK (toS cs)))) H' → Same H3 (upd H' r (.dK (toS cs))) := fun H' s => unlock r3 s
    generalize upd H3 r (HO.frz od (.dK (toS cs))) = H4 at lk bk ⊢
    have hz : cs.length = ((toS cs).map fun e => kV e.1).length := by simp [toS]
    have small : ((toS cs).map fun e => kV e.1).length < sizeLine := by rw [← hz]; exact Nat.lt_of_le_of_lt ko.len (by decide)
    refine ⟨_, rfl, r, od, rfl, .inl ⟨_, lk, fun D hD => ?_⟩⟩
    have nD : D ≠ r := fun z => by rw [z, lk] at hD; cases hD
    refine lc_pair walk_ks cs hz (fun _ => true) (fun e y H' => ∃ q, q ≠ r ∧ y = V.ref q ∧ H' q = some (.tup [.str e.1, .int e.2])) ?_ hD (fun H' s => s _ _ lk) small (fun x => rfl) (fun _ _ _ H' C _ _ _ h => h H' (Same.refl _)) ?_ ?_
    · rintro e y H5 H6 ⟨zs, hl5⟩ hb ⟨q, n1, e1, hq⟩
      exact ⟨q, n1, e1, hb q _ (ne_of hq hl5 (by intro z; cases z)) hq⟩
    · intro j x e H' C' hx he _ s hC
      have ek : x = .str e.1 := by
        rw [toS_ks, List.map_map, List.getElem?_map, he] at hx
        exact (Option.some.inj hx).symm
      subst ek
      have dg := dget_frzK e.1 (s _ _ lk)
      rw [ctK_nd ko.nd (List.mem_of_getElem? he)] at dg
      refine ⟨_, rfl, _, rfl, _, rfl, r, _, rfl, dg, by show 2 ≤ sizeLine; decide, fun q H6 n6 => hC H6 _ n6.same ⟨q, fun z => ?_, rfl, n6.here⟩⟩
      have := s _ _ lk
      rw [← z, n6.free] at this
      cases this
    · intro H5 ys2 s5 hD5 hP
      rw [pv_filter_true] at hP
      have s35 := bk H5 s5
      have lk5 := s5 _ _ lk
      refine ⟨lk5, D, ys2, rfl, SqL.of (by rw [upd_ne nD]; exact hD5), fun t H6 n6 => ?_⟩
      have s36 := s35.trans n6.same
      have ha6 := s36 _ _ w3.here
      refine ⟨_, rfl, a, CC, dx, _, rfl, ha6, cc.cls, cc.nP, (show 2 < 1000 by decide), ?_⟩
      have w7 : Wr H6 a (.ins CC dx (caseFs fa r t)) (upd H6 a (.ins CC dx (caseFs fa r t))) := .mk'
      have B : But a H (upd H6 a (.ins CC dx (caseFs fa r t))) := (((But.of s1).trans w2.but).trans w3.but).trans ((But.of s36).trans w7.but)
      refine k _ B ⟨dx, fa, r, t, ys2, w7.here, ?_, ?_, ?_, ?_⟩
      · obtain ⟨fx, fr', fys, g1, g2, g3⟩ := (F3.same s36).at_
        have eh : ∀ {q : Addr} {o : HO}, H6 q = some o → q ≠ a → (upd H6 a (.ins CC dx (caseFs fa r t))) q = some o := fun {q o} e ne => (w7.els q ne).trans e
        have fneA : fa ≠ a := fun z => by
          rw [z, ha6] at g1
          have := Option.some.inj g1
          injection this with _ _ e
          cases e
        exact ⟨fx, fr', fys, eh g1 fneA, eh g2 (ne_of g2 ha6 (by intro z; cases z)), Paired.map (fun e y hy => by
          obtain ⟨q, e1, e2⟩ := hy
          exact ⟨q, e1, eh e2 (ne_of e2 ha6 (by intro z; cases z))⟩) g3⟩
      · exact (w7.els r rne).trans (s36 _ _ r3)
      · have : t ≠ a := ne_of n6.here ha6 (by intro z; cases z)
        exact (w7.els t this).trans n6.here
      · refine Paired.map (fun e y hy => ?_) hP
        obtain ⟨q, n1, e1, e2⟩ := hy
        have q6 : H6 q = some (.tup [.str e.1, .int e.2]) := n6.same _ _ (by rw [upd_ne n1]; exact e2)
        exact ⟨q, e1, (w7.els q (ne_of q6 ha6 (by intro z; cases z))).trans q6⟩
end
end My
end
section
set_option Elab.async false
set_option linter.all false
set_option maxRecDepth 100000
set_option maxHeartbeats 4000000
/-! Qflips: drawn entries. -/
namespace My
open PySem PySem.Spec PyProof.Rows L2 LamX
section
variable {H H1 : Hp} {CC C a t t1 b d : Addr} {S : Str} {ys : List V} {ps : List (Nat × Nat)} {cs : List (Str × Int)}
theorem EntAt.pen {p c : Addr} {n : Nat} (hP : PenAt H p c n) (s : But p H H1) (h : EntAt H cs ys) : EntAt H1 cs ys := Paired.map (fun e y hy => by
  obtain ⟨q, e1, e2⟩ := hy
  exact ⟨q, e1, s _ _ (hP.neT e2) e2⟩) h
theorem EntAt.ext (s : ExtN H H1) (h : EntAt H cs ys) : EntAt H1 cs ys := Paired.map (fun e y hy => by
  obtain ⟨q, e1, e2⟩ := hy
  exact ⟨q, e1, s _ _ e2 (fun _ z => by cases z)⟩) h
theorem CaseAt.pen {p c : Addr} {n : Nat} (hP : PenAt H p c n) (s : But p H H1) (h : CaseAt H CC C a S ps cs) : CaseAt H1 CC C a S ps cs := by
  obtain ⟨dx, fa, dd, tp, es, h1, h2, h3, h4, h5⟩ := h.at_
  obtain ⟨_, u, z, hp, _⟩ := id hP
  exact ⟨dx, fa, dd, tp, es, s _ _ (ne_of h1 hp (by intro z; cases z)) h1, h2.pen hP s, s _ _ (hP.neK h3) h3, s _ _ (hP.neT h4) h4, h5.pen hP s⟩
theorem CaseAt.ext (s : ExtN H H1) (h : CaseAt H CC C a S ps cs) : CaseAt H1 CC C a S ps cs := by
  obtain ⟨dx, fa, dd, tp, es, h1, h2, h3, h4, h5⟩ := h.at_
  exact ⟨dx, fa, dd, tp, es, s _ _ h1 (fun _ z => by cases z), h2.ext s, s _ _ h3 (fun _ z => by cases z), s _ _ h4 (fun _ z => by cases z), h5.ext s⟩
theorem PlainAt.same (s : Same H H1) (h : PlainAt H t t1 b d S ys ps cs) : PlainAt H1 t t1 b d S ys ps cs := ⟨s _ _ h.h0, s _ _ h.h1, s _ _ h.h2, h.h3.same s, s _ _ h.h4⟩
theorem PlainAt.pen {p c : Addr} {n : Nat} (hP : PenAt H p c n) (s : But p H H1) (h : PlainAt H t t1 b d S ys ps cs) : PlainAt H1 t t1 b d S ys ps cs := ⟨s _ _ (hP.neT h.h0) h.h0, s _ _ (hP.neT h.h1) h.h1, s _ _ (hP.neL h.h2) h.h2, h.h3.pen hP s, s _ _ (hP.neK h.h4) h.h4⟩
theorem PlainAt.ext (s : ExtN H H1) (h : PlainAt H t t1 b d S ys ps cs) : PlainAt H1 t t1 b d S ys ps cs := ⟨s _ _ h.h0 (fun _ z => by cases z), s _ _ h.h1 (fun _ z => by cases z), s _ _ h.h2 (fun _ z => by cases z), h.h3.ext s, s _ _ h.h4 (fun _ z => by cases z)⟩
end
/-! ### the mathematics of flipped kinds -/
def FlipR (cs : List (Str × Int)) (k : Str) (e : Str × Int) : Prop := (∃ x y, k = mkS [x, y] ∧ (e.1 = mkS [x, y] ∨ e.1 = mkS [y, x])) ∧ e.2 = gC cs k
theorem ks_ok {S z : Str} (nd : S.cps.toList.Nodup) (no : 45 ∉ S.cps.toList) (h : z ∈ ksS S) : ∃ a c, z = mkS [a, c] ∧ KindOk S a c := by
  unfold ksS at h
  obtain ⟨e, he, rfl⟩ := List.mem_map.mp h
  exact ⟨e.1, e.2, rfl, kind_ok nd no he⟩
theorem mkS_two {x y a c : Nat} (h : mkS [x, y] = mkS [a, c]) : x = a ∧ y = c := by
  have h := congrArg (fun q : Str => q.cps.toList) h
  have h : [x, y] = [a, c] := by simpa using h
  simpa using h
theorem flip_kept {S : Str} {cs : List (Str × Int)} {k : Str} {e : Str × Int} (nd : S.cps.toList.Nodup) (no : 45 ∉ S.cps.toList) (hk : k ∈ ksS S) (h : FlipR cs k e) : keptZ S e.1 = k ∧ kindD S (.str e.1) = true := by
  obtain ⟨a, c, rfl, ko⟩ := ks_ok nd no hk
  obtain ⟨⟨x, y, ek, he⟩, _⟩ := h
  obtain ⟨rfl, rfl⟩ := mkS_two ek
  have ba : sideB S a = true := side_of (.inr ko.am)
  have bc : sideB S c = true := side_of ko.cm
  rcases he with he | he
  · rw [he]
    exact ⟨kept_first ko, kind_yes no ba bc ko.am (.inl rfl)⟩
  · rw [he]
    exact ⟨kept_turned ko, kind_yes no bc ba ko.am (.inr rfl)⟩
theorem csp_ok {S : Str} {B : Int} {cs : List (Str × Int)} (hS : S.length ≤ 10) (nd : S.cps.toList.Nodup) (no : 45 ∉ S.cps.toList) (hB : B ≤ 10 ^ 31) (h : CsP S B cs) : CsB S cs := by
  obtain ⟨f, rfl, hf⟩ := h
  refine ⟨ordC_nd f (ksS_nd nd no), fun e he => (ordC_mem.mp he).1, fun e he => ?_, ?_⟩
  · obtain ⟨_, h1, h2⟩ := ordC_mem.mp he
    rw [h2]
    have := hf e.1
    exact ⟨by omega, by omega⟩
  · unfold ordC
    rw [List.length_map]
    exact Nat.le_trans (List.length_filter_le _ _) (ksS_len hS)
theorem flips_ok {S : Str} {B : Int} {cs es : List (Str × Int)} {l : List Str} (hS : S.length ≤ 10) (nd : S.cps.toList.Nodup) (no : 45 ∉ S.cps.toList) (hB : B ≤ big30) (h : CsP S B cs) (hl : l.Perm (cs.map (·.1))) (hp : Paired (FlipR cs) l es) : EntOk S es ∧ cntd S es = cs := by
  obtain ⟨f, ec, hf⟩ := h
  have knd := ksS_nd nd no
  have cnd : (cs.map (·.1)).Nodup := by rw [ec]; exact ordC_nd f knd
  have lnd : l.Nodup := hl.nodup_iff.mpr cnd
  have lin : ∀ k ∈ l, k ∈ ksS S ∧ 0 < f k ∧ gC cs k = f k := fun k hk => by
    obtain ⟨e, he, rfl⟩ := List.mem_map.mp (hl.mem_iff.mp hk)
    have he' := he
    rw [ec] at he'
    obtain ⟨h1, h2, h3⟩ := ordC_mem.mp he'
    refine ⟨h1, h2, ?_⟩
    unfold gC
    rw [ctK_nd cnd he]
    exact h3
  have key : ∀ {l : List Str} {es : List (Str × Int)}, Paired (FlipR cs) l es → (∀ k ∈ l, k ∈ ksS S ∧ 0 < f k ∧ gC cs k = f k) → (es.map fun e => (keptZ S e.1, e.2)) = l.map (fun k => (k, gC cs k)) ∧ ∀ e ∈ es, kindD S (.str e.1) = true ∧ 1 ≤ e.2 ∧ e.2 ≤ big30 := by
    intro l es hp
    induction hp with
    | nil => intro _; exact ⟨rfl, fun e he => by cases he⟩
    | cons hr _ ih =>
      rename_i k e l es _
      intro hin
      obtain ⟨i1, i2⟩ := ih fun x hx => hin x (List.mem_cons_of_mem _ hx)
      obtain ⟨j1, j2, j3⟩ := hin k List.mem_cons_self
      obtain ⟨k1, k2⟩ := flip_kept nd no j1 hr
      refine ⟨?_, fun x hx => ?_⟩
      · rw [List.map_cons, List.map_cons, i1, k1, hr.2]
      · rcases List.mem_cons.mp hx with rfl | hx
        · refine ⟨k2, ?_⟩
          rw [hr.2, j3]
          have := hf k
          exact ⟨by omega, by omega⟩
        · exact i2 x hx
  obtain ⟨e1, e2⟩ := key hp lin
  have ln : es.length = cs.length := by
    rw [← Paired.length hp, hl.length_eq, List.length_map]
  have perm : (es.map fun e => (keptZ S e.1, e.2)).Perm cs := by
    rw [e1]
    have p1 := hl.map fun k => (k, gC cs k)
    have e3 : (cs.map (·.1)).map (fun k => (k, gC cs k)) = cs := by
      rw [List.map_map]
      have : ∀ e ∈ cs, ((fun k => (k, gC cs k)) ∘ fun e : Str × Int => e.1) e = e := fun e he => by
        show (e.1, gC cs e.1) = e
        unfold gC
        rw [ctK_nd cnd he]
        rfl
      rw [List.map_congr_left this]
      exact List.map_id _
    rw [e3] at p1
    exact p1
  refine ⟨⟨fun e he => (e2 e he).1, fun e he => (e2 e he).2, ?_, ?_⟩, ?_⟩
  · have : (es.map fun e => keptZ S e.1) = l := by
      have h := congrArg (List.map (·.1)) e1
      rw [List.map_map, List.map_map] at h
      have h : (es.map fun e => keptZ S e.1) = l.map fun k => k := h
      rw [h, List.map_id']
    rw [this]
    exact lnd
  · rw [ln, ec]
    unfold ordC
    rw [List.length_map]
    exact Nat.le_trans (Nat.le_trans (List.length_filter_le _ _) (ksS_len hS)) (by decide)
  · unfold cntd
    have ct : ∀ k, ctK (es.map fun e => (keptZ S e.1, e.2)) k = ctK cs k := fun k => ctK_perm cnd perm k
    simp only [ct]
    rw [ec]
    have g1 : ∀ k ∈ ksS S, ctK (ordC (ksS S) f) k = if 0 < f k then some (f k) else none := fun k hk => ordC_ct knd hk
    have g2 : (ksS S).filter (fun k => (ctK (ordC (ksS S) f) k).isSome) = (ksS S).filter fun k => decide (0 < f k) := by
      apply List.filter_congr
      intro k hk
      rw [g1 k hk]
      by_cases q : 0 < f k
      · rw [if_pos q, decide_eq_true q]; rfl
      · rw [if_neg q, decide_eq_false q]; rfl
    rw [g2]
    show ((ksS S).filter fun k => decide (0 < f k)).map _ = ((ksS S).filter fun k => decide (0 < f k)).map _
    apply List.map_congr_left
    intro k hk
    obtain ⟨k1, k2⟩ := List.mem_filter.mp hk
    rw [g1 k k1, if_pos (of_decide_eq_true k2)]
    rfl
/-! ### Case(..) -/
end My
end
section
set_option Elab.async false
set_option linter.all false
set_option maxRecDepth 100000
set_option maxHeartbeats 4000000
/-! B5: x[::-1] of any text, of any list. -/
namespace My
open PySem PySem.Spec PyProof.Rows L2
/-- x[::-1], x a text: some text of its signs, not longer -/
def tRevT (te : TE) : TE := fun σ H Q => te σ H fun v H1 => ∃ z : Str, v = .str z ∧ z.length ≤ 1000 ∧ ∀ y : Str, y.length ≤ z.length → (∀ c ∈ y.cps.toList, c ∈ z.cps.toList) → Q (.str y) H1
/-- x[::-1], x a list -/
def tRevL (K : PySem.W.Frag) (te : TE) : TE := fun σ H Q => te σ H fun v H1 => ∃ (a : Addr) (xs : List V), v = .ref a ∧ SqL K H1 a xs ∧ ∀ p H2, New H1 p (.lst xs.reverse) H2 → Q (.ref p) H2
section
variable {X : Cx} {e : Expr} {te : TE} {k : Nat} {p1 p2 p3 pos : Pos}
theorem back_open {pins : List (Addr × Obj)} {σ : L2.St} {H1 : Hp} {s1 : Shared} {v : Value} {Q' : Value → Shared → Prop} (I1 : Inv X pins σ H1 s1)
    (q : ∀ (s4 : Shared) (vs : Value), Inv X pins σ H1 s4 → IsPart vs (some (-1)) → wpAny (model X.prog X.w) X.A (subscriptTail e (.Slice none none (some (.UnaryOp .USub (.Constant (.int 1) k p1) p2)) p3) v (.ref s4.heap.objs.size)) Q' X.xe { s4 with heap := s4.heap.push { cls := .type "slice", data := .fields #[.none, .none, vs] } }) :
    wpAny (model X.prog X.w) X.A (eval (.Slice none none (some (.UnaryOp .USub (.Constant (.int 1) k p1) p2)) p3) X.env) (fun sl s' => wpAny (model X.prog X.w) X.A (subscriptTail e (.Slice none none (some (.UnaryOp .USub (.Constant (.int 1) k p1) p2)) p3) v sl) Q' X.xe s') X.xe s1 := by
  have stepP : PO X (some (.UnaryOp .USub (.Constant (.int 1) k p1) p2)) (tPart (tUn (rU fun i => .int (-i)) (tC (.int 1)))) := po_some (pe_un un_neg pe_int)
  apply wpAny_Slice
  apply thn (po_none.run pins s1 σ H1 (fun o G => o = none ∧ G = H1) I1 ⟨rfl, rfl⟩)
  rintro vl s2 ⟨l, H2, I2, pl, rfl, rfl⟩
  apply thn (po_none.run pins s2 σ _ (fun o G => o = none ∧ G = H2) I2 ⟨rfl, rfl⟩)
  rintro vu s3 ⟨u, H3, I3, pu, rfl, rfl⟩
  apply thn (stepP.run pins s3 σ _ (fun o G => o = some (-1) ∧ G = H3) I3 ⟨1, rfl, -1, rfl, rfl, rfl⟩)
  rintro vs s4 ⟨o, H4, I4, ps, rfl, rfl⟩
  cases pl
  cases pu
  exact q s4 vs I4 ps
theorem pe_revT (he : PE X e te) : PE X (.Subscript e (.Slice none none (some (.UnaryOp .USub (.Constant (.int 1) k p1) p2)) p3) pos) (tRevT te) := by
  constructor
  intro pins s σ H Q I want
  apply Subscript_
  apply thn (he.run pins s σ H _ I want)
  rintro v s1 ⟨v', H1, I1, r1, z, rfl, hz, q⟩
  obtain ⟨t, rfl⟩ := r1
  refine back_open I1 fun s4 vs I4 ps => ?_
  have I5 : Inv X pins σ H1 { s4 with heap := s4.heap.push { cls := .type "slice", data := .fields #[.none, .none, vs] } } := I4.kept (t' := s4.toks) fun b ob z => Heap.get?_push_of_some _ z
  obtain ⟨st, rfl, es⟩ := IsPart.raw ps
  refine tail_any (ops := [.str z t, .ref s4.heap.objs.size]) (typeIs_str _ _ _) slot_str_getitem.lookup ?_ (by with_unfolding_all rfl)
  refine wpAny_getItem_str_slice (l := none) (u := none) (st := st) (Heap.IsSliceOf.new _ _ _ _) (by rw [es]; decide) ?_
  cases st with
  | none => cases es
  | some q1 =>
  obtain ⟨i, tk⟩ := q1
  obtain rfl : i = -1 := Option.some.inj es
  have hp : slicePicked z none none (some (-1, tk)) = (List.range z.length).reverse := by
    show PySem.sliceRange ((z.length : Int) - 1) (-1) (-1) = _
    rw [PySem.W.krv_sliceRange, PySem.W.krv_range]
  unfold sliceMade
  rw [hp, if_neg (by simp)]
  have le : (⟨(((List.range z.length).reverse).filterMap (z.cps[·]?)).toArray⟩ : Str).length ≤ z.length := by
    show (((List.range z.length).reverse).filterMap (z.cps[·]?)).toArray.size ≤ _
    rw [List.size_toArray]
    refine Nat.le_trans (List.length_filterMap_le _ _) ?_
    rw [List.length_reverse, List.length_range]
    exact Nat.le_refl _
  refine ⟨Nat.le_trans le (Nat.le_trans hz (by decide)), .str _, _, I5.tok _, ⟨_, rfl⟩, q _ le fun c hc => ?_⟩
  obtain ⟨j, _, ej⟩ := List.mem_filterMap.mp hc
  have := Array.mem_of_getElem? ej
  simpa using this
theorem pe_revL (he : PE X e te) : PE X (.Subscript e (.Slice none none (some (.UnaryOp .USub (.Constant (.int 1) k p1) p2)) p3) pos) (tRevL X.K te) := by
  constructor
  intro pins s σ H Q I want
  apply Subscript_
  apply thn (he.run pins s σ H _ I want)
  rintro v s1 ⟨v', H1, I1, r1, a, xs, rfl, hx, q⟩
  cases r1
  refine back_open I1 fun s4 vs I4 ps => ?_
  have I5 : Inv X pins σ H1 { s4 with heap := s4.heap.push { cls := .type "slice", data := .fields #[.none, .none, vs] } } := I4.kept (t' := s4.toks) fun b ob z => Heap.get?_push_of_some _ z
  obtain ⟨its, r, ht, hz⟩ := I5.list hx
  refine tail_any (ops := [.ref a, .ref s4.heap.objs.size]) ht.isList.typeIs slot_list_getitem.lookup ?_ (by with_unfolding_all rfl)
  refine wpAny_getItem_list_slice ht.isList (Heap.IsSliceOf.new _ _ _ _) .none .none ps (by decide) ?_ (by rw [List.size_toArray, ← r.length]; exact hz)
  rw [PySem.W.krv_pick]
  refine ⟨.ref _, _, I5.laid (t' := s4.toks) (o := .lst xs.reverse) (fun b ob z => Heap.get?_push_of_some _ z) (Nat.le_refl _) ?_, rfl, q _ _ (.mk' (I5.hok.fresh (Nat.le_refl _)))⟩
  exact ⟨by rw [List.length_reverse]; exact hz, _, 0, r.reverse, Heap.get?_push_size _ rfl⟩
end
end My
end
section
set_option Elab.async false
set_option linter.all false
set_option maxRecDepth 100000
set_option maxHeartbeats 4000000
/-! B6: new lists and where they stand. -/
namespace My
open PySem PySem.Spec PyProof.Rows L2
section
variable {X : Cx}
/-- a part of a list, and where it stands -/
def qSlB (K : PySem.W.Frag) : V → Option Int → Option Int → Hp → VK → Prop := fun x lo hi H Q => ∃ a xs, x = .ref a ∧ SqL K H a xs ∧ ∀ p H', p ≠ sysModules → New H p (.lst (cutV xs lo hi)) H' → Q (.ref p) H'
theorem sl_listB : SlR X (qSlB X.K) := by
  intro pins s σ H x v vl vu lo hi sl Q I rx slice pl pu want
  obtain ⟨a, xs, rfl, hx, q⟩ := want
  cases rx
  obtain ⟨its, r, at_, fits⟩ := I.list hx
  have len := r.length
  refine ⟨"list", _, slot_list_getitem.lookup, at_.isList.typeIs, wpAny_getItem_list_slice at_.isList slice pl pu .none (by simp) ?_ (by rw [List.size_toArray]; omega)⟩
  rw [slicePick_cut, ← len]
  have free : H s.heap.objs.size = none := I.hok.fresh (Nat.le_refl _)
  have laid : ObjOk X.prog X.w (upd H s.heap.objs.size (.lst (cutV xs lo hi))) (s.heap.push { cls := .type "list", data := .seq (((its.drop (HT.sIx xs.length 0 lo)).take (HT.sIx xs.length xs.length hi - HT.sIx xs.length 0 lo)).toArray) }) s.heap.objs.size (.lst (cutV xs lo hi)) :=
    ⟨Nat.le_trans (cutV_length xs lo hi) fits, _, 0, (r.drop (HT.sIx xs.length 0 lo)).take _, Heap.get?_push_size _ rfl⟩
  exact ⟨.ref _, _, I.laid (t' := s.toks) (fun b ob z => Heap.get?_push_of_some _ z) (Nat.le_refl _) laid, rfl, q _ _ (Nat.ne_of_gt I.big) (.mk' free)⟩
/-- xs + ys, and where it stands -/
def qCatB : R2 := fun x y H Q => ∃ a b xs ys, x = .ref a ∧ y = .ref b ∧ H a = some (.lst xs) ∧ H b = some (.lst ys) ∧ xs.length + ys.length ≤ sizeLine ∧ ∀ p H', p ≠ sysModules → New H p (.lst (xs ++ ys)) H' → Q (.ref p) H'
theorem op_catB : OpR X (binaryOp .Add) qCatB := by
  intro pins s σ H x y v u Q I rx ry want
  obtain ⟨a, b, xs, ys, rfl, rfl, hA, hB, fits, q⟩ := want
  cases rx
  cases ry
  obtain ⟨z1, its1, n1, r1, l1, e1⟩ := I.lstM hA
  obtain ⟨z2, its2, n2, r2, l2, e2⟩ := I.lstM hB
  apply PySem.P.add_list e1 e2
  rw [show its1.toArray ++ its2.toArray = (its1 ++ its2).toArray by simp]
  exact ⟨.ref _, _, I.lnew (t' := s.toks) (r1.append r2) (by rw [List.length_append]; omega), rfl, q _ _ (Nat.ne_of_gt I.big) (.mk' I.fresh)⟩
/-- x[::-1], x a list, and where it stands -/
def tRevB (K : PySem.W.Frag) (te : TE) : TE := fun σ H Q => te σ H fun v H1 => ∃ (a : Addr) (xs : List V), v = .ref a ∧ SqL K H1 a xs ∧ ∀ p H2, p ≠ sysModules → New H1 p (.lst xs.reverse) H2 → Q (.ref p) H2
theorem pe_revB {e : Expr} {te : TE} {k : Nat} {p1 p2 p3 pos : Pos} (he : PE X e te) : PE X (.Subscript e (.Slice none none (some (.UnaryOp .USub (.Constant (.int 1) k p1) p2)) p3) pos) (tRevB X.K te) := by
  constructor
  intro pins s σ H Q I want
  apply Subscript_
  apply thn (he.run pins s σ H _ I want)
  rintro v s1 ⟨v', H1, I1, r1, a, xs, rfl, hx, q⟩
  cases r1
  refine back_open I1 fun s4 vs I4 ps => ?_
  have I5 : Inv X pins σ H1 { s4 with heap := s4.heap.push { cls := .type "slice", data := .fields #[.none, .none, vs] } } := I4.kept (t' := s4.toks) fun b ob z => Heap.get?_push_of_some _ z
  obtain ⟨its, r, ht, hz⟩ := I5.list hx
  refine tail_any (ops := [.ref a, .ref s4.heap.objs.size]) ht.isList.typeIs slot_list_getitem.lookup ?_ (by with_unfolding_all rfl)
  refine wpAny_getItem_list_slice ht.isList (Heap.IsSliceOf.new _ _ _ _) .none .none ps (by decide) ?_ (by rw [List.size_toArray, ← r.length]; exact hz)
  rw [PySem.W.krv_pick]
  refine ⟨.ref _, _, I5.laid (t' := s4.toks) (o := .lst xs.reverse) (fun b ob z => Heap.get?_push_of_some _ z) (Nat.le_refl _) ?_, rfl, q _ _ (Nat.ne_of_gt I5.big) (.mk' (I5.hok.fresh (Nat.le_refl _)))⟩
  exact ⟨by rw [List.length_reverse]; exact hz, _, 0, r.reverse, Heap.get?_push_size _ rfl⟩
end
end My
end
section
set_option Elab.async false
set_option linter.all false
set_option maxRecDepth 100000
set_option maxHeartbeats 4000000
namespace My
open PySem PySem.Spec PyProof.Rows L2 LamX
/-- a value that can be shown -/
structure Val (K : PySem.W.Frag) (p : Addr) (H : Hp) (v : V) (d : PyData) : Prop where
  rp : Rp K p H true v d
  fit : fit d = true
  dep : d.depth ≤ 5
  shw : d.showable = true
  len : d.shown.length ≤ 20000
  ln : lenD d ≤ 100
/-- a short text of plain characters -/
def Tx (n : Nat) (z : Str) : Prop := z.length ≤ n ∧ ∀ c ∈ z.cps.toList, c < 128
theorem Tx.mono {n m : Nat} {z : Str} (h : Tx n z) (l : n ≤ m) : Tx m z := ⟨Nat.le_trans h.1 l, h.2⟩
theorem Tx.cut {n : Nat} {z : Str} (h : Tx n z) (lo hi : Option Int) : Tx n (cutS z lo hi) := by
  constructor
  · refine Nat.le_trans ?_ h.1
    show ((z.cps.toList.drop (HT.sIx z.length 0 lo)).take (HT.sIx z.length z.length hi - HT.sIx z.length 0 lo)).toArray.size ≤ _
    rw [List.size_toArray, List.length_take, List.length_drop]
    have : z.cps.toList.length = z.length := Array.length_toList
    omega
  · intro c hc
    have hc : c ∈ (z.cps.toList.drop (HT.sIx z.length 0 lo)).take (HT.sIx z.length z.length hi - HT.sIx z.length 0 lo) := hc
    exact h.2 c (List.mem_of_mem_drop (List.mem_of_mem_take hc))
theorem Tx.add {n m : Nat} {a b : Str} (h : Tx n a) (k : Tx m b) : Tx (n + m) (a ++ b) := by
  constructor
  · rw [len_app]
    have := h.1
    have := k.1
    omega
  · intro c hc
    have hc : c ∈ (a.cps ++ b.cps).toList := hc
    rw [Array.toList_append] at hc
    rcases List.mem_append.mp hc with hc | hc
    · exact h.2 c hc
    · exact k.2 c hc
theorem Tx.one {c : Nat} (h : c < 128) : Tx 1 ⟨#[c]⟩ := ⟨Nat.le_refl _, fun x hx => by
  have : x = c := by simpa using hx
  exact this ▸ h⟩
theorem Tx.up {n : Nat} {z : Str} (h : Tx n z) : Tx n (Txt.upper z) := by
  rw [upper_ascii h.2]
  constructor
  · show (z.cps.map up1).size ≤ n
    rw [Array.size_map]
    exact h.1
  · intro c hc
    have hc : c ∈ (z.cps.map up1).toList := hc
    rw [Array.toList_map] at hc
    obtain ⟨x, hx, rfl⟩ := List.mem_map.mp hc
    have := h.2 x hx
    unfold up1
    split <;> omega
theorem Tx.len {n : Nat} {z : Str} (h : Tx n z) (hn : n ≤ 1000) : z.length ≤ sizeLine := Nat.le_trans h.1 (Nat.le_trans hn (by decide))
theorem tx_val {K : PySem.W.Frag} {p : Addr} {H : Hp} {z : Str} (h : Tx 100 z) : Val K p H (.str z) (.str z) := by
  refine ⟨.str _ _, ?_, Nat.zero_le _, rfl, ?_, Nat.zero_le _⟩
  · show decide (z.length ≤ 4000) = true
    exact decide_eq_true (Nat.le_trans h.1 (by decide))
  · refine Nat.le_trans (shown_wt _ ?_) ?_
    · simp only [chr, List.all_eq_true, decide_eq_true_eq]
      exact fun c hc => Nat.lt_trans (h.2 c hc) (by decide)
    · show 10 * z.length + 2 ≤ 20000
      have := h.1
      omega
theorem tx_big {K : PySem.W.Frag} {p : Addr} {H : Hp} {z : Str} (h : Tx 1000 z) : Val K p H (.str z) (.str z) := by
  refine ⟨.str _ _, ?_, Nat.zero_le _, rfl, ?_, Nat.zero_le _⟩
  · show decide (z.length ≤ 4000) = true
    exact decide_eq_true (Nat.le_trans h.1 (by decide))
  · refine Nat.le_trans (shown_wt _ ?_) ?_
    · simp only [chr, List.all_eq_true, decide_eq_true_eq]
      exact fun c hc => Nat.lt_trans (h.2 c hc) (by decide)
    · show 10 * z.length + 2 ≤ 20000
      have := h.1
      omega
section
variable {K : PySem.W.Frag} {p : Addr} {H H1 : Hp}
theorem two_rp {r : Addr} {v1 v2 : V} {d1 d2 : PyData} (hr : H r = some (.tup [v1, v2])) (ne : r ≠ p) (h1 : Rp K p H true v1 d1) (h2 : Rp K p H true v2 d2) : Rp K p H true (.ref r) (.tuple [d1, d2]) := .tup hr ne (.cons h1 (.cons h2 (.nil _)))
/-- what can be shown -/
structure Sho (n : Nat) (d : PyData) : Prop where
  shw : d.showable = true
  len : d.shown.length ≤ n
  dep : d.depth ≤ 20
theorem Val.sho {v : V} {d : PyData} (h : Val K p H v d) : Sho 20000 d := ⟨h.shw, h.len, Nat.le_trans h.dep (by decide)⟩
theorem two_sho {a b : PyData} {n m : Nat} (ha : Sho n a) (hb : Sho m b) (da : a.depth ≤ 10) (db : b.depth ≤ 10) : Sho (n + m + 8) (.tuple [a, b]) := by
  refine ⟨?_, ?_, ?_⟩
  · show (a.showable && (b.showable && true)) = true
    rw [ha.shw, hb.shw]; rfl
  · have := tuple_le [a.shown, b.shown]
    have e : ([a.shown, b.shown].map (·.length)).sum = a.shown.length + b.shown.length := by simp
    rw [e] at this
    show (tupleText [a.shown, b.shown]).length ≤ _
    simp only [List.length_cons, List.length_nil] at this
    have := ha.len
    have := hb.len
    omega
  · show max a.depth (max b.depth 0) + 1 ≤ 20
    omega
end
def qReprH (K : PySem.W.Frag) : List V → Hp → VK → Prop := fun xs H Q => ∃ x d p, xs = [x] ∧ Rp K p H true x d ∧ Sho 1000000 d ∧ Q (.str d.shown) H
theorem call_reprH {X : Cx} (g : X.A.guards = some []) (hu : X.A.units + 64 < cLine) : CallR X (.builtin "repr") (qReprH X.K) := by
  intro pins s σ H xs us Q I r h
  obtain ⟨x, d, p, e, hd, hs, q⟩ := h
  exact call_reprD g hu pins s σ H xs us Q I r ⟨x, d, p, e, hd.loose _, hs.shw, Nat.le_trans hs.len (by decide), Nat.le_trans hs.dep (by decide), q⟩
theorem word_sho (z : Str) (h : Tx 100 z) : Sho 2000 (.str z) := by
  exact ⟨rfl, Nat.le_trans (shown_wt _ (by
    show (z.cps.toList.all fun c => decide (c < 16 ^ 8)) = true
    rw [List.all_eq_true]
    exact fun c hc => decide_eq_true (Nat.lt_trans (h.2 c hc) (by decide)))) (by show 10 * z.length + 2 ≤ 2000; have := h.1; omega), Nat.zero_le _⟩
end My
end
section
set_option Elab.async false
set_option linter.all false
set_option maxRecDepth 100000
set_option maxHeartbeats 4000000
/-! B13: numbers and dicts from signs to numbers, shown. -/
namespace My
open PySem PySem.Spec PyProof.Rows L2
/-- a number that can be shown -/
def Num (i : Int) : Prop := i.natAbs < 10 ^ 300
theorem num_shown {i : Int} (h : Num i) : (PyData.int i).shown.length ≤ 301 := by
  have := int_text_length_le10 (a := i) (k := 300) (by decide) h
  show (PySem.Str.ofString (toString i)).length ≤ 301
  rw [PySem.ofString_length]
  exact this
theorem num_log {i : Int} (h : Num i) : i.natAbs.log2 < 1920 := by
  by_cases z : i.natAbs = 0
  · rw [z]; decide
  · rw [Nat.log2_lt z]
    exact Nat.lt_of_lt_of_le h (by decide +kernel)
theorem num_showable {i : Int} (h : Num i) : (PyData.int i).showable = true := decide_eq_true (num_log h)
theorem num_sho {i : Int} (h : Num i) : Sho 301 (.int i) := ⟨num_showable h, num_shown h, Nat.zero_le _⟩
theorem num_small {i : Int} (h : i.natAbs < 10 ^ 100) : Num i := Nat.lt_of_lt_of_le h (Nat.pow_le_pow_right (show 0 < 10 by decide) (show 100 ≤ 300 by decide))
theorem num_nat {n : Nat} (h : n ≤ 1000000) : Num (n : Int) := num_small (by
  show n < 10 ^ 100
  exact Nat.lt_of_le_of_lt h (by decide +kernel))
/-- a dict from signs to numbers -/
def dictD (cs : List (Nat × Int)) : PyData := .dict ((cs.map fun e => PyData.str ⟨#[e.1]⟩).zip (cs.map fun e => PyData.int e.2))
theorem dictD_cons (e : Nat × Int) (cs : List (Nat × Int)) : ((e :: cs).map fun e => PyData.str ⟨#[e.1]⟩).zip ((e :: cs).map fun e => PyData.int e.2) = (PyData.str ⟨#[e.1]⟩, PyData.int e.2) :: ((cs.map fun e => PyData.str ⟨#[e.1]⟩).zip (cs.map fun e => PyData.int e.2)) := rfl
theorem dict_le (ts : List Str) : (dictText ts).length ≤ (ts.map (·.length)).sum + ts.length * 2 + 2 := by
  have := StrLaws.join_length_le ", " ts
  have e : (PySem.Str.ofString ", ").length = 2 := by decide
  rw [e] at this
  show (("{" : Str) ++ Str.join ", " ts ++ "}").length ≤ _
  rw [len_app, len_app]
  have e1 : ("{" : Str).length = 1 := by decide
  have e2 : ("}" : Str).length = 1 := by decide
  omega
theorem sign_sho {c : Nat} (h : c < 128) : Sho 12 (.str ⟨#[c]⟩) := by
  refine ⟨rfl, Nat.le_trans (shown_wt _ ?_) (by show 10 * 1 + 2 ≤ 12; decide), Nat.zero_le _⟩
  show ((⟨#[c]⟩ : Str).cps.toList.all fun c => decide (c < 16 ^ 8)) = true
  rw [List.all_eq_true]
  intro x hx
  have : x = c := by simpa using hx
  subst this
  exact decide_eq_true (Nat.lt_trans h (by decide))
theorem kv_sho : ∀ {cs : List (Nat × Int)}, (∀ e ∈ cs, e.1 < 128 ∧ Num e.2) → PyData.showableKv ((cs.map fun e => PyData.str ⟨#[e.1]⟩).zip (cs.map fun e => PyData.int e.2)) = true ∧
    ((PyData.shownKv ((cs.map fun e => PyData.str ⟨#[e.1]⟩).zip (cs.map fun e => PyData.int e.2))).map (·.length)).sum ≤ 315 * cs.length ∧ (PyData.shownKv ((cs.map fun e => PyData.str ⟨#[e.1]⟩).zip (cs.map fun e => PyData.int e.2))).length = cs.length
  | [], _ => ⟨rfl, Nat.le_refl _, rfl⟩
  | e :: cs, h => by
    obtain ⟨h1, h2, h3⟩ := kv_sho (cs := cs) fun x hx => h x (List.mem_cons_of_mem _ hx)
    obtain ⟨e1, e2⟩ := h e List.mem_cons_self
    rw [dictD_cons]
    refine ⟨?_, ?_, ?_⟩
    · show (_ && _ && PyData.showableKv _) = true
      rw [h1, num_showable e2]
      rfl
    · show ((((PyData.str ⟨#[e.1]⟩).shown ++ ": " ++ (PyData.int e.2).shown) :: PyData.shownKv ((cs.map fun e => PyData.str ⟨#[e.1]⟩).zip (cs.map fun e => PyData.int e.2))).map (fun x : Str => x.length)).sum ≤ _
      rw [List.map_cons, List.sum_cons, List.length_cons, len_app, len_app]
      have a := (sign_sho e1).len
      have b := num_shown e2
      have c : (PySem.Str.ofString ": ").length = 2 := by decide
      rw [c]
      omega
    · show (PyData.shownKv _).length + 1 = cs.length + 1
      rw [h3]
theorem dict_sho {cs : List (Nat × Int)} (hl : cs.length ≤ 100) (h : ∀ e ∈ cs, e.1 < 128 ∧ Num e.2) : Sho 32000 (dictD cs) := by
  obtain ⟨h1, h2, h3⟩ := kv_sho h
  refine ⟨h1, ?_, ?_⟩
  · refine Nat.le_trans (dict_le _) ?_
    rw [h3]
    omega
  · have key : ∀ cs : List (Nat × Int), (dictD cs).depth ≤ 1 := by
      intro cs
      induction cs with
      | nil => decide
      | cons e cs ih =>
        have q : (dictD (e :: cs)).depth = max (max 0 0) ((dictD cs).depth - 1) + 1 := rfl
        rw [q]
        omega
    exact Nat.le_trans (key cs) (by decide)
section
variable {K : PySem.W.Frag} {p : Addr} {H : Hp}
theorem rp_keys {st : Bool} : ∀ cs : List (Nat × Int), RpAll K p H st ((toC cs).map fun e => kV e.1) (cs.map fun e => PyData.str ⟨#[e.1]⟩)
  | [] => .nil _
  | e :: cs => .cons (.str _ _) (rp_keys cs)
theorem rp_vals {st : Bool} : ∀ cs : List (Nat × Int), RpAll K p H st ((toC cs).map (·.2)) (cs.map fun e => PyData.int e.2)
  | [] => .nil _
  | e :: cs => .cons (.int _ _) (rp_vals cs)
theorem rp_dict {d : Addr} {cs : List (Nat × Int)} (h : H d = some (.dK (toC cs))) (ne : d ≠ p) (st : Bool) : Rp K p H st (.ref d) (dictD cs) :=
  .dct h ne (rp_keys cs) (rp_vals cs) (by rw [List.length_map, List.length_map])
end
end My
end
section
set_option Elab.async false
set_option linter.all false
set_option maxRecDepth 100000
set_option maxHeartbeats 4000000
/-! B23: list(d), tuple(d), d a dict. -/
namespace My
open PySem PySem.Spec PyProof.Rows L2
section
variable {prog : Program} {w : World} {A : Around} {E : Value → Shared → Prop} {s : Shared} {r : Addr} {d : Addr} {n : Nat} {P : Nat → Value → Prop} {OK : Heap → Prop}
theorem code_tuple_new_dict {Q₁ : Value → Shared → Prop} (KS : PySem.W.KdlSrc prog w "dict" r d n P OK) (hh : A.handled = none) (hok : OK s.heap) (hn : n ≤ sizeLine)
    (h : ∀ (h' : Heap) (tk : Nat) (acc : Array Value), (∀ b o, s.heap.get? b = some o → h'.get? b = some o) → ItemsOf P acc n → Q₁ (.ref h'.objs.size) { s with heap := h'.push { cls := .type "tuple", data := .seq acc }, toks := tk }) :
    codeAny (model prog w) A (.call (.builtin "tuple.__new__") ⟨[.type "tuple", .ref r], []⟩) (wants Q₁ E) s := by
  refine codeAny_of_tree ?_
  show wpAny _ A.in1 (do checkBuiltinCall "tuple.__new__" ⟨[.type "tuple", .ref r], []⟩; again (.builtin "tuple.__new__" ⟨[.type "tuple", .ref r], []⟩)) _ _ s
  refine wpAny_bind (wpAny_of_eq (F.newCall_tuple_1 _) (wpAny_pure ⟨plainId_quiet F.plain_tuple_new _, codeAny_builtin F.entry_tuple_new ?_⟩))
  rw [Around.under_plainId F.plain_tuple_new _]
  have hsub := sub_tuple_self
  have hinit := init_tuple_lookup
  have hmh := madeHere_tuple
  have hTI : s.TypeIs (.ref r) "dict" := KS.type _ hok
  have hh1 : A.in1.handled = none := hh
  wp_walk using wpAny_typeOf hTI, PySem.W.kdu_collect (A := A.in1) KS hh1 hok hn
  intro h' tk acc hk hacc
  show wpAny _ _ (Builtin.Tuple.tupleExact acc.toList.toArray >>= fun v => ret v) _ _ _
  unfold Builtin.Tuple.tupleExact
  refine wpAny_bind (wpAny_newObj_type ?_ (by show acc.toList.toArray.size ≤ sizeLine; simp only [Array.toArray_toList]; rw [hacc.1]; exact hn))
  refine wpAny_pure ?_
  have e : acc.toList.toArray = acc := by simp
  rw [e]
  exact h h' tk acc hk hacc
theorem call_tuple_dict {Q : Value → Shared → Prop} (KS : PySem.W.KdlSrc prog w "dict" r d n P OK) (hh : A.handled = none) (hok : OK s.heap) (hn : n ≤ sizeLine)
    (hQ : ∀ (h' : Heap) (tk : Nat) (acc : Array Value), (∀ b o, s.heap.get? b = some o → h'.get? b = some o) → ItemsOf P acc n → Q (.ref h'.objs.size) { s with heap := h'.push { cls := .type "tuple", data := .seq acc }, toks := tk }) :
    wpAny (model prog w) A (call (.type "tuple") [.ref r]) Q E s := by
  refine callType_codes (Q₁ := fun obj s₁ => s₁.TypeIs obj "tuple" ∧ Q obj s₁) F.called_tuple (F.typeCall_tuple_1 _) F.entry_object_init
    (code_tuple_new_dict (A := A.in1) KS hh hok hn fun h' tk acc hk hacc => ⟨⟨_, Heap.get?_push_size _ rfl, rfl⟩, hQ h' tk acc hk hacc⟩) fun obj s₁ h₁ => ?_
  exact ⟨h₁.1, F.args_object_init_2 obj _, object_init_meets F.called_tuple.init.lookup F.called_tuple.made (by decide) prog w A.in1 _ s₁ ⟨h₁.1, rfl, h₁.2⟩⟩
end
/-- list(d), tuple(d): the keys -/
def qListD : List V → Hp → VK → Prop := fun xs H Q => ∃ p kvs, xs = [.ref p] ∧ H p = some (.dK kvs) ∧ ∀ q H', New H q (.lst (kvs.map fun kv => kV kv.1)) H' → Q (.ref q) H'
theorem call_listDn {X : Cx} (hc : X.calm = true) : CallR X (.type "list") qListD := CallR.weak (call_list_dK hc) fun xs H Q q => by
  obtain ⟨p, kvs, e, h, k⟩ := q
  exact ⟨p, kvs, e, h, fun q hq => k q _ (.mk' hq)⟩
def qTupD : List V → Hp → VK → Prop := fun xs H Q => ∃ p kvs, xs = [.ref p] ∧ H p = some (.dK kvs) ∧ ∀ q H', New H q (.tup (kvs.map fun kv => kV kv.1)) H' → Q (.ref q) H'
theorem call_tupDn {X : Cx} (hc : X.calm = true) : CallR X (.type "tuple") qTupD := by
  intro pins s σ H xs us Q I r h
  obtain ⟨p, kvs, e, hk, q⟩ := h
  subst e
  obtain ⟨u, eu, rx⟩ := vals1 r
  subst eu
  obtain rfl : u = Value.ref p := rx
  obtain ⟨z, lo, vs, rk, hd⟩ := (show ObjOk X.prog X.w H s.heap p (.dK kvs) from I.hok p _ hk)
  obtain ⟨ep, hat⟩ := hd.dictAt
  have hl : kvs.length = vs.length := Paired.length rk
  refine call_tuple_dict (PySem.W.kdl_dict (knd := mixKind X.prog X.w) (kvs := vs) (ep := ep) lo) (I.ok.hd hc) hat (by rw [← hl]; exact z) fun h' tk acc' hkeep hacc => ?_
  have I2 : Inv X pins σ H { s with heap := h', toks := tk } := I.kept hkeep
  refine ⟨.ref h'.objs.size, upd H h'.objs.size (.tup (kvs.map fun kv => kV kv.1)), I2.laid (t' := tk) (fun c o e => Heap.get?_push_of_some _ e) (Nat.le_refl _) (show ObjOk X.prog X.w _ _ _ (.tup (kvs.map fun kv => kV kv.1)) from ⟨?_, acc'.toList, ?_, ?_⟩), rfl, q _ _ (.mk' (I2.hok.fresh (Nat.le_refl _)))⟩
  · rw [List.length_map]; exact z
  · have el : acc'.toList.length = acc'.size := by simp
    refine vals_of_at (by rw [List.length_map, el, hacc.1, hl]) fun j x w h1 h2 => ?_
    obtain ⟨k, y, hky, hi⟩ := hacc.2 j w (by rw [← Array.getElem?_toList]; exact h2)
    have e1 : (kvs.map (·.1))[j]? = some k := by
      rw [KV.keys rk, List.getElem?_map, hky] <;> rfl
    have e2 : (kvs.map fun kv => kV kv.1)[j]? = some (kV k) := by
      have e3 : (kvs.map fun kv => kV kv.1) = (kvs.map (·.1)).map kV := by rw [List.map_map] <;> rfl
      rw [e3, List.getElem?_map, e1] <;> rfl
    rw [e2] at h1
    cases h1
    exact keyIs_rel hi
  · rw [Array.toArray_toList]; exact IsTup.new _ _
end My
end
section
set_option Elab.async false
set_option linter.all false
set_option maxRecDepth 100000
set_option maxHeartbeats 2000000
/-! a dict's keys in a drawn order. -/
namespace My
open PySem PySem.Spec PyProof.Rows L2
def sp_shufD : Sp := fun vs H Q _ => ∃ (p c d : Addr) (kvs : List (Key × V)) (n : Nat), vs = [.ref p, .ref d] ∧ PenAt H p c n ∧ n + kvs.length < 2 ^ 60 ∧ H d = some (.dK kvs) ∧ kvs.length ≤ 1000000 ∧
  ∀ H' r ys, DrewP H p c (n + kvs.length) H' → H r = none → H' r = some (.lst ys) → ys.Perm (kvs.map fun kv => kV kv.1) → Q (.ref r) H'
section
variable {P : Program} {w : World} {K : PySem.W.Frag} {mg : Str → Option Value} {base : Heap}
theorem ok_shufD {f fD : Addr} {fd fdD : FuncData} (F : Fun K "_law_shuffled" "_law_shuffled" s_shuf f fd) (T : TDraw mg) (Tl : mg "list" = none) (D : Def K mg "_law_draw" fD fdD ["_law_pen_here", "_law_many"]) (G : FnOk P w K mg base CX0 1 fD fdD ["_law_pen_here", "_law_many"] sp_draw) :
    FnOk P w K mg base CX0 2 f fd ["_law_pen_here", "_law_items"] sp_shufD := by
  refine F.ok sc_shuf (fun vs H Q E h => ?_) (fun cdv A outer s H vs Q E hr h => ?_)
  · obtain ⟨p, c, d, kvs, n, rfl, _⟩ := h
    rfl
  · obtain ⟨p, c, d, kvs, n, rfl, hP, hn, hS, hxl, k⟩ := h
    have hlk : (kvs.map fun kv => kV kv.1).length = kvs.length := List.length_map _
    refine ⟨_, pss_cons (ps_par (i := 2) (j := 3) rfl sc_shuf.nd rfl rfl (by decide) rfl rfl (pa_cons (pe_callTy (call_listDn rfl) (by rfl) Tl (by decide +kernel) (pa_cons (pv 1) pa_nil)) (pa_cons (pe_lst' pa_nil) pa_nil)) (by rfl))
      (pss_cons (ps_while PassesOwn.never (pt_cmpR (op_neNil hr.units0) (pv 2) (pe_lst' pa_nil) (nomark _))
        (pss_one (ps_expr (pe_bm PySem.F.plainAttrs_list PySem.F.slot_list_append PySem.F.type_list_append mt_append' (pv 3) (pa_cons
          (pe_bm PySem.F.plainAttrs_list PySem.F.slot_list_pop PySem.F.type_list_pop mt_popAt' (pv 2) (pa_cons (pe_call G hr rfl D.mgf D.kp D.bd .nil pass0 (pa_cons (pv 0) (pa_cons (pe_callB call_len_seq (by rfl) T.len PySem.boot_len (pa_cons (pv 2) pa_nil)) pa_nil))) pa_nil)) pa_nil)))))
      (pss_one (ps_ret (pv 3)))), ?_⟩
    refine ⟨_, rfl, d, kvs, rfl, hS, fun a H1 n1 => ⟨by decide, fun b H2 n2 => ⟨_, _, rfl, ?_⟩⟩⟩
    rw [← hlk] at k hn hxl
    generalize (kvs.map fun kv => kV kv.1) = xs at k hn hxl n1
    have hpa : p ≠ a := hP.ne n1.free
    have hpb : p ≠ b := (hP.same n1.same).ne n2.free
    have hca : c ≠ a := hP.neC n1.free
    have hcb : c ≠ b := (hP.same n1.same).neC n2.free
    have hab : a ≠ b := ne_of_none n1.here n2.free
    have hb0 : H b = none := by
      cases e : H b with
      | none => rfl
      | some o => have := n1.same _ _ e; rw [n2.free] at this; cases this
    have s2 : Same H H2 := n1.same.trans n2.same
    refine while_by (fun σ H' => ∃ (left found : List V) (m : Nat), σ = [some (.ref p), some (.ref d), some (.ref a), some (.ref b)] ∧ H' a = some (.lst left) ∧ H' b = some (.lst found) ∧ But p H H' ∧ PenAt H' p c m ∧ m + left.length ≤ n + xs.length ∧ (found ++ left).Perm xs)
      (fun _ H' => match H' a with | some (.lst l) => l.length | _ => 0) ⟨xs, [], n, rfl, n2.same _ _ n1.here, n2.here, .of s2, hP.same s2, Nat.le_refl _, by simp⟩ ?_ ?_
    · rintro σ H3 ⟨left, found, m, rfl, ha, hb, hB, hP3, hm, hperm⟩
      have hlen := hperm.length_eq
      rw [List.length_append] at hlen
      refine ⟨_, rfl, by decide, fun q H4 n4 => ⟨a, q, left, rfl, rfl, SqL.of (n4.same _ _ ha), n4.here, _, rfl, ?_⟩⟩
      have ha4 := n4.same _ _ ha
      have hb4 := n4.same _ _ hb
      have hP4 := hP3.same n4.same
      refine ite2 (fun ht => ?_) (fun hf => ?_)
      · have hpos : 0 < left.length := by
          cases left with
          | nil => simp at ht
          | cons _ _ => simp
        refine ⟨_, rfl, .inl ⟨rfl, _, SqL.of hb4⟩, _, rfl, .inl ⟨rfl, _, SqL.of ha4⟩, _, rfl, _, rfl, a, _, rfl, .inl (SqL.of ha4), p, c, _, m, rfl, hP4, by omega, by omega, by omega, fun H5 r hD r0 r1 => ?_⟩
        obtain ⟨j, rfl⟩ : ∃ j : Nat, r = j := ⟨_, (Int.toNat_of_nonneg r0).symm⟩
        have hj : j < left.length := by omega
        have ha5 := hD.but a _ hpa.symm ha4
        have hb5 := hD.but b _ hpb.symm hb4
        refine ⟨a, left, left[j], j, rfl, rfl, ha5, by simp [hj], by omega, fun H6 w6 => ?_⟩
        have hb6 : H6 b = some (.lst found) := (w6.els b hab.symm).trans hb5
        have fits : found.length < sizeLine := Nat.lt_of_le_of_lt (show found.length ≤ 1000000 by omega) (by decide)
        refine ⟨b, found, left[j], rfl, rfl, hb6, fits, fun H7 w7 => ?_⟩
        refine ⟨⟨left.eraseIdx j, found ++ [left[j]], m + 1, rfl, (w7.els a hab).trans w6.here, w7.here, ?_, ?_, ?_, ?_⟩, ?_⟩
        · exact But.wr (But.wr ((hB.trans (.of n4.same)).trans hD.but) n1.free w6) hb0 w7
        · exact (hD.pen.els w6 hpa hca).els w7 hpb hcb
        · rw [List.length_eraseIdx_of_lt hj]
          omega
        · rw [List.append_assoc]
          exact (List.Perm.append_left found (perm_eraseIdx hj)).trans hperm
        · show (match H7 a with | some (.lst l) => l.length | _ => 0) < (match H3 a with | some (.lst l) => l.length | _ => 0)
          rw [(w7.els a hab).trans w6.here, ha]
          show (left.eraseIdx j).length < left.length
          rw [List.length_eraseIdx_of_lt hj]
          omega
      · have hnil : left = [] := by
          cases left with
          | nil => rfl
          | cons _ _ => simp at hf
        subst hnil
        rw [List.append_nil] at hperm
        exact ⟨_, rfl, k _ b found ⟨hB.trans (.of n4.same), hP4.mono (by rw [List.length_nil] at hm; omega)⟩ hb0 hb4 hperm⟩
    · intro σ H Q Q' m h
      obtain ⟨v, e, h0, h⟩ := h
      refine ⟨v, e, h0, fun q H' n => ?_⟩
      obtain ⟨a, b, xs, e1, e2, h1, h2, k, e3, h3⟩ := h q H' n
      exact ⟨a, b, xs, e1, e2, h1, h2, k, e3, m _ _ h3⟩
end
end My
end
section
set_option Elab.async false
set_option linter.all false
set_option maxRecDepth 100000
set_option maxHeartbeats 4000000
namespace My
open PySem PySem.Spec PyProof.Rows L2
/-! ### x[::-1], x a text of two signs; x * 3, x of one sign -/
def tRevS (te : TE) : TE := fun σ H Q => te σ H fun v H1 => ∃ x y, v = .str (mkS [x, y]) ∧ Q (.str (mkS [y, x])) H1
theorem pe_revS {X : Cx} {e : Expr} {te : TE} {k : Nat} {p1 p2 p3 pos : Pos} (he : PE X e te) : PE X (.Subscript e (.Slice none none (some (.UnaryOp .USub (.Constant (.int 1) k p1) p2)) p3) pos) (tRevS te) := by
  constructor
  intro pins s σ H Q I want
  apply Subscript_
  apply thn (he.run pins s σ H _ I want)
  intro v s1 got
  obtain ⟨v', H1, I1, r1, x, y, rfl, q⟩ := got
  obtain ⟨t, rfl⟩ := r1
  have stepP : PO X (some (.UnaryOp .USub (.Constant (.int 1) k p1) p2)) (tPart (tUn (rU fun i => .int (-i)) (tC (.int 1)))) := po_some (pe_un un_neg pe_int)
  apply wpAny_Slice
  apply thn (po_none.run pins s1 σ H1 (fun o G => o = none ∧ G = H1) I1 ⟨rfl, rfl⟩)
  rintro vl s2 ⟨l, H2, I2, pl, rfl, rfl⟩
  apply thn (po_none.run pins s2 σ _ (fun o G => o = none ∧ G = H2) I2 ⟨rfl, rfl⟩)
  rintro vu s3 ⟨u, H3, I3, pu, rfl, rfl⟩
  apply thn (stepP.run pins s3 σ _ (fun o G => o = some (-1) ∧ G = H3) I3 ⟨1, rfl, -1, rfl, rfl, rfl⟩)
  rintro vs s4 ⟨o, H4, I4, ps, rfl, rfl⟩
  have I5 : Inv X pins σ H4 { s4 with heap := s4.heap.push { cls := .type "slice", data := .fields #[vl, vu, vs] } } := I4.kept (t' := s4.toks) fun b ob z => Heap.get?_push_of_some _ z
  obtain ⟨l', rfl, el⟩ := IsPart.raw pl
  obtain ⟨u', rfl, eu⟩ := IsPart.raw pu
  obtain ⟨st, rfl, es⟩ := IsPart.raw ps
  show wpAny (model X.prog X.w) X.A (subscriptTail e (.Slice none none (some (.UnaryOp .USub (.Constant (.int 1) k p1) p2)) p3) (.str (mkS [x, y]) t) (.ref s4.heap.objs.size)) (EP X pins σ Q) X.xe _
  refine tail_any (ops := [.str (mkS [x, y]) t, .ref s4.heap.objs.size]) (typeIs_str _ _ _) slot_str_getitem.lookup ?_ (by with_unfolding_all rfl)
  refine wpAny_getItem_str_slice (l := l') (u := u') (st := st) (Heap.IsSliceOf.new _ _ _ _) (by rw [es]; decide) ?_
  cases l' with
  | some q => cases el
  | none =>
  cases u' with
  | some q => cases eu
  | none =>
  cases st with
  | none => cases es
  | some q1 =>
  obtain ⟨i, tk⟩ := q1
  obtain rfl : i = -1 := Option.some.inj es
  have hp : slicePicked (mkS [x, y]) none none (some (-1, tk)) = [1, 0] := by
    show Builtin.Str.strSliceIndices none none (-1) 2 = [1, 0]
    decide +kernel
  unfold sliceMade
  rw [hp, if_neg (by simp)]
  exact ⟨by show 2 ≤ sizeLine; decide, .str (mkS [y, x]), _, I5.tok _, ⟨_, rfl⟩, q⟩
/-- x * n -/
def rTimes : R2 := fun x y H Q => ∃ c, x = .str (mkS [c]) ∧ y = .int 3 ∧ Q (.str (mkS [c, c, c])) H
theorem op_times {X : Cx} : OpR X (binaryOp .Mult) rTimes := by
  intro pins s σ H x y v u Q I rx ry want
  obtain ⟨c, rfl, rfl, q⟩ := want
  obtain ⟨t, rfl⟩ := rx
  obtain ⟨t2, rfl⟩ := ry
  refine P.mul_str (by decide) (fun _ _ => ?_) (fun _ _ => ?_) ?_
  · show ¬ ((1 : Nat) : Int) > _
    decide
  · first | rfl | decide
  · rw [if_neg (by decide)]
    exact ⟨by show 3 ≤ sizeLine; decide, .str (mkS [c, c, c]), H, I.tok _, ⟨_, rfl⟩, q⟩
end My
end
section
set_option Elab.async false
set_option linter.all false
set_option maxRecDepth 100000
set_option maxHeartbeats 2000000
/-! a text of two signs, or the same the other way round. -/
namespace My
open PySem PySem.Spec PyProof.Rows L2
def sp_flipS : Sp := fun vs H Q _ => ∃ (p c : Addr) (x y : Nat) (n : Nat), vs = [.ref p, .str (mkS [x, y])] ∧ PenAt H p c n ∧ n < 2 ^ 60 ∧
  ∀ H' z, DrewP H p c (n + 1) H' → (z = mkS [x, y] ∨ z = mkS [y, x]) → Q (.str z) H'
section
variable {P : Program} {w : World} {K : PySem.W.Frag} {mg : Str → Option Value} {base : Heap}
theorem ok_flipS {f fP : Addr} {fd fdP : FuncData} (F : Fun K "_law_flipped" "_law_flipped" s_flip f fd) (D : Def K mg "_law_pick" fP fdP ["_law_pen_here", "_law_options"]) (G : FnOk P w K mg base CX0 2 fP fdP ["_law_pen_here", "_law_options"] (sp_pick K)) :
    FnOk P w K mg base CX0 3 f fd ["_law_pen_here", "_law_pair"] sp_flipS := by
  refine F.ok sc_flip (fun vs H Q E h => ?_) (fun cdv A outer s H vs Q E hr h => ?_)
  · obtain ⟨p, c, x, y, n, rfl, _⟩ := h
    rfl
  · obtain ⟨p, c, x, y, n, rfl, hP, hn, k⟩ := h
    refine ⟨_, pss_one (ps_ret (pe_call G hr rfl D.mgf D.kp D.bd .nil pass0 (pa_cons (pv 0) (pa_cons (pe_lst' (pa_cons (pv 1) (pa_cons (pe_revS (pv 1)) pa_nil))) pa_nil)))), ?_⟩
    refine ⟨_, rfl, _, rfl, _, rfl, x, y, rfl, by show 2 ≤ sizeLine; decide, fun a H2 n2 => ?_⟩
    have ha : a ≠ p := fun e => hP.ne n2.free e.symm
    refine ⟨p, c, a, _, n, rfl, hP.same n2.same, hn, SqL.of n2.here, ha, by show 0 < 2; decide, by show 2 ≤ 1000000; decide, fun H3 v hD hv => ?_⟩
    have dr : DrewP H p c (n + 1) H3 := ⟨(But.of n2.same).trans hD.but, hD.pen⟩
    rcases List.mem_cons.mp hv with rfl | hv
    · exact k _ _ dr (.inl rfl)
    · rcases List.mem_cons.mp hv with rfl | hv
      · exact k _ _ dr (.inr rfl)
      · cases hv
end
end My
end
section
set_option Elab.async false
set_option linter.all false
set_option maxRecDepth 100000
set_option maxHeartbeats 4000000
/-! Qpl: drawn fonts and counts. -/
namespace My
open PySem PySem.Spec PyProof.Rows L2 LamX
theorem alpha_low' : ∀ c ∈ alphabet.cps.toList, c < 128 := by decide +kernel
theorem good_tx {m : Nat} {S : Str} {ps : List (Nat × Nat)} (g : Good m S ps) : Tx m S := ⟨g.hi, fun c hc => alpha_low' c (g.ab c hc)⟩
theorem PenAt.butL {H H1 : Hp} {p c l : Addr} {n : Nat} (b : But l H H1) (h1 : p ≠ l) (h2 : c ≠ l) (h : PenAt H p c n) : PenAt H1 p c n := by
  obtain ⟨cs, u, z, e1, e2, e3, e4, e5⟩ := h
  exact ⟨cs, u, z, b _ _ h1 e1, b _ _ h2 e2, e3, e4, e5⟩
/-- a drawn font and drawn counts of a turn -/
structure Pl (H : Hp) (t t1 b d : Addr) (S : Str) (ys : List V) (ps : List (Nat × Nat)) (cs : List (Str × Int)) : Prop where
  at_ : PlainAt H t t1 b d S ys ps cs
  good : Good 10 S ps
  csp : CsP S big30 cs
section
variable {H H1 : Hp} {t t1 b d : Addr} {S : Str} {ys : List V} {ps : List (Nat × Nat)} {cs : List (Str × Int)}
theorem Pl.same (s : Same H H1) (h : Pl H t t1 b d S ys ps cs) : Pl H1 t t1 b d S ys ps cs := ⟨h.at_.same s, h.good, h.csp⟩
theorem Pl.ext (s : ExtN H H1) (h : Pl H t t1 b d S ys ps cs) : Pl H1 t t1 b d S ys ps cs := ⟨h.at_.ext s, h.good, h.csp⟩
theorem Pl.pen {p c : Addr} {n : Nat} (hP : PenAt H p c n) (s : But p H H1) (h : Pl H t t1 b d S ys ps cs) : Pl H1 t t1 b d S ys ps cs := ⟨h.at_.pen hP s, h.good, h.csp⟩
theorem Pl.no (h : Pl H t t1 b d S ys ps cs) : 45 ∉ S.cps.toList := no_dash h.good
theorem Pl.csb (h : Pl H t t1 b d S ys ps cs) : CsB S cs := csp_ok h.good.hi h.good.nd h.no (by decide +kernel) h.csp
end
/-- entries that can be shown -/
def EnT (es : List (Str × Int)) : Prop := (∀ e ∈ es, Tx 2 e.1 ∧ Num e.2) ∧ es.length ≤ 110
theorem ent_of {S : Str} {cs es : List (Str × Int)} {l : List Str} (ab : ∀ c ∈ S.cps.toList, c ∈ alphabet.cps.toList) (hc : CsB S cs) (hin : ∀ k ∈ l, k ∈ cs.map (·.1)) (hl : l.length ≤ 110) (hp : Paired (FlipR cs) l es) : EnT es := by
  refine ⟨?_, by rw [← Paired.length hp]; exact hl⟩
  clear hl
  induction hp with
  | nil => intro e he; cases he
  | cons hr _ ih =>
    rename_i k e l es _
    intro x hx
    rcases List.mem_cons.mp hx with rfl | hx
    · have hk := hin k List.mem_cons_self
      obtain ⟨e0, he0, ek⟩ := List.mem_map.mp hk
      obtain ⟨a, c, ez, ha, hc'⟩ := ks_cps (hc.inS e0 he0)
      obtain ⟨⟨p, q, e1, e2⟩, e3⟩ := hr
      rw [ek] at ez
      obtain ⟨rfl, rfl⟩ := mkS_two (e1.symm.trans ez)
      have sa : p < 128 := alpha_low' _ (ab _ ha)
      have sq : q < 128 := by
        rcases hc' with rfl | h
        · decide
        · exact alpha_low' _ (ab _ h)
      refine ⟨?_, ?_⟩
      · rcases e2 with e2 | e2 <;> rw [e2] <;> refine ⟨by rw [mkS_len]; exact Nat.le_refl 2, fun z hz => ?_⟩
        · have hz : z = p ∨ z = q := by simpa using hz
          rcases hz with rfl | rfl <;> assumption
        · have hz : z = q ∨ z = p := by simpa using hz
          rcases hz with rfl | rfl <;> assumption
      · have ec : gC cs k = e0.2 := by
          unfold gC
          rw [← ek, ctK_nd hc.nd he0]
          rfl
        rw [e3, ec]
        obtain ⟨b1, b2⟩ := hc.bd e0 he0
        refine num_small ?_
        have : e0.2.natAbs ≤ 10 ^ 31 := by omega
        exact Nat.lt_of_le_of_lt this (by decide +kernel)
    · exact ih (fun z hz => hin z (List.mem_cons_of_mem _ hz)) x hx
theorem cs_tx {S : Str} {cs : List (Str × Int)} (ab : ∀ c ∈ S.cps.toList, c ∈ alphabet.cps.toList) (hc : CsB S cs) : ∀ e ∈ cs, Tx 2 e.1 ∧ Num e.2 := fun e he => by
  obtain ⟨a, c, ez, ha, hc'⟩ := ks_cps (hc.inS e he)
  have sq : c < 128 := by
    rcases hc' with rfl | h
    · decide
    · exact alpha_low' _ (ab _ h)
  refine ⟨?_, ?_⟩
  · rw [ez]
    refine ⟨by rw [mkS_len]; exact Nat.le_refl 2, fun z hz => ?_⟩
    have hz : z = a ∨ z = c := by simpa using hz
    rcases hz with rfl | rfl
    · exact alpha_low' _ (ab _ ha)
    · exact sq
  · obtain ⟨b1, b2⟩ := hc.bd e he
    refine num_small ?_
    have : e.2.natAbs ≤ 10 ^ 31 := by omega
    exact Nat.lt_of_le_of_lt this (by decide +kernel)
theorem EntAt.extL {H H1 : Hp} {es : List (Str × Int)} {ys : List V} (s : ExtL H H1) (h : EntAt H es ys) : EntAt H1 es ys := Paired.map (fun e y hy => by
  obtain ⟨q, e1, e2⟩ := hy
  exact ⟨q, e1, s _ _ e2 (fun _ z => by cases z)⟩) h
theorem CaseAt.extL {H H1 : Hp} {CC C a : Addr} {S : Str} {ps : List (Nat × Nat)} {cs : List (Str × Int)} (s : ExtL H H1) (h : CaseAt H CC C a S ps cs) : CaseAt H1 CC C a S ps cs := by
  obtain ⟨dx, fa, dd, tp, es, h1, h2, h3, h4, h5⟩ := h.at_
  exact ⟨dx, fa, dd, tp, es, s _ _ h1 (fun _ z => by cases z), h2.extL s, s _ _ h3 (fun _ z => by cases z), s _ _ h4 (fun _ z => by cases z), EntAt.extL s h5⟩
/-- entries of these kinds, some the other way round -/
theorem lc_fl {K : PySem.W.Frag} {r D p c : Addr} {l : List Str} {cs : List (Str × Int)} {n i : Nat} {te : TE} {vs : List Nat} {σ : L2.St} {H1 : Hp} {Qd : Hp → Prop} (hP : PenAt H1 p c n) (hA : H1 r = some (.lst (l.map V.str))) (hap : r ≠ p) (small : l.length ≤ 110) (free : H1 D = none)
    (hw : ∀ x, wipe ((wipe σ vs).set i (some x)) vs = wipe σ vs)
    (he : ∀ (j : Nat) (k : Str) (H' : Hp) (C : VK), l[j]? = some k → j < 110 → But p H1 H' → PenAt H' p c (n + j) → (∀ H2 q z, DrewP H' p c (n + j + 1) H2 → FlipR cs k (z, gC cs k) → H2 q = some (.tup [.str z, .int (gC cs k)]) → C (.ref q) H2) → te ((wipe σ vs).set i (some (.str k))) H' C)
    (hd : ∀ H' zs es, DrewP H1 p c (n + 110) H' → H' D = some (.lst zs) → EntAt H' es zs → Paired (FlipR cs) l es → Qd H') :
    ∃ W : Nat → Nat → Hp → Prop, (∃ m, W 0 m (upd H1 D (.lst []))) ∧ ∀ j m H, W j m H →
      ((Itl K r).stop j H ∧ Qd H) ∨ ((Itl K r).go j H ∧ ∃ Nx : Hp → Prop, (∀ H', Nx H' → ∃ m', m' < m ∧ W (j + 1) m' H') ∧ ∀ x H', (Itl K r).yld j H x H' → gName i x (wipe σ vs) H' fun σ2 H2 => wipe σ2 vs = wipe σ vs ∧ tYes σ2 H2 fun b H3 =>
        if b = true then te σ2 H3 fun y H4 => ∃ acc, H4 D = some (.lst acc) ∧ acc.length < sizeLine ∧ Nx (upd H4 D (.lst (acc ++ [y]))) else Nx H3) := by
  have pD : p ≠ D := hP.ne free
  have cD : c ≠ D := hP.neC free
  refine lc_it walk_list (fun j H' => But p H1 H' ∧ PenAt H' p c (n + j) ∧ ∃ zs es, H' D = some (.lst zs) ∧ EntAt H' es zs ∧ Paired (FlipR cs) (l.take j) es ∧ zs.length = j)
    ⟨But.wr (But.refl H1) free .mk', (hP.mono (by omega)).els .mk' pD cD, [], [], upd_same, .nil, by simp; exact .nil, rfl⟩ (fun j H' _ q => SqL.of (q.1 _ _ hap hA)) ?_ ?_
  · rintro j x H2 H3 hj ⟨hB, hPj, zs, es, hD, hE, hpr, hzl⟩ ⟨rfl, hx⟩
    rw [List.length_map] at hj
    obtain ⟨k, hk⟩ : ∃ k, l[j]? = some k := ⟨l[j]'hj, by simp [hj]⟩
    obtain rfl : x = .str k := by
      rw [List.getElem?_map, hk] at hx
      exact (Option.some.inj hx).symm
    refine ⟨hw _, ?_⟩
    unfold tYes
    refine iteT (he j k _ _ hk (by omega) hB hPj fun H4 q z d4 fl hq => ?_)
    have hD4 : H4 D = some (.lst zs) := d4.but _ _ pD.symm hD
    have hE4 := EntAt.pen hPj d4.but hE
    have w5 : Wr H4 D (.lst (zs ++ [.ref q])) (upd H4 D (.lst (zs ++ [.ref q]))) := .mk'
    have qD : q ≠ D := ne_of hq hD4 (by intro z; cases z)
    refine ⟨zs, hD4, Nat.lt_of_le_of_lt (show zs.length ≤ 110 by omega) (by decide), But.wr (hB.trans d4.but) free w5, d4.pen.els w5 pD cD, _, es ++ [(z, gC cs k)], upd_same, Paired.snoc (EntAt.extL (ExtL.wr hD4 w5) hE4) ⟨q, rfl, (w5.els q qD).trans hq⟩, ?_, by simp [hzl]⟩
    have nx : l.take (j + 1) = l.take j ++ [k] := by
      rw [List.take_add_one, hk]
      rfl
    rw [nx]
    exact Paired.snoc hpr fl
  · rintro H' ⟨hB, hPn, zs, es, hD, hE, hpr, hzl⟩
    rw [List.length_map] at hPn hpr
    rw [List.take_length] at hpr
    exact hd H' zs es ⟨hB, hPn.mono (by omega)⟩ hD hE hpr
theorem perm_strs {L : List Str} {ys : List V} (h : ys.Perm (L.map V.str)) : ∃ l : List Str, ys = l.map V.str ∧ l.Perm L := by
  have key : Paired (fun (a : Str) (y : V) => y = V.str a) L (L.map V.str) := by
    clear h
    induction L with
    | nil => exact .nil
    | cons a L ih => exact .cons rfl ih
  obtain ⟨l, h1, h2⟩ := paired_perm h key
  refine ⟨l, ?_, h2⟩
  clear h2 h key
  induction h1 with
  | nil => rfl
  | cons e _ ih => rw [e, ih]; rfl
end My
end
section
set_option Elab.async false
set_option linter.all false
set_option maxRecDepth 100000
set_option maxHeartbeats 4000000
/-! Pents: entries as data. -/
namespace My
open PySem PySem.Spec PyProof.Rows L2
def enD (e : Str × Int) : PyData := .tuple [.str e.1, .int e.2]
theorem rp_ents {K : PySem.W.Frag} {H : Hp} {p : Addr} {o : HO} (hp : H p = some o) (no : ∀ xs, o ≠ .tup xs) {st : Bool} : ∀ {cs : List (Str × Int)} {ys : List V}, EntAt H cs ys → RpAll K p H st ys (cs.map enD)
  | _, _, .nil => .nil _
  | _, _, .cons ⟨q, e, h⟩ t => by
    subst e
    exact .cons (.tup h (fun z => by rw [z, hp] at h; exact no _ (Option.some.inj h)) (.cons (.str _ _) (.cons (.int _ _) (.nil _)))) (rp_ents hp no t)
theorem ents_nd' : ∀ es : List (Str × Int), PyData.hasDictAll (es.map enD) = false
  | [] => rfl
  | e :: es => by
    show ((false || (false || false)) || PyData.hasDictAll (es.map enD)) = false
    rw [ents_nd' es]
    rfl
end My
end
section
set_option Elab.async false
set_option linter.all false
set_option maxRecDepth 100000
set_option maxHeartbeats 4000000
/-! Pmkc: Case(..). -/
namespace My
open PySem PySem.Spec PyProof.Rows L2 LamX
def qMkC (K : PySem.W.Frag) (CC C : Addr) (dvs : List V) (t : TA) : TE := fun σ H Q => t σ H fun vs H1 => ∃ (fa b p : Addr) (d : PyData) (S : Str) (ps : List (Nat × Nat)) (es : List (Str × Int)) (ys : List V), vs ++ dvs = [.ref fa, .ref b] ∧ Rp K p H1 false (.ref b) d ∧ isSeqD d = true ∧ FontAt H1 C fa S ps ∧ S.length ≤ 10 ∧ S.cps.toList.Nodup ∧ 45 ∉ S.cps.toList ∧ (SqL K H1 b ys ∨ SqT K H1 b ys) ∧ EntAt H1 es ys ∧ EntOk S es ∧
  ∀ H' a, Same H1 H' → H1 a = none → CaseAt H' CC C a S ps (cntd S es) → Q (.ref a) H'
theorem pe_case {X : Cx} {CC C f : Addr} {fd : FuncData} {ds : List Value} {dvs : List V} {e : Expr} {es : List Expr} {p pos : Pos} {t : TA} (M : Mk X.K CC f) (G : FnOk X.prog X.w X.K X.mg X.base CX0 6 f fd ["self", "font", "plates"] (sp_cinit X.K CC C)) (hr : Room 7 X.A) (hg : Gl X "Case") (hm : X.mg "Case" = some (.ref CC))
    (hb : Binds X.K fd ["self", "font", "plates"] ds) (hd : Vals dvs ds) (ha : PA X (e :: es) t) (he : starEach (e :: es) X.env = (false, eval e X.env) :: starEach es X.env := by rfl) (hpl : (backTo pos (starEach es X.env)).any (·.1) = false := by rfl) :
    PE X (.Call (.Name "Case" p) (e :: es) [] pos) (qMkC X.K CC C dvs t) :=
  PE.weak (pe_make M G hr hg hm hb hd pass0 (PA.mc ha) (by decide) he hpl) fun σ H Q q => ⟨_, q, fun vs H1 z => by
    obtain ⟨fa, b, p, d, S, ps, es, ys, ev, hv, hs, hF, hS, nd, no, hsq, hE, ok, k⟩ := z
    intro x dx hx hdx ne
    rw [ev]
    have s := made_up (C := CC) hx hdx
    exact ⟨x, dx, fa, b, p, d, S, ps, es, ys, rfl, upd_same, hv.but (.of s), hs, hF.same s, hS, nd, no, hsq.imp (fun h => s.seq h) (fun h => s.tupl h), hE.same s, ok, fun H' bt ca => ⟨rfl, k H' x (made_same hx hdx bt) hx ca⟩⟩⟩
end My
end
section
set_option Elab.async false
set_option linter.all false
set_option maxRecDepth 100000
set_option maxHeartbeats 4000000
namespace My
open PySem PySem.Spec PyProof.Rows L2
abbrev s_fmade : Stmt := topS 54
def sp_fmade (K : PySem.W.Frag) (C : Addr) : Sp := fun vs H Q _ => ∃ (p c t b : Addr) (n : Nat) (S : Str) (ys : List V) (ps : List (Nat × Nat)), vs = [.ref p, .ref t] ∧ PenAt H p c n ∧ n < 2 ^ 50 ∧ H t = some (.tup [.str S, .ref b]) ∧ SqL K H b ys ∧ PairsAt H ps ys ∧ Good 10 S ps ∧
  ∀ H' a, But p H H' → PenAt H' p c (n + 20) → FontAt H' C a S (dueOf S (headsAll ps)) → Q (.ref a) H'
section
variable {P : Program} {w : World} {K : PySem.W.Frag} {mg : Str → Option Value} {base : Heap}
abbrev NFm : List Str := ["_law_pen_here", "_law_font_here", "_law_pair"]
theorem sc_fmade : FnScope NFm ["_law_pen_here", "_law_font_here"] (defScope s_fmade) := ⟨rfl, rfl, rfl, by decide +kernel, rfl, by decide +kernel, by decide +kernel⟩
theorem ok_fmade {f C fI fS fF : Addr} {fd fdI fdS fdF : FuncData} (F : Fun K "_law_font_made" "_law_font_made" s_fmade f fd) (M : Mk K C fI) (GI : FnOk P w K mg base CX0 4 fI fdI ["self", "signs", "turns"] (sp_init K C)) (bI : Binds K fdI ["self", "signs", "turns"] []) (gF : mg "Font" = some (.ref C))
    (DS : Def K mg "_law_shuffled" fS fdS ["_law_pen_here", "_law_items"]) (GS : FnOk P w K mg base CX0 2 fS fdS ["_law_pen_here", "_law_items"] (sp_shuf K))
    (DF : Def K mg "_law_flipped" fF fdF ["_law_pen_here", "_law_pair"]) (GF : FnOk P w K mg base CX0 3 fF fdF ["_law_pen_here", "_law_pair"] (sp_flip K)) :
    FnOk P w K mg base CX0 6 f fd ["_law_pen_here", "_law_font_here"] (sp_fmade K C) := by
  refine F.ok sc_fmade (fun vs H Q E h => ?_) (fun cdv A outer s H vs Q E hr h => ?_)
  · obtain ⟨p, c, t, b, n, S, ys, ps, rfl, _⟩ := h
    rfl
  · obtain ⟨p, c, t, b, n, S, ys, ps, rfl, hP, hn, ht, hb, hps, hG, k⟩ := h
    have r2 : Room 2 _ := hr.mono (by decide)
    have r3 : Room 3 _ := hr.mono (by decide)
    have hl := pairs_len hG
    have hyl := hps.length
    refine ⟨_, pss_one (ps_ret (pe_font M GI hr rfl gF bI .nil (pa_cons (pe_ix ix_tup (pv 1) pe_int (fun _ _ => rfl)) (pa_cons (by exact (pe_lc (own := [("_law_pair", 2)]) (g := gName 2) (tt := tYes) rfl sc_fmade.nd (pi_list (pe_call GS r2 rfl DS.mgf DS.kp DS.bd .nil pass0 (pa_cons (pv 0) (pa_cons (pe_ix ix_tup (pv 1) pe_int (fun _ _ => rfl)) pa_nil))))
      (blkOk_by (own := [("_law_pair", 2)]) (N := NFm) (sc := defScope s_fmade) (by decide +kernel)) (fun _ _ _ _ _ => pg_name (i := 2) sc_fmade.nd rfl (Or.inl rfl)) (fun _ _ _ _ _ => pts_nil)
      (fun _ _ _ _ _ => pe_call (E := E0) GF r3 rfl DF.mgf DF.kp DF.bd .nil pass0 (pa_cons (pv 0) (pa_cons (pv 2) pa_nil))))) pa_nil)))), ?_⟩
    refine ⟨_, rfl, t, _, _, _, rfl, rfl, SqT.of ht, at0 _ _, _, rfl, _, rfl, t, _, _, _, rfl, rfl, SqT.of ht, at1 _ _, p, c, _, ys, n, rfl, hP, by omega, .lst hb, by omega, fun H1 r xs d1 f1 h1 perm => ?_⟩
    obtain ⟨ps2, hps2, perm2⟩ := paired_perm perm (hps.pen hP d1.but)
    have lxs := hps2.length
    have lps := perm2.length_eq
    refine ⟨r, rfl, ⟨_, SqL.of h1⟩, fun D1 hD1 => lc_flip (c := c) (n := n + ys.length) d1.pen h1 (fun z => hP.ne f1 z.symm) hps2 (by omega) hD1 (fun x => rfl) ?_ ?_⟩
    · rintro j q e H' C hj hPj hq hC
      refine ⟨_, rfl, _, rfl, p, c, q, _, _, _, rfl, hPj, by omega, hq, fun H2 r' d2 hr' => ?_⟩
      rcases hr' with hr' | hr'
      · exact hC H2 r' e d2 (.inl rfl) hr'
      · exact hC H2 r' (e.2, e.1) d2 (.inr rfl) hr'
    · rintro H' zs qs d2 hD hqs sm hl2
      have sm2 := same_trans (same_perm perm2) sm
      have abq := turns_ab hG sm2
      obtain ⟨_, _, _, _, nd⟩ := pairs_data qs abq
      obtain ⟨dfit, _, _, _⟩ := passed_data hl2 abq (.inl rfl)
      have d12 := d1.trans d2
      have hrp : Rp K p H' false (.ref D1) (.list (qs.map pairD)) := by
        obtain ⟨cs, u, z, hp, _⟩ := d2.pen
        exact .lst hD (fun z => d1.pen.ne hD1 z.symm) (fun z => by rw [nd] at z; cases z) (rp_pairs hp (fun xs z => by cases z) hqs)
      have kept : keptD S (.list (qs.map pairD)) = some (dueOf S (headsAll ps)) := kept_same sm2 hG.tnd hG.tin
      exact ⟨S, .ref D1, _, _, p, rfl, hrp, dfit, good_fontD (Nat.le_refl 10) hG, kept, fun H2 a s2 fa ft => k H2 a (d12.but.trans (.of s2)) ((d12.pen.mono (by omega)).same s2) ft⟩
end
end My
end
section
set_option Elab.async false
set_option linter.all false
set_option maxRecDepth 100000
set_option maxHeartbeats 4000000
/-! Qmadec: a case of the package from a drawn one. -/
namespace My
open PySem PySem.Spec PyProof.Rows L2 LamX
abbrev s_cmade : Stmt := topS 55
def sp_cmade (CC C : Addr) : Sp := fun vs H Q _ => ∃ (p c t t1 b d : Addr) (n : Nat) (S : Str) (ys : List V) (ps : List (Nat × Nat)) (cs : List (Str × Int)), vs = [.ref p, .ref t] ∧ PenAt H p c n ∧ n < 2 ^ 48 ∧ Pl H t t1 b d S ys ps cs ∧
  ∀ H' a, DrewP H p c (n + 400) H' → CaseAt H' CC C a S (dueOf S (headsAll ps)) cs → Q (.ref a) H'
section
variable {P : Program} {w : World} {K : PySem.W.Frag} {mg : Str → Option Value} {base : Heap}
abbrev NMc : List Str := ["_law_pen_here", "_law_plain_here", "_law_font_here", "_law_counts", "_law_plates", "_law_kind"]
theorem sc_cmade : FnScope NMc ["_law_pen_here", "_law_plain_here"] (defScope s_cmade) := ⟨rfl, rfl, rfl, by decide +kernel, rfl, by decide +kernel, by decide +kernel⟩
theorem ok_cmade {f CC C fI fM fS fF fP : Addr} {fd fdI fdM fdS fdF fdP : FuncData} (F : Fun K "_law_made" "_law_made" s_cmade f fd) (T : TB mg)
    (M : Mk K CC fI) (GI : FnOk P w K mg base CX0 6 fI fdI ["self", "font", "plates"] (sp_cinit K CC C)) (bI : Binds K fdI ["self", "font", "plates"] []) (gF : mg "Case" = some (.ref CC))
    (DM : Def K mg "_law_font_made" fM fdM ["_law_pen_here", "_law_font_here"]) (GM : FnOk P w K mg base CX0 6 fM fdM ["_law_pen_here", "_law_font_here"] (sp_fmade K C))
    (DS : Def K mg "_law_shuffled" fS fdS ["_law_pen_here", "_law_items"]) (GS : FnOk P w K mg base CX0 2 fS fdS ["_law_pen_here", "_law_items"] sp_shufD)
    (DF : Def K mg "_law_flipped" fF fdF ["_law_pen_here", "_law_pair"]) (GF : FnOk P w K mg base CX0 3 fF fdF ["_law_pen_here", "_law_pair"] sp_flipS)
    (DP : Def K mg "_law_pick" fP fdP ["_law_pen_here", "_law_options"]) (GP : FnOk P w K mg base CX0 2 fP fdP ["_law_pen_here", "_law_options"] (sp_pick K)) :
    FnOk P w K mg base CX0 8 f fd ["_law_pen_here", "_law_plain_here"] (sp_cmade CC C) := by
  refine F.ok sc_cmade (fun vs H Q E h => ?_) (fun cdv A outer s H vs Q E hr h => ?_)
  · obtain ⟨p, c, t, t1, b, d, n, S, ys, ps, cs, rfl, _⟩ := h
    rfl
  · obtain ⟨p, c, t, t1, b, d, n, S, ys, ps, cs, rfl, hP, hn, hT, k⟩ := h
    have hu := hu_of hr
    have r2 : Room 2 _ := hr.mono (by decide)
    have r3 : Room 3 _ := hr.mono (by decide)
    have r6 : Room 6 _ := hr.mono (by decide)
    refine ⟨_, pss_cons (ps_asg (pv 1) (pg_tup rfl (pgs_cons (pg_name (i := 2) sc_cmade.nd rfl (Or.inl rfl)) (pgs_cons (pg_name (i := 3) sc_cmade.nd rfl (Or.inr rfl)) pgs_nil))))
      (pss_cons (ps_setLc (i := 4) (own := [("_law_kind", 5)]) (g := gName 5) (tt := tYes) rfl sc_cmade.nd rfl rfl (sw_true rfl rfl rfl (by decide +kernel)) (pi_list (pe_call GS r2 rfl DS.mgf DS.kp DS.bd .nil pass0 (pa_cons (pv 0) (pa_cons (pv 3) pa_nil))))
        (blkOk_by (own := [("_law_kind", 5)]) (N := NMc) (sc := defScope s_cmade) (by decide +kernel)) (fun _ _ _ _ _ => pg_name (i := 5) sc_cmade.nd rfl (Or.inl rfl)) (fun _ _ _ _ _ => pts_nil)
        (fun _ _ _ _ _ => pe_tup' (pa_cons (pe_call (E := E0) GF r3 rfl DF.mgf DF.kp DF.bd .nil pass0 (pa_cons (pv 0) (pa_cons (pv 5) pa_nil))) (pa_cons (pe_dget hu (pv 3) (pv 5) (fun _ _ => rfl)) pa_nil))))
      (pss_one (ps_ret (pe_case M GI hr rfl gF bI .nil (pa_cons (pe_call GM r6 rfl DM.mgf DM.kp DM.bd .nil pass0 (pa_cons (pv 0) (pa_cons (pv 2) pa_nil)))
        (pa_cons (pe_call GP r2 rfl DP.mgf DP.kp DP.bd .nil pass0 (pa_cons (pv 0) (pa_cons (pe_lst' (pa_cons (pv 4) (pa_cons (pe_callTy call_tupOfL (by rfl) T.tuple (by decide +kernel) (pa_cons (pv 4) pa_nil)) pa_nil))) pa_nil))) pa_nil)))))), ?_⟩
    refine ⟨_, rfl, t, _, rfl, SqT.of hT.at_.h0, rfl, _, _, rfl, _, _, rfl, rfl, ?_⟩
    have hB := hT.csb
    have kl : (toS cs).length = cs.length := List.length_map _
    have cl := hB.len
    refine ⟨_, rfl, _, rfl, p, c, d, toS cs, n, rfl, hP, by rw [kl]; omega, hT.at_.h4, by rw [kl]; omega, fun H1 r xs d1 f1 h1 perm => ?_⟩
    rw [toS_ks] at perm
    obtain ⟨l, rfl, pl⟩ := perm_strs perm
    have ll : l.length ≤ 110 := by rw [pl.length_eq, List.length_map]; exact cl
    have lin : ∀ k ∈ l, k ∈ cs.map (·.1) := fun k hk => pl.mem_iff.mp hk
    rw [kl] at d1
    have hT1 := hT.pen hP d1.but
    refine ⟨r, rfl, ⟨_, SqL.of h1⟩, fun D1 hD1 => lc_fl (c := c) (cs := cs) (n := n + cs.length) d1.pen h1 (fun z => hP.ne f1 z.symm) ll hD1 (fun x => rfl) ?_ ?_⟩
    · rintro j k' H' C hk hj hBj hPj hC
      have hin := lin _ (List.mem_of_getElem? hk)
      obtain ⟨e0, he0, ek⟩ := List.mem_map.mp hin
      obtain ⟨x, y, ez, _, _⟩ := ks_cps (hB.inS e0 he0)
      rw [ek] at ez
      subst ez
      have hd' := hBj _ _ (d1.pen.neK hT1.at_.h4) hT1.at_.h4
      refine ⟨_, rfl, _, rfl, p, c, x, y, _, rfl, hPj, by omega, fun H2 z d2 hz => ?_⟩
      have hd2 := d2.but _ _ (hPj.neK hd') hd'
      have ec : ctK cs (mkS [x, y]) = some (gC cs (mkS [x, y])) := by
        unfold gC
        rw [← ek, ctK_nd hB.nd he0]
        rfl
      have dg := dget_toS (mkS [x, y]) hd2
      rw [ec] at dg
      refine ⟨_, rfl, _, rfl, d, _, rfl, dg, by show 2 ≤ sizeLine; decide, fun q H3 n3 => ?_⟩
      exact hC H3 q z ⟨d2.but.trans (.of n3.same), d2.pen.same n3.same⟩ ⟨⟨x, y, rfl, hz⟩, rfl⟩ n3.here
    · rintro H2 zs es d2 hD hE hpr
      obtain ⟨eo, ec⟩ := flips_ok hT.good.hi hT.good.nd hT.no (Int.le_refl _) hT.csp pl hpr
      have d12 : DrewP H p c (n + 300) H2 := (d1.trans d2).mono (by omega)
      have hT2 := hT.pen hP d12.but
      have P2 := d12.pen
      have Dp : D1 ≠ p := fun z => d1.pen.ne hD1 z.symm
      refine ⟨_, rfl, _, rfl, p, c, t1, b, n + 300, S, ys, ps, rfl, P2, by omega, hT2.at_.h1, SqL.of hT2.at_.h2, hT2.at_.h3, hT.good, fun H3 a3 b3 P3 ft => ?_⟩
      have hD3 := b3 _ _ Dp hD
      have hE3 := EntAt.pen P2 b3 hE
      refine ⟨_, rfl, _, rfl, _, rfl, D1, zs, rfl, SqL.of hD3, fun tp H4 n4 => ⟨by show 2 ≤ sizeLine; decide, fun q H5 n5 => ?_⟩⟩
      have s35 := n4.same.trans n5.same
      have tpp : tp ≠ p := fun z => P3.ne n4.free z.symm
      refine ⟨p, c, q, _, n + 300 + 20, rfl, P3.same s35, by omega, SqL.of n5.here, fun z => (P3.same n4.same).ne n5.free z.symm, by show 0 < 2; decide, by show 2 ≤ 1000000; decide, fun H6 v d6 hv => ?_⟩
      have b36 : But p H3 H6 := (But.of s35).trans d6.but
      have D6 := b36 _ _ Dp hD3
      have tp6 : H6 tp = some (.tup zs) := d6.but _ _ tpp (n5.same _ _ n4.here)
      have E6 := EntAt.pen P3 b36 hE3
      have F6 := ft.pen P3 b36
      have ndE := ents_nd' es
      obtain ⟨cs0, u0, z0, hp0, _⟩ := id d6.pen
      have fin : ∀ {H' : Hp} {a : Addr}, Same H6 H' → CaseAt H' CC C a S (dueOf S (headsAll ps)) (cntd S es) → Q (.ref a) H' := fun {H' a} s ca => by
        rw [ec] at ca
        exact k H' a ⟨((d12.but.trans b3).trans b36).trans (.of s), (d6.pen.mono (by omega)).same s⟩ ca
      rcases List.mem_cons.mp hv with rfl | hv
      · exact ⟨a3, D1, p, _, S, _, es, zs, rfl, .lst D6 Dp (fun z => by rw [ndE] at z; cases z) (rp_ents hp0 (fun xs z => by cases z) E6), rfl, F6, hT.good.hi, hT.good.nd, hT.no, .inl (SqL.of D6), E6, eo, fun H7 a7 s7 f7 ca7 => fin s7 ca7⟩
      · rw [List.mem_singleton.mp hv]
        exact ⟨a3, tp, p, _, S, _, es, zs, rfl, .tup tp6 tpp (rp_ents hp0 (fun xs z => by cases z) E6), rfl, F6, hT.good.hi, hT.good.nd, hT.no, .inr (SqT.of tp6), E6, eo, fun H7 a7 s7 f7 ca7 => fin s7 ca7⟩
end
end My
end
section
set_option Elab.async false
set_option linter.all false
set_option maxRecDepth 100000
set_option maxHeartbeats 4000000
namespace My
open PySem PySem.Spec PyProof.Rows L2
abbrev s_turned : Stmt := inCls s_cls 9
def sp_turned (K : PySem.W.Frag) (C U : Addr) : Sp := fun vs H Q E => ∃ (a p : Addr) (S : Str) (ps : List (Nat × Nat)) (v : V) (d : PyData), vs = [.ref a, v] ∧ FontAt H C a S ps ∧ Rp K p H false v d ∧ textFits sizeLine d ∧
  (signD S d = false → ∀ dd, H dd = none → E (.ref U) (some dd) (upd H dd (.xd [("value", v)]))) ∧ (∀ c, d = .str ⟨#[c]⟩ → c ∈ S.cps.toList → Q (sgO (turnOf ps c)) H)
section
variable {P : Program} {w : World} {K : PySem.W.Frag} {mg : Str → Option Value} {base : Heap}
theorem sc_turned : FnScope ["self", "sign", "one", "other"] ["self", "sign"] (defScope s_turned) := ⟨rfl, rfl, rfl, by decide +kernel, rfl, by decide +kernel, by decide +kernel⟩
theorem ok_turned {f C fC U fI : Addr} {fd fdC : FuncData} (F : Fun K "turned" "Font.turned" s_turned f fd) (c : Cls K C) (n2 : NoAttr K C "_turns") (O : Own K C "__contains__" fC) (G : FnOk P w K mg base CX0 2 fC fdC ["self", "x"] (sp_fcont K C)) (hb : Binds K fdC ["self", "x"] [])
    (T : ErrC K mg "UnknownSign" "value" "UnknownSign.__init__" "LookupError" "LookupError.__new__" "LookupError.__init__" bmLookup bmKey U fI) :
    FnOk P w K mg base (L2.CX P w) 3 f fd ["self", "sign"] (sp_turned K C U) := by
  refine F.okX sc_turned (fun vs H Q E h => ?_) (fun cdv A outer s H vs Q E hr h => ?_)
  · obtain ⟨a, p, S, ps, v, d, rfl, _⟩ := h
    rfl
  · obtain ⟨a, p, S, ps, v, d, rfl, hF, hd, hz, kE, kQ⟩ := h
    obtain ⟨dx, r, ys, h1, h2, h3⟩ := hF.at_
    refine ⟨_, pss_cons (ps_if (pt_cmpR (op_notInO O G hr hb) (pv 1) (pv 0) (by rfl)) (pss_one (ps_raiseErr rfl T fld_value hr (show 1 ≤ 2 by decide) (takes_of rfl rfl rfl rfl) (by exact (pa_cons (pv 1) pa_nil)) rfl)) pss_nil)
      (PSs.nox (pss_cons (ps_for PassesOwn.never rfl (pi_seq (pe_fld (pv 0) rfl)) (pg_tup rfl (pgs_cons (pg_name (i := 2) sc_turned.nd rfl (Or.inl rfl)) (pgs_cons (pg_name (i := 3) sc_turned.nd rfl (Or.inl rfl)) pgs_nil)))
        (pss_cons (ps_if (pt_cmpR op_eq (pv 1) (pv 2) (nomark _)) (pss_one (ps_ret (pv 3))) pss_nil)
        (pss_one (ps_if (pt_cmpR op_eq (pv 1) (pv 3) (nomark _)) (pss_one (ps_ret (pv 2))) pss_nil))))
      (pss_one (ps_ret pe_non)))), ?_⟩
    refine ⟨_, rfl, _, rfl, a, dx, _, rfl, h1, a, p, S, ps, v, d, rfl, hF, hd, hz, signD S d, rfl, _, rfl, ?_⟩
    cases hs : signD S d with
    | false => exact iteT ⟨_, rfl, _, rfl, fun dd hdd => kE hs dd hdd⟩
    | true =>
      obtain ⟨ch, rfl, hch⟩ : ∃ ch, d = .str ⟨#[ch]⟩ ∧ ch ∈ S.cps.toList := by
        cases d with
        | str z =>
          obtain ⟨ch, rfl, h⟩ := signD_some hs
          exact ⟨ch, rfl, h⟩
        | _ => cases hs
      cases hd
      have fin := kQ ch rfl hch
      refine iteF ?_
      have hpl := h3.length
      show tFor (iSeq K (tFld K (tVar 0) "_turns")) _ _ _ [some (.ref a), some (sg ch), none, none] H
      refine tFor_seq (H0 := H) (fun C h => ⟨_, rfl, a, _, dx, _, _, rfl, h1, c, n2, fs_turns S r, h⟩) (.inr (SqT.of h2)) (fun i σ' H' => ∃ o1 o2 : Option V, σ' = [some (.ref a), some (sg ch), o1, o2] ∧ H' = H ∧ turnOf ps ch = turnOf (ps.drop i) ch)
        ⟨none, none, rfl, rfl, rfl⟩ (fun i σ' H' q => by obtain ⟨_, _, _, e, _⟩ := q; exact e ▸ Same.refl _) ?_ ?_
      · rintro i x σ' H' hi hx ⟨o1, o2, rfl, rfl, hT⟩
        obtain ⟨⟨e1, e2⟩, he, q, rfl, hq⟩ := Paired.at h3 hx
        have hil : i < ps.length := (List.getElem?_eq_some_iff.mp he).1
        have hdrop : ps.drop i = (e1, e2) :: ps.drop (i + 1) := by
          have ee := (List.getElem?_eq_some_iff.mp he).2
          rw [← ee, List.getElem_cons_drop]
        rw [hdrop] at hT
        have hT : turnOf ps ch = if ch = e1 then some e2 else if ch = e2 then some e1 else turnOf (ps.drop (i + 1)) ch := hT
        have sq : ∀ b : Nat, (V.str ⟨#[ch]⟩ = V.str ⟨#[b]⟩) ↔ ch = b := fun b => ⟨fun z => sign_inj.mp (by injection z), fun z => by rw [z]⟩
        refine ⟨q, _, rfl, SqT.of hq, rfl, _, _, rfl, _, _, rfl, rfl, ?_⟩
        refine ⟨_, rfl, _, rfl, rfl, _, rfl, ?_⟩
        refine ite2 (fun t1 => ?_) (fun t1 => ?_)
        · have t1 := (sq e1).mp (of_decide_eq_true t1)
          rw [if_pos t1] at hT
          rw [hT] at fin
          exact ⟨_, rfl, fin⟩
        · have t1 : ch ≠ e1 := fun z => t1 (decide_eq_true ((sq e1).mpr z))
          rw [if_neg t1] at hT
          refine ⟨_, rfl, _, rfl, rfl, _, rfl, ?_⟩
          refine ite2 (fun t2 => ?_) (fun t2 => ?_)
          · have t2 := (sq e2).mp (of_decide_eq_true t2)
            rw [if_pos t2] at hT
            rw [hT] at fin
            exact ⟨_, rfl, fin⟩
          · have t2 : ch ≠ e2 := fun z => t2 (decide_eq_true ((sq e2).mpr z))
            rw [if_neg t2] at hT
            exact ⟨_, _, rfl, rfl, hT⟩
      · rintro σ' H' ⟨o1, o2, rfl, rfl, hT⟩
        rw [← hpl, List.drop_length] at hT
        rw [hT] at fin
        exact fin
end
end My
end
section
set_option Elab.async false
set_option linter.all false
set_option maxRecDepth 100000
set_option maxHeartbeats 4000000
namespace My
open PySem PySem.Spec PyProof.Rows L2
theorem op_in_seqK {X : Cx} {K : PySem.W.Frag} (h : X.K = K) : OpR X (compareOp .In) (rIn K false) := h ▸ op_in_seq
/-- the sides that are signs -/
def sidesK (l : List Nat) : List Nat := l.filter fun c => !decide (c = 45)
/-- what a kind shows -/
def shownK (S : Str) (ps : List (Nat × Nat)) (x y : Nat) : Str := mkS (S.cps.toList.filter fun c => decide (c ∈ sidesK (keptK S x y).cps.toList) || decide (some c ∈ (sidesK (keptK S x y).cps.toList).map (turnOf ps)))
def sp_shownM (K : PySem.W.Frag) (C IK : Addr) : Sp := fun vs H Q E => ∃ (a p : Addr) (S : Str) (ps : List (Nat × Nat)) (v : V) (d : PyData), vs = [.ref a, v] ∧ FontAt H C a S ps ∧ S.length ≤ 4000 ∧ Rp K p H false v d ∧ textFits 4000 d ∧
  (kindD S d = false → ∀ H' dd, Same H H' → H' dd = none → E (.ref IK) (some dd) (upd H' dd (.xd [("value", v)]))) ∧ (∀ x y, d = .str (mkS [x, y]) → kindD S d = true → ∀ H', Same H H' → Q (.str (shownK S ps x y)) H')
section
variable {P : Program} {w : World} {K : PySem.W.Frag} {mg : Str → Option Value} {base : Heap}
abbrev NSh : List Str := ["self", "kind", "sides", "side", "heads", "sign"]
theorem sc_shownM : FnScope NSh ["self", "kind"] (defScope s_shownM) := ⟨rfl, rfl, rfl, by decide +kernel, rfl, by decide +kernel, by decide +kernel⟩
theorem ok_shownM {f C fK fT IK U : Addr} {fd fdK fdT : FuncData} {tB : Tok} (F : Fun K "shown" "Font.shown" s_shownM f fd) (c : Cls K C) (n1 : NoAttr K C "_signs") (gB : mg "BLANK" = some (.str "-" tB))
    (MK : Meth K C "kept" fK) (GK : FnOk P w K mg base (L2.CX P w) 2 fK fdK ["self", "kind"] (sp_keptM K C IK)) (bK : Binds K fdK ["self", "kind"] [])
    (MT : Meth K C "turned" fT) (GT : FnOk P w K mg base (L2.CX P w) 3 fT fdT ["self", "sign"] (sp_turned K C U)) (bT : Binds K fdT ["self", "sign"] []) :
    FnOk P w K mg base (L2.CX P w) 4 f fd ["self", "kind"] (sp_shownM K C IK) := by
  refine F.okX sc_shownM (fun vs H Q E h => ?_) (fun cdv A outer s H vs Q E hr h => ?_)
  · obtain ⟨a, p, S, ps, v, d, rfl, _⟩ := h
    rfl
  · obtain ⟨a, p, S, ps, v, d, rfl, hF, hS, hd, hz, kE, kQ⟩ := h
    obtain ⟨dx, r, ys, h1, h2, h3⟩ := hF.at_
    have r2 : Room 2 _ := hr.mono (by decide)
    have r3 : Room 3 _ := hr
    refine ⟨_, pss_cons (ps_set (i := 2) sc_shownM.nd rfl (Or.inr rfl) (pe_lc (own := [("side", 3)]) (g := gName 3) rfl sc_shownM.nd (pi_str (pe_meth (C := C) (E := E) (pv 0) c MK GK r2 bK .nil (passes_call (takes_of rfl rfl rfl rfl) (fun _ _ _ _ h => h)) (pa_cons (pv 1) pa_nil)))
        (blkOk_by (own := [("side", 3)]) (N := NSh) (sc := defScope s_shownM) (by decide +kernel)) (fun _ _ _ _ _ => pg_name (i := 3) sc_shownM.nd rfl (Or.inl rfl)) (fun _ _ _ _ _ => pts_one (pt_cmpR op_ne (pv 3) (pe_glob (v := .str "-") rfl gB ⟨_, rfl⟩) (nomark _))) (fun _ _ _ _ _ => pv 3)))
      (PSs.nox (pss_cons (ps_set (i := 4) sc_shownM.nd rfl (Or.inr rfl) (pe_lc (own := [("side", 3)]) (g := gName 3) (tt := tYes) rfl sc_shownM.nd (pi_list (pv 2))
        (blkOk_by (own := [("side", 3)]) (N := NSh) (sc := defScope s_shownM) (by decide +kernel)) (fun _ _ _ _ _ => pg_name (i := 3) sc_shownM.nd rfl (Or.inl rfl)) (fun _ _ _ _ _ => pts_nil) (fun _ _ _ _ _ => pe_meth (C := C) (E := E0) (pv 0) c MT GT r3 bT .nil passN (pa_cons (pv 3) pa_nil))))
      (pss_one (ps_ret (pe_join pe_str (pe_lc (own := [("sign", 5)]) (g := gName 5) rfl sc_shownM.nd (pi_str (pe_fld (pv 0) rfl))
        (blkOk_by (own := [("sign", 5)]) (N := NSh) (sc := defScope s_shownM) (by decide +kernel)) (fun _ _ _ _ _ => pg_name (i := 5) sc_shownM.nd rfl (Or.inl rfl)) (fun _ _ _ _ _ => pts_one (PW.pt (pw_or (pt_cmpR (op_in_seqK (K := K) (by rfl)) (pv 5) (pv 2) (by rfl)) (pw_or1 (pt_cmpR (op_in_seqK (K := K) (by rfl)) (pv 5) (pv 4) (by rfl)))))) (fun _ _ _ _ _ => pv 5))))))), ?_⟩
    refine ⟨_, rfl, a, dx, _, rfl, h1, rfl, _, rfl, a, p, S, ps, v, d, rfl, hF, hS, hd, hz, kE, fun x y e hk H1 s1 => ?_⟩
    subst e
    obtain ⟨x0, y0, ez, bx, by_, _⟩ := kind_two hk
    have exy : x0 = x ∧ y0 = y := by
      have : ([x, y] : List Nat) = [x0, y0] := by
        have h := congrArg (fun z : Str => z.cps.toList) ez
        simpa using h
      simp at this
      exact ⟨this.1.symm, this.2.symm⟩
    rw [exy.1] at bx
    rw [exy.2] at by_
    have zz : (keptK S x y).cps.toList = [x, y] ∨ (keptK S x y).cps.toList = [y, x] := by
      unfold keptK
      split
      · exact .inr rfl
      · exact .inl rfl
    have z2 : (keptK S x y).length = 2 := by
      have : (keptK S x y).length = (keptK S x y).cps.toList.length := Array.length_toList.symm
      rw [this]
      rcases zz with h | h <;> rw [h] <;> rfl
    have sideS : ∀ ch ∈ sidesK (keptK S x y).cps.toList, ch ∈ S.cps.toList := by
      intro ch hch
      obtain ⟨m, n45⟩ := List.mem_filter.mp hch
      have n45 : ch ≠ 45 := fun z => by rw [z] at n45; simp at n45
      have m : ch = x ∨ ch = y := by
        rcases zz with h | h <;> rw [h] at m <;> simp at m
        · exact m
        · exact m.symm
      have b : sideB S ch = true := by rcases m with rfl | rfl <;> assumption
      unfold sideB at b
      rw [decide_eq_false n45, Bool.false_or] at b
      exact of_decide_eq_true b
    have fin := kQ x y rfl hk
    unfold shownK at fin
    have lenS : (sidesK (keptK S x y).cps.toList).length ≤ 2 := by
      refine Nat.le_trans (List.length_filter_le _ _) ?_
      rcases zz with h | h <;> rw [h] <;> exact Nat.le_refl 2
    generalize hL : sidesK (keptK S x y).cps.toList = L at sideS fin lenS
    refine ⟨_, rfl, fun D1 hD1 => lc_ff walk_signs (fun x => !decide (x = V.str (PySem.Str.ofString "-"))) (fun x => x) hD1 (fun _ _ => trivial) (by rw [signs_len, z2]; decide) (fun x => rfl) ?_ ?_ ?_⟩
    · intro x H' C' hx _ hC
      obtain ⟨ch, _, rfl⟩ := mem_signs hx
      exact ⟨_, rfl, rfl, _, rfl, hC H' (Same.refl _)⟩
    · intro x H' C' hx _ _ hC
      exact ⟨_, rfl, hC H' (Same.refl _)⟩
    intro H2 s2 hl2
    have e2 : ((signs (keptK S x y)).filter fun x => !decide (x = V.str (PySem.Str.ofString "-"))).map (fun x => x) = L.map sg := by
      rw [List.map_id']
      show ((keptK S x y).cps.toList.map sg).filter _ = _
      rw [filter_sg, ← hL]
      unfold sidesK
      congr 1
      apply List.filter_congr
      intro ch _
      show (!decide (sg ch = _)) = _
      rw [dash_sg]
    rw [e2] at hl2
    have s02 : Same H H2 := s1.trans s2
    refine ⟨_, rfl, D1, rfl, ⟨_, SqL.of hl2⟩, fun D2 hD2 => lc_ff walk_list (fun _ => true) (fun x => sgO (turnOf ps (ofSg x))) hD2 (fun H' sm => sm.seq (SqL.of hl2)) (by rw [List.length_map]; exact Nat.lt_of_le_of_lt lenS (by decide)) (fun x => rfl) (fun x H' C _ _ h => h _ (Same.refl _)) ?_ ?_⟩
    · intro x H' C' hx _ s5 hC
      obtain ⟨ch, hch, rfl⟩ := List.mem_map.mp hx
      have hcS := sideS ch hch
      refine ⟨_, rfl, a, dx, _, rfl, s5 _ _ (s02 _ _ h1), rfl, _, rfl, a, p, S, ps, sg ch, .str ⟨#[ch]⟩, rfl, hF.same (s02.trans s5), Rp.str _ _, by show 1 ≤ sizeLine; decide, fun z => ?_, fun c1 z hc1 => ?_⟩
      · have t : signD S (.str ⟨#[ch]⟩) = true := by
          rw [signD_str]
          have e1 : (⟨#[ch]⟩ : Str).length = 1 := rfl
          rw [e1]
          simp only [decide_true, Bool.true_and, List.all_cons, List.all_nil, Bool.and_true]
          exact decide_eq_true hcS
        rw [t] at z
        cases z
      · have e1 : ch = c1 := sign_inj.mp (by injection z)
        subst e1
        exact hC H' (Same.refl _)
    intro H3 s3 hl3
    have e3 : ((L.map sg).filter fun _ => true).map (fun x => sgO (turnOf ps (ofSg x))) = L.map fun x => sgO (turnOf ps x) := by
      rw [pv_filter_true, List.map_map]
      rfl
    rw [e3] at hl3
    have s03 : Same H H3 := s02.trans s3
    have hl23 := s3 _ _ hl2
    refine ⟨⟨_, rfl⟩, _, rfl, a, C, dx, _, _, rfl, s03 _ _ h1, c, n1, fs_signs S r, S, rfl, fun D3 hD3 => lc_ff walk_signs (fun x => inV x (L.map sg) || inV x (L.map fun x => sgO (turnOf ps x))) (fun x => x) hD3 (fun _ _ => trivial) (by rw [signs_len]; exact Nat.lt_of_le_of_lt hS (by decide)) (fun x => rfl) ?_ ?_ ?_⟩
    · intro x H' C' hx s5 hC
      obtain ⟨ch, _, rfl⟩ := mem_signs hx
      have hC := hC H' (Same.refl _)
      refine ⟨_, rfl, _, rfl, D1, _, rfl, .inl (SqL.of (s5 _ _ hl23)), rfl, flat_sg L, _, rfl, ?_⟩
      rw [if_neg Bool.false_ne_true]
      refine ite2 (fun h => ?_) (fun h => ?_)
      · rw [h, Bool.true_or] at hC
        exact hC
      · have h : inV (V.str ⟨#[ch]⟩) (L.map sg) = false := by simpa using h
        rw [h, Bool.false_or] at hC
        refine ⟨_, rfl, _, rfl, D2, _, rfl, .inl (SqL.of (s5 _ _ hl3)), rfl, flat_sgO _ L, _, rfl, ?_⟩
        rw [if_neg Bool.false_ne_true]
        exact hC
    · intro x H' C' hx _ _ hC
      exact ⟨_, rfl, hC H' (Same.refl _)⟩
    intro H4 s4 hl4
    have e4 : ((signs S).filter fun x => inV x (L.map sg) || inV x (L.map fun x => sgO (turnOf ps x))).map (fun x => x) = ((S.cps.toList.filter fun c => decide (c ∈ L) || decide (some c ∈ L.map (turnOf ps))).map fun c => (⟨#[c]⟩ : Str)).map V.str := by
      rw [List.map_id', List.map_map]
      show (S.cps.toList.map sg).filter _ = _
      rw [filter_sg]
      show List.map sg _ = List.map sg _
      congr 1
      apply List.filter_congr
      intro ch _
      show (inV (sg ch) _ || inV (sg ch) _) = _
      rw [inV_sg, inV_sgO]
    rw [e4] at hl4
    refine ⟨_, D3, _, rfl, rfl, .inl (SqL.of hl4), ?_, ?_⟩
    · rw [sum_ones]
      have : (PySem.Str.ofString "").length = 0 := by decide
      rw [this, Nat.mul_zero, Nat.add_zero]
      refine Nat.le_trans (List.length_filter_le _ _) ?_
      have : S.cps.toList.length = S.length := Array.length_toList
      rw [this]
      exact Nat.le_trans hS (by decide)
    · rw [join_sg]
      exact fin H4 (s03.trans s4)
end
end My
end
section
set_option Elab.async false
set_option linter.all false
set_option maxRecDepth 100000
set_option maxHeartbeats 4000000
namespace My
open PySem PySem.Spec PyProof.Rows L2
def sp_heads (K : PySem.W.Frag) : Sp := fun vs H Q _ => ∃ (a : Addr) (ys : List V) (ps : List (Nat × Nat)), vs = [.ref a] ∧ SqL K H a ys ∧ PairsAt H ps ys ∧ ps.length ≤ 4000 ∧ ∀ H' r, Same H H' → H r = none → H' r = some (.dK (toK (headsAll ps))) → Q (.ref r) H'
abbrev s_heads : Stmt := topS 48
section
variable {P : Program} {w : World} {K : PySem.W.Frag} {mg : Str → Option Value} {base : Heap}
theorem sc_heads : FnScope ["_law_turns", "_law_found", "_law_one", "_law_other"] ["_law_turns"] (defScope s_heads) := ⟨rfl, rfl, rfl, by decide +kernel, rfl, by decide +kernel, by decide +kernel⟩
theorem ok_heads {f : Addr} {fd : FuncData} (F : Fun K "_law_heads" "_law_heads" s_heads f fd) : FnOk P w K mg base CX0 1 f fd ["_law_turns"] (sp_heads K) := by
  refine F.ok sc_heads (fun vs H Q E h => ?_) (fun cdv A outer s H vs Q E hr h => ?_)
  · obtain ⟨a, ys, ps, rfl, _⟩ := h
    rfl
  · obtain ⟨a, ys, ps, rfl, hS, hP, hl, k⟩ := h
    have hu := hu_of hr
    refine ⟨_, pss_cons (ps_set (i := 1) sc_heads.nd rfl (Or.inl rfl) pe_dnew')
      (pss_cons (ps_for PassesOwn.never rfl (pi_list (pv 0)) (pg_tup rfl (pgs_cons (pg_name (i := 2) sc_heads.nd rfl (Or.inl rfl)) (pgs_cons (pg_name (i := 3) sc_heads.nd rfl (Or.inl rfl)) pgs_nil)))
        (pss_cons (ps_dput hu (pv 1) (pv 2) (pv 3) rfl)
        (pss_one (ps_dput hu (pv 1) (pv 3) (pv 2) rfl))))
      (pss_one (ps_ret (pv 1)))), ?_⟩
    intro p H1 n1
    have hpl := hP.length
    refine ⟨_, rfl, a, rfl, ⟨ys, n1.same.seq hS⟩, ?_⟩
    have sm : ∀ i σ H', (∃ o1 o2 : Option V, σ = [some (.ref a), some (.ref p), o1, o2] ∧ Same H H' ∧ H' p = some (.dK (toK (headsAll (ps.take i))))) → SqL K H' a ys := fun i σ H' q => by
      obtain ⟨_, _, _, s, _⟩ := q
      exact s.seq hS
    refine for_list (K := K) (a := a) (xs := ys) (fun i σ H' => ∃ o1 o2 : Option V, σ = [some (.ref a), some (.ref p), o1, o2] ∧ Same H H' ∧ H' p = some (.dK (toK (headsAll (ps.take i)))))
      ⟨none, none, rfl, n1.same, n1.here⟩ (fun i σ H' _ q => sm i σ H' q) ?_ ?_
    · rintro i x σ H2 hx ⟨o1, o2, rfl, s2, h2⟩
      obtain ⟨⟨x1, x2⟩, he, q, rfl, hq⟩ := Paired.at hP hx
      have hil : i < ps.length := (List.getElem?_eq_some_iff.mp he).1
      have nx : headsAll (ps.take (i + 1)) = putN (putN (headsAll (ps.take i)) x1 x2) x2 x1 := by
        rw [List.take_add_one, he]
        exact headsAll_snoc _ _
      have ll := headsAll_le (ps.take i)
      rw [List.length_take] at ll
      have l1 := putN_length (headsAll (ps.take i)) x1 x2
      have hq2 := s2 _ _ hq
      refine ⟨q, _, rfl, SqT.of hq2, rfl, _, _, rfl, _, _, rfl, rfl, ?_⟩
      refine ⟨_, rfl, _, rfl, _, rfl, p, _, rfl, dput_toK x1 x2 h2 (Nat.lt_of_le_of_lt (show (headsAll (ps.take i)).length ≤ 9000 by omega) (by decide)), ?_⟩
      have w3 : Wr H2 p (.dK (toK (putN (headsAll (ps.take i)) x1 x2))) (upd H2 p (.dK (toK (putN (headsAll (ps.take i)) x1 x2)))) := .mk'
      generalize upd H2 p (HO.dK (toK (putN (headsAll (ps.take i)) x1 x2))) = H3 at w3 ⊢
      refine ⟨_, rfl, _, rfl, _, rfl, p, _, rfl, dput_toK x2 x1 w3.here (Nat.lt_of_le_of_lt (show (putN (headsAll (ps.take i)) x1 x2).length ≤ 9000 by omega) (by decide)), ?_⟩
      refine ⟨_, _, rfl, Same.wr (Same.wr s2 n1.free w3) n1.free .mk', ?_⟩
      rw [upd_same, nx]
    · rintro σ H2 ⟨o1, o2, rfl, s2, h2⟩
      rw [← hpl, List.take_length] at h2
      exact ⟨_, rfl, k _ _ s2 n1.free h2⟩
end
end My
end
section
set_option Elab.async false
set_option linter.all false
set_option maxRecDepth 100000
set_option maxHeartbeats 4000000
namespace My
open PySem PySem.Spec PyProof.Rows L2
abbrev s_seen : Stmt := topS 49
/-- what a kind shows, by the law -/
def seenL (S : Str) (ps : List (Nat × Nat)) (x y : Nat) : List Nat := ([x, y].filter fun c => decide (c ∈ S.cps.toList)) ++ ([x, y].filter fun c => decide (c ∈ S.cps.toList)).filterMap (headOf (headsAll ps))
def seenK (S : Str) (ps : List (Nat × Nat)) (x y : Nat) : Str := mkS (S.cps.toList.filter fun c => decide (c ∈ seenL S ps x y))
def sp_seen (K : PySem.W.Frag) : Sp := fun vs H Q _ => ∃ (t b : Addr) (S : Str) (ys : List V) (ps : List (Nat × Nat)) (x y : Nat), vs = [.ref t, .str (mkS [x, y])] ∧ SqT K H t [.str S, .ref b] ∧ SqL K H b ys ∧ PairsAt H ps ys ∧ ps.length ≤ 4000 ∧ S.length ≤ 4000 ∧ ∀ H', Same H H' → Q (.str (seenK S ps x y)) H'
theorem heads_of (h : Nat → Option Nat) (l : List Nat) : ((l.map sg).filter fun x => (h (ofSg x)).isSome).map (fun x => sg ((h (ofSg x)).getD 0)) = (l.filterMap h).map sg := by
  induction l with
  | nil => rfl
  | cons a l ih =>
    rw [List.map_cons, List.filter_cons, List.filterMap_cons]
    show (if (h a).isSome = true then _ else _ : List V).map _ = _
    cases e : h a with
    | none => exact ih
    | some b =>
      show sg ((h a).getD 0) :: _ = sg b :: _
      rw [e]
      exact congrArg _ ih
section
variable {P : Program} {w : World} {K : PySem.W.Frag} {mg : Str → Option Value} {base : Heap}
abbrev NSe : List Str := ["_law_font_here", "_law_kind", "_law_signs", "_law_turns", "_law_heads_here", "_law_some", "_law_side", "_law_sign"]
theorem sc_seen : FnScope NSe ["_law_font_here", "_law_kind"] (defScope s_seen) := ⟨rfl, rfl, rfl, by decide +kernel, rfl, by decide +kernel, by decide +kernel⟩
theorem ok_seen {f fH : Addr} {fd fdH : FuncData} (F : Fun K "_law_seen" "_law_seen" s_seen f fd) (DH : Def K mg "_law_heads" fH fdH ["_law_turns"]) (GH : FnOk P w K mg base CX0 1 fH fdH ["_law_turns"] (sp_heads K)) :
    FnOk P w K mg base CX0 2 f fd ["_law_font_here", "_law_kind"] (sp_seen K) := by
  refine F.ok sc_seen (fun vs H Q E h => ?_) (fun cdv A outer s H vs Q E hr h => ?_)
  · obtain ⟨t, b, S, ys, ps, x, y, rfl, _⟩ := h
    rfl
  · obtain ⟨t, b, S, ys, ps, x, y, rfl, ht, hb, hps, hl, hS, k⟩ := h
    have hu := hu_of hr
    refine ⟨_, pss_cons (ps_asg (pv 0) (pg_tup rfl (pgs_cons (pg_name (i := 2) sc_seen.nd rfl (Or.inr rfl)) (pgs_cons (pg_name (i := 3) sc_seen.nd rfl (Or.inl rfl)) pgs_nil))))
      (pss_cons (ps_set (i := 4) sc_seen.nd rfl (Or.inr rfl) (pe_call GH hr rfl DH.mgf DH.kp DH.bd .nil pass0 (pa_cons (pv 3) pa_nil)))
      (pss_cons (ps_set (i := 5) sc_seen.nd rfl (Or.inr rfl) (pe_lc (own := [("_law_side", 6)]) (g := gName 6) rfl sc_seen.nd (pi_str (pv 1)) (blkOk_by (own := [("_law_side", 6)]) (N := NSe) (sc := defScope s_seen) (by decide +kernel))
        (fun _ _ _ _ _ => pg_name (i := 6) sc_seen.nd rfl (Or.inl rfl)) (fun _ _ _ _ _ => pts_one (pt_cmpR op_in_sign (pv 6) (pv 2) (by rfl))) (fun _ _ _ _ _ => pv 6)))
      (pss_cons (ps_set (i := 5) sc_seen.nd rfl (Or.inr rfl) (pe_op op_cat' (pv 5) (pe_lc (own := [("_law_side", 6)]) (g := gName 6) rfl sc_seen.nd (pi_list (pv 5)) (blkOk_by (own := [("_law_side", 6)]) (N := NSe) (sc := defScope s_seen) (by decide +kernel))
        (fun _ _ _ _ _ => pg_name (i := 6) sc_seen.nd rfl (Or.inl rfl)) (fun _ _ _ _ _ => pts_one (pt_cmp (pc_din hu (pv 6) (pv 4)))) (fun _ _ _ _ _ => pe_dget hu (pv 4) (pv 6) (fun _ _ => rfl)))))
      (pss_one (ps_ret (pe_join pe_str (pe_lc (own := [("_law_sign", 7)]) (g := gName 7) rfl sc_seen.nd (pi_str (pv 2)) (blkOk_by (own := [("_law_sign", 7)]) (N := NSe) (sc := defScope s_seen) (by decide +kernel))
        (fun _ _ _ _ _ => pg_name (i := 7) sc_seen.nd rfl (Or.inl rfl)) (fun _ _ _ _ _ => pts_one (pt_cmpR (op_in_seqK (K := K) (by rfl)) (pv 7) (pv 5) (by rfl))) (fun _ _ _ _ _ => pv 7)))))))), ?_⟩
    refine ⟨_, rfl, t, _, rfl, ht, rfl, _, _, rfl, _, _, rfl, rfl, _, rfl, b, ys, ps, rfl, hb, hps, hl, fun H1 hD s1 f1 h1 => ?_⟩
    refine ⟨_, rfl, mkS [x, y], rfl, fun D1 hD1 => lc_ff walk_signs (fun v => match v with | .str z => z.cps.toList.all fun c => decide (c ∈ S.cps.toList) | _ => false) (fun x => x) hD1 (fun _ _ => trivial) (by rw [signs_len, mkS_len]; show 2 < sizeLine; decide) (fun x => rfl) ?_ ?_ ?_⟩
    · intro v H' C' hx _ hC
      obtain ⟨ch, _, rfl⟩ := mem_signs hx
      have hC := hC H' (Same.refl _)
      refine ⟨_, rfl, _, rfl, ch, S, rfl, rfl, _, rfl, ?_⟩
      have e : (match V.str ⟨#[ch]⟩ with | .str z => z.cps.toList.all fun c => decide (c ∈ S.cps.toList) | _ => false) = decide (ch ∈ S.cps.toList) := by
        show ([ch].all fun c => decide (c ∈ S.cps.toList)) = _
        simp
      rw [e] at hC
      exact hC
    · intro v H' C' hx _ _ hC
      exact ⟨_, rfl, hC H' (Same.refl _)⟩
    intro H2 s2 hl2
    have e2 : ((signs (mkS [x, y])).filter fun v => match v with | .str z => z.cps.toList.all fun c => decide (c ∈ S.cps.toList) | _ => false).map (fun x => x) = ([x, y].filter fun c => decide (c ∈ S.cps.toList)).map sg := by
      rw [List.map_id']
      show ([x, y].map sg).filter _ = _
      rw [filter_sg]
      congr 1
      apply List.filter_congr
      intro ch _
      show ([ch].all fun c => decide (c ∈ S.cps.toList)) = _
      simp
    rw [e2] at hl2
    have fin := k
    unfold seenK seenL at fin
    have lenL : ([x, y].filter fun c => decide (c ∈ S.cps.toList)).length ≤ 2 := List.length_filter_le _ _
    generalize ([x, y].filter fun c => decide (c ∈ S.cps.toList)) = L at hl2 fin lenL
    have s02 : Same H H2 := s1.trans s2
    have h2 := s2 _ _ h1
    refine ⟨_, rfl, _, rfl, D1, rfl, ⟨_, SqL.of hl2⟩, fun D2 hD2 => lc_ff walk_list (fun x => (headOf (headsAll ps) (ofSg x)).isSome) (fun x => sg ((headOf (headsAll ps) (ofSg x)).getD 0)) hD2 (fun H' sm => sm.seq (SqL.of hl2)) (by rw [List.length_map]; exact Nat.lt_of_le_of_lt lenL (by decide)) (fun x => rfl) ?_ ?_ ?_⟩
    · intro v H' C' hx s5 hC
      obtain ⟨ch, _, rfl⟩ := List.mem_map.mp hx
      have hC := hC H' (Same.refl _)
      refine ⟨_, rfl, _, rfl, hD, _, rfl, dget_toK ch (s5 _ _ h2), _, rfl, ?_⟩
      have e : ((headOf (headsAll ps) ch).map sg).isSome = (headOf (headsAll ps) (ofSg (sg ch))).isSome := by
        show _ = (headOf (headsAll ps) ch).isSome
        cases headOf (headsAll ps) ch <;> rfl
      rw [e]
      exact hC
    · intro v H' C' hx hp s5 hC
      obtain ⟨ch, _, rfl⟩ := List.mem_map.mp hx
      have hp : (headOf (headsAll ps) ch).isSome = true := hp
      obtain ⟨b', hb'⟩ := Option.isSome_iff_exists.mp hp
      have dg := dget_toK ch (s5 _ _ h2)
      rw [hb'] at dg
      refine ⟨_, rfl, _, rfl, hD, sg b', rfl, dg, ?_⟩
      have hC := hC H' (Same.refl _)
      have e : (headOf (headsAll ps) (ofSg (sg ch))).getD 0 = b' := by
        show (headOf (headsAll ps) ch).getD 0 = b'
        rw [hb']
        rfl
      rw [e] at hC
      exact hC
    intro H3 s3 hl3
    rw [heads_of (headOf (headsAll ps)) L] at hl3
    have fm : (L.filterMap (headOf (headsAll ps))).length ≤ 2 := Nat.le_trans (List.length_filterMap_le _ _) lenL
    refine ⟨D1, D2, _, _, rfl, rfl, s3 _ _ hl2, hl3, ?_, fun q4 H4 n4 => ?_⟩
    · rw [List.length_map, List.length_map]
      exact Nat.le_trans (show _ ≤ 4 by omega) (by decide)
    have h4 := n4.here
    rw [← List.map_append] at h4
    have s04 := (s02.trans s3).trans n4.same
    generalize L ++ L.filterMap (headOf (headsAll ps)) = L2 at h4 fin
    refine ⟨⟨_, rfl⟩, _, rfl, S, rfl, fun D3 hD3 => lc_ff walk_signs (fun x => inV x (L2.map sg)) (fun x => x) hD3 (fun _ _ => trivial) (by rw [signs_len]; exact Nat.lt_of_le_of_lt hS (by decide)) (fun x => rfl) ?_ ?_ ?_⟩
    · intro v H' C' hx s5 hC
      obtain ⟨ch, _, rfl⟩ := mem_signs hx
      refine ⟨_, rfl, _, rfl, q4, _, rfl, .inl (SqL.of (s5 _ _ h4)), rfl, flat_sg L2, _, rfl, ?_⟩
      rw [if_neg Bool.false_ne_true]
      exact hC H' (Same.refl _)
    · intro v H' C' hx _ _ hC
      exact ⟨_, rfl, hC H' (Same.refl _)⟩
    intro H5 s5 hl5
    have e5 : ((signs S).filter fun x => inV x (L2.map sg)).map (fun x => x) = ((S.cps.toList.filter fun c => decide (c ∈ L2)).map fun c => (⟨#[c]⟩ : Str)).map V.str := by
      rw [List.map_id', List.map_map]
      show (S.cps.toList.map sg).filter _ = _
      rw [filter_sg]
      show List.map sg _ = List.map sg _
      congr 1
      apply List.filter_congr
      intro ch _
      show inV (sg ch) _ = _
      rw [inV_sg]
    rw [e5] at hl5
    refine ⟨_, D3, _, rfl, rfl, .inl (SqL.of hl5), ?_, ?_⟩
    · rw [sum_ones]
      have : (PySem.Str.ofString "").length = 0 := by decide
      rw [this, Nat.mul_zero, Nat.add_zero]
      refine Nat.le_trans (List.length_filter_le _ _) ?_
      have : S.cps.toList.length = S.length := Array.length_toList
      rw [this]
      exact Nat.le_trans hS (by decide)
    · rw [join_sg]
      exact fin H5 (s04.trans s5)
end
end My
end
section
set_option Elab.async false
set_option linter.all false
set_option maxRecDepth 100000
set_option maxHeartbeats 4000000
namespace My
open PySem PySem.Spec PyProof.Rows L2
section
variable {S : Str}
theorem shown_seen {ps : List (Nat × Nat)} {x y a c : Nat} (hG : Good 10 S ps) (no : 45 ∉ S.cps.toList) (k : KindOk S a c) (hk : keptK S x y = mkS [a, c]) : shownK S (dueOf S (headsAll ps)) x y = seenK S ps a c := by
  unfold shownK seenK seenL
  rw [hk]
  have inS : ∀ e ∈ ps, e.1 ∈ S.cps.toList ∧ e.2 ∈ S.cps.toList := fun e he => ⟨hG.tin _ (List.mem_flatMap.mpr ⟨e, he, mem_spread.mpr (.inl rfl)⟩), hG.tin _ (List.mem_flatMap.mpr ⟨e, he, mem_spread.mpr (.inr rfl)⟩)⟩
  have td : ∀ q ∈ S.cps.toList, turnOf (dueOf S (headsAll ps)) q = headOf (headsAll ps) q := fun q hq => turn_due (heads_sym ps hG.tnd) (headsAll_in ps inS) hq
  have e1 : sidesK (mkS [a, c]).cps.toList = [a, c].filter fun q => decide (q ∈ S.cps.toList) := by
    show [a, c].filter _ = _
    apply List.filter_congr
    intro q hq
    have hq : q = 45 ∨ q ∈ S.cps.toList := by
      simp at hq
      rcases hq with rfl | rfl
      · exact .inr k.am
      · exact k.cm
    rcases hq with rfl | hq
    · rw [decide_eq_false no]; rfl
    · rw [decide_eq_true hq, decide_eq_false (fun z : q = 45 => no (by rw [← z]; exact hq))]; rfl
  rw [e1]
  have inL : ∀ q ∈ [a, c].filter (fun q => decide (q ∈ S.cps.toList)), q ∈ S.cps.toList := fun q hq => of_decide_eq_true (List.mem_filter.mp hq).2
  generalize ([a, c].filter fun q => decide (q ∈ S.cps.toList)) = L at inL
  apply congrArg mkS
  apply List.filter_congr
  intro q _
  have iff : (some q ∈ L.map (turnOf (dueOf S (headsAll ps)))) ↔ q ∈ L.filterMap (headOf (headsAll ps)) := by
    rw [List.mem_map, List.mem_filterMap]
    constructor
    · rintro ⟨z, hz, e⟩
      exact ⟨z, hz, (td z (inL z hz)).symm.trans e⟩
    · rintro ⟨z, hz, e⟩
      exact ⟨z, hz, (td z (inL z hz)).trans e⟩
  rw [Bool.eq_iff_iff, Bool.or_eq_true, decide_eq_true_eq, decide_eq_true_eq, decide_eq_true_eq, iff, List.mem_append]
end
end My
end
section
set_option Elab.async false
set_option linter.all false
set_option maxRecDepth 100000
set_option maxHeartbeats 4000000
/-! B8: == and != by an own ==; bool of an own class. -/
namespace My
open PySem PySem.Spec PyProof.Rows L2
open PySem.W (Frag findIn isFn notFirst mroIn Looks InstAt)
/-- the class's own == at f; its != is object's -/
structure EqC (K : Frag) (C f : Addr) : Prop where
  eq : findIn K (.ref C) "__eq__" = some (some (.ref f))
  fn : isFn K (.ref f) = true
  ne : findIn K (.ref C) "__ne__" = some (some (.builtin "object.__ne__"))
  ob : mroIn K C (.type "object") = some true
section
variable {prog : Program} {w : World} {A : Around} {E : Value → Shared → Prop} {s : Shared} {K : Frag} {x C L f : Addr} {h₀ : Heap} {ox : Obj} {od : Option Obj} {b tb : Value}
theorem objNe_K {Q : Fin → Shared → Prop} (hu : A.units < cLine) (X : K.In s.heap) (I : InstAt s.heap x ox C od) (O : EqC K C f)
    (h : wpAny (model prog w) A (call (.ref f) [.ref x, b]) (fun v s' => ∃ c, v = .bool c ∧ Q (.done (.ret (.bool (!c)))) s') E s) :
    wpAny (model prog w) A (Builtin.«object.__ne__» ⟨[.ref x, b], []⟩) Q E s := by
  unfold Builtin.«object.__ne__»
  refine wpAny_bind (wpAny_of_eq (a := ((Value.ref x : Value), [b])) (by first | rfl | (simp only [slotArgs]; rfl)) ?_)
  refine wpAny_bind (wpAny_cRoomFor hu ?_)
  refine wpAny_bind (m := callSpecialIfBound? (.ref x) (Str.ofString "__eq__") [b]) (PySem.W.ifBound_K X I O.eq O.fn (wpAny_mono h (fun r s' hr => ?_) fun _ _ e => e))
  obtain ⟨c, rfl, hq⟩ := hr
  refine wpAny_bind (m := truthy (.bool _)) (wpAny_truthy_bool ?_)
  first | exact wpAny_pure hq | exact hq
theorem tryNe_K {Q : Option Value → Shared → Prop} (hu : A.units + 1 < cLine) (X : K.In s.heap) (I : InstAt s.heap x ox C od) (O : EqC K C f)
    (h : wpAny (model prog w) A.in1 (call (.ref f) [.ref x, b]) (fun v s' => ∃ c, v = .bool c ∧ Q (some (.bool (!c))) s') E s) :
    wpAny (model prog w) A (tryCompare (.ref x) "__ne__" b) Q E s := by
  have S := F.cmp_object.ne
  have isO : Looks (model prog w) s.heap (isInstance (.ref x) (.type "object")) true := I.type.andThen (PySem.W.looks_mroIn X O.ob)
  have big : wpAny (model prog w) A (call (.builtin "object.__ne__") [.ref x, b]) (fun v s' => ∃ c, v = .bool (!c) ∧ Q (some (.bool (!c))) s') E s := by
    refine wpAny_call (codeAny_call_builtin S.plain F.cmpEntry_ne (PySem.W.check_slot (M := model prog w) (s := s) F.cmpKind_ne F.cmpSplit_ne isO (F.cmpArgs_ne (.ref x) b) ?_))
    refine objNe_K (A := A.in1) (show A.units + 1 < cLine from hu) X I O (wpAny_mono h (fun v s' hv => ?_) fun _ _ e => e)
    obtain ⟨c, rfl, hq⟩ := hv
    exact ⟨c, rfl, c, rfl, hq⟩
  simp only [tryCompare]
  refine wpAny_bind ?_
  simp only [callSpecialIfBound?, bindSpecialIfBound?]
  refine wpAny_holding (wpAny_bind (wpAny_bind (wpAny_bind (I.type.here ((PySem.W.looks_findIn X O.ne).here ?_)))))
  simp only [S.bind]
  refine wpAny_bind (wpAny_askSetting (wpAny_ite ?_))
  have fin : wpAny (model prog w) A (call (.builtin "object.__ne__") ([.ref x] ++ [b]) >>= fun v => pure (some v)) (fun r s' => ∃ c, r = some (.bool (!c)) ∧ Q (some (.bool (!c))) s') E s :=
    wpAny_bind (wpAny_mono big (fun v s' h' => by
      obtain ⟨c, rfl, hq⟩ := h'
      exact wpAny_pure ⟨c, rfl, hq⟩) fun _ _ h' => h')
  have fin2 := wpAny_mono fin (Q' := fun r s' => wpAny (model prog w) A (match r with | some .notImplemented | none => pure none | some v => pure (some v)) Q E s') (fun r s' h' => by
      obtain ⟨c, rfl, hq⟩ := h'
      exact wpAny_pure hq) fun _ _ h' => h'
  split
  · exact wpAny_bind (wpAny_pure (wpAny_pure fin2))
  · exact wpAny_tryCatch (wpAny_bind (wpAny_pure (wpAny_pure fin2)))
theorem richNe_K {Q : Value → Shared → Prop} (hu : A.units + 1 < cLine) (X : K.In s.heap) (I : InstAt s.heap x ox C od) (O : EqC K C f) (hb : Looks (model prog w) s.heap (typeOf b) tb) (hn : notFirst K C tb = true)
    (h : wpAny (model prog w) A.in1 (call (.ref f) [.ref x, b]) (fun v s' => ∃ c, v = .bool c ∧ Q (.bool (!c)) s') E s) : wpAny (model prog w) A (richCompare .NotEq (.ref x) b) Q E s := by
  have one : wpAny (model prog w) A (tryCompare (.ref x) "__ne__" b) (fun r s' => ∃ v, r = some v ∧ Q v s') E s := tryNe_K hu X I O (wpAny_mono h (fun v s' hv => by
    obtain ⟨c, rfl, hq⟩ := hv
    exact ⟨c, rfl, _, rfl, hq⟩) fun _ _ e => e)
  unfold richCompare
  simp only [oneThing_ref]
  refine wpAny_holding (wpAny_bind (wpAny_cRoomFor (Nat.lt_of_succ_lt hu) ?_))
  refine wpAny_bind (I.type.here (wpAny_bind (hb.here ?_)))
  rw [cmpInfo_NotEq]
  dsimp only
  split
  · rename_i q
    have e : PySem.W.subIn K tb (.ref C) = some false := by
      rcases Bool.or_eq_true_iff.mp hn with e | e
      · rw [beq_iff_eq.mp e] at q; simp at q
      · exact beq_iff_eq.mp e
    refine wpAny_bind ((PySem.W.looks_subIn X e).here ?_)
    simp only [Bool.false_eq_true, if_false]
    refine wpAny_bind (wpAny_mono one (fun r s' z => ?_) fun _ _ e => e)
    obtain ⟨v, rfl, hq⟩ := z
    exact wpAny_pure hq
  · refine wpAny_bind (wpAny_pure ?_)
    simp only [Bool.false_eq_true, if_false]
    refine wpAny_bind (wpAny_mono one (fun r s' z => ?_) fun _ _ e => e)
    obtain ⟨v, rfl, hq⟩ := z
    exact wpAny_pure hq
end
/-- a value's type, an instance's class too -/
def TyI (K : Frag) (H : Hp) (y : V) (t : Value) : Prop := TyX K H y t ∨ ∃ b C' dx fs, y = .ref b ∧ H b = some (.ins C' dx fs) ∧ t = .ref C'
theorem TyI.look {X : Cx} {pins : List (Addr × Obj)} {σ : L2.St} {H : Hp} {s : Shared} {y : V} {t u : Value} (I : Inv X pins σ H s) (r : RelV y u) (h : TyI X.K H y t) : Looks (model X.prog X.w) s.heap (typeOf u) t := by
  rcases h with h | ⟨b, C', dx, fs, rfl, hb, rfl⟩
  · obtain ⟨P, Z, p, _⟩ := kit_of I r h
    exact Z.ty _ _ I.kIn p
  · cases (show u = Value.ref b from r)
    obtain ⟨mA, J, _⟩ := ins_get I.hok hb
    obtain ⟨od, J, _⟩ := J.look
    exact J.type
theorem notFirst_self (K : Frag) (C : Addr) : notFirst K C (.ref C) = true := by simp [notFirst]
section
variable {X : Cx} {k : Nat} {C f : Addr} {fd : FuncData} {sp : Sp} {ot : Str}
/-- x == y, x != y, x an instance of the class at C with an own == -/
def rEqO (K : Frag) (C : Addr) (sp : Sp) (neg : Bool) : R2 := fun x y H Q => ∃ a dx fs t, x = .ref a ∧ H a = some (.ins C dx fs) ∧ TyI K H y t ∧ notFirst K C t = true ∧ sp [.ref a, y] H (fun v H' => ∃ b : Bool, v = .bl b ∧ Q (.bl (if neg then !b else b)) H') E0
theorem run_eq {A : Around} {pins : List (Addr × Obj)} {σ : L2.St} {H : Hp} {s : Shared} {a : Addr} {y : V} {u : Value} {Q : VK} {R : Value → Shared → Prop} {neg : Bool} (F : FnOk X.prog X.w X.K X.mg X.base CX0 k f fd ["self", ot] sp) (hr : Room k A) (hb : Binds X.K fd ["self", ot] []) (I : Inv X pins σ H s) (hA : Env0 X.prog X.w X.K X.mg X.base A X.stack s H)
    (ry : RelV y u) (q : sp [.ref a, y] H (fun v H' => ∃ b : Bool, v = .bl b ∧ Q (.bl (if neg then !b else b)) H') E0) (hR : ∀ b s', EP X pins σ Q (.bool (if neg then !b else b)) s' → R (.bool b) s') : wpAny (model X.prog X.w) A (call (.ref f) [.ref a, u]) R X.xe s := by
  refine wpAny_call ?_
  refine codeAny_mono (F.run A X.stack s H ⟨[.ref a, u], []⟩ [.ref a, u] [.ref a, y] _ _ hr hA (hb _ [.ref a, u] I.kIn rfl) (.cons rfl (.cons ry .nil)) q) fun r s' hq => ?_
  cases r with
  | error er => exact False.elim hq
  | ok fl =>
    cases fl with
    | ret w =>
      obtain ⟨z, H', I3, rv, b, ev, q3⟩ := I.after hq
      subst ev
      obtain rfl : w = Value.bool b := rv
      exact hR b s' ⟨.bl _, H', I3, rfl, q3⟩
    | next => exact False.elim hq
    | brk => exact False.elim hq
    | cont => exact False.elim hq
theorem op_eqO (O : EqC X.K C f) (F : FnOk X.prog X.w X.K X.mg X.base CX0 k f fd ["self", ot] sp) (hr : Room k X.A) (hb : Binds X.K fd ["self", ot] []) : OpR X (compareOp .Eq) (rEqO X.K C sp false) := by
  intro pins s σ H x y v u Q I rx ry h
  obtain ⟨a, dx, fs, t, rfl, ea, ty, hn, q⟩ := h
  obtain rfl : v = Value.ref a := rx
  obtain ⟨mA, J, _⟩ := ins_get I.hok ea
  obtain ⟨od, J, _⟩ := J.look
  obtain ⟨m, hF⟩ := I.fr
  show wpAny (model X.prog X.w) X.A (richCompare .Eq (.ref a) u) (EP X pins σ Q) X.xe s
  refine PySem.W.cmp_K (op := .Eq) (tb := t) hr.units0 hF I.ok.mod.kin J (ty.look I ry) hn O.eq O.fn ?_
  exact run_eq (neg := false) F hr hb I I.env0 ry q fun b s' hq => hq
theorem op_neO (O : EqC X.K C f) (F : FnOk X.prog X.w X.K X.mg X.base CX0 k f fd ["self", ot] sp) (hr : Room (k + 1) X.A) (hb : Binds X.K fd ["self", ot] []) : OpR X (compareOp .NotEq) (rEqO X.K C sp true) := by
  intro pins s σ H x y v u Q I rx ry h
  obtain ⟨a, dx, fs, t, rfl, ea, ty, hn, q⟩ := h
  obtain rfl : v = Value.ref a := rx
  obtain ⟨mA, J, _⟩ := ins_get I.hok ea
  obtain ⟨od, J, _⟩ := J.look
  show wpAny (model X.prog X.w) X.A (richCompare .NotEq (.ref a) u) (EP X pins σ Q) X.xe s
  have hu : X.A.units + 1 < cLine := hu_of (hr.mono (Nat.succ_le_succ (Nat.zero_le k)))
  refine richNe_K hu I.kIn J O (ty.look I ry) hn ?_
  exact run_eq (neg := true) F hr.in1 hb I I.env0.in1 ry q fun b s' hq => ⟨b, rfl, hq⟩
end
/-- bool(x), x an instance of a class with an own __bool__ -/
theorem meets_bool_own {prog : Program} {w : World} {K : Frag} {h₀ : Heap} {L x C f : Addr} {ox : Obj} {od : Option Obj} {m : Str → Option Value} (hs : findIn K (.ref C) "__bool__" = some (some (.ref f))) (hf : isFn K (.ref f) = true) :
    MeetsIn prog w (Builtin.«bool.__new__» ⟨[.type "bool", .ref x], []⟩) (fun A R s => Fr h₀ L s.heap m ∧ K.In h₀ ∧ InstAt s.heap x ox C od ∧ wpAny (model prog w) A.in1 (call (.ref f) [.ref x]) (fun v s' => ∃ c, v = .bool c ∧ R (.ok (.ret (.bool c))) s') (fun e s' => R (.error e) s') s) :=
  .of_wp fun A R s hs' => by
    obtain ⟨hF, hK, hI, hc⟩ := hs'
    obtain ⟨hp, g, d, tk, os⟩ := s
    have f1 := F.conv_sub_bool
    have tr : ∀ (Q : Bool → Shared → Prop), (∀ c s', R (.ok (.ret (.bool c))) s' → Q c s') → wpAny (model prog w) A.in1 (truthy (.ref x)) Q (fun e s' => R (.error e) s') ⟨hp, g, d, tk, os⟩ := fun Q hQ =>
      PySem.W.truthy_K hF hK hI hs hf (wpAny_mono hc (fun v s' hv => by
        obtain ⟨c, rfl, hq⟩ := hv
        exact hQ _ _ hq) fun _ _ e => e)
    repeat (any_goals (first | assumption | (with_reducible refine tr _ (fun c s' hq => ?_)) | wp_step))
    all_goals first | exact ⟨_, rfl, hq⟩ | skip
section
variable {X : Cx} {k : Nat} {C f : Addr} {fd : FuncData} {sp : Sp}
def qBoolO (C : Addr) (sp : Sp) : List V → Hp → VK → Prop := fun xs H Q => ∃ a dx fs, xs = [.ref a] ∧ H a = some (.ins C dx fs) ∧ sp [.ref a] H (fun v H' => ∃ b : Bool, v = .bl b ∧ Q (.bl b) H') E0
theorem call_boolO (hs : findIn X.K (.ref C) "__bool__" = some (some (.ref f))) (hf : isFn X.K (.ref f) = true) (F : FnOk X.prog X.w X.K X.mg X.base CX0 k f fd ["self"] sp) (hr : Room (k + 2) X.A) (hb : Binds X.K fd ["self"] []) : CallR X (.type "bool") (qBoolO C sp) := by
  intro pins s σ H xs us Q I r h
  obtain ⟨a, dx, fs, rfl, ea, q⟩ := h
  obtain ⟨u, rfl, rx⟩ := vals1 r
  obtain rfl : u = Value.ref a := rx
  obtain ⟨mA, od0, _, _, _, _⟩ := ins_get I.hok ea
  obtain ⟨od, J, _⟩ := od0.look
  obtain ⟨m, fr⟩ := I.fr
  refine callType_newIn PySem.F.called_bool PySem.F.newNe_bool (PySem.F.typeCall_bool_1 _) (PySem.F.newCall_bool_1 _) (fun obj => PySem.F.args_object_init_2 obj _) PySem.F.entry_bool_new (meets_bool_own hs hf) ⟨fr, I.ok.mod.kin, J, ?_⟩
  refine wpAny_call ?_
  refine codeAny_mono (F.run X.A.in1.in1 X.stack s H ⟨[.ref a], []⟩ [.ref a] [.ref a] _ _ (show Room (k + 1) X.A.in1 from Room.in1 hr).in1 I.env0.in1.in1 (hb _ [.ref a] I.kIn rfl) (.cons rfl .nil) q) fun r s' hq => ?_
  cases r with
  | error er => exact False.elim hq
  | ok fl =>
    cases fl with
    | ret u =>
      obtain ⟨v, H', I3, rv, b, ev, q3⟩ := I.after hq
      subst ev
      obtain rfl : u = Value.bool b := rv
      exact ⟨b, rfl, rfl, .bl b, H', I3, rfl, q3⟩
    | next => exact False.elim hq
    | brk => exact False.elim hq
    | cont => exact False.elim hq
end
end My
end
section
set_option Elab.async false
set_option linter.all false
set_option maxRecDepth 100000
set_option maxHeartbeats 4000000
namespace My
open PySem PySem.Spec PyProof.Rows L2
abbrev s_feq : Stmt := inCls s_cls 8
abbrev s_isRow : Stmt := topS 9999
abbrev s_chk : Stmt := topS 29
/-- an instance's class can be asked for -/
structure InsT (K : PySem.W.Frag) (C : Addr) : Prop where
  cl : Cls K C
  ca : PySem.W.findIn K (.ref C) "__class__" = some (some (.builtin "object.__class__"))
  cn : PySem.W.specialIn K (.builtin "object.__class__") "__get__" = some (some (.builtin "getset_descriptor.__get__"))
  ct : PySem.W.takesIn K (.builtin "object.__class__") = some true
  cm : PySem.W.mroIn K C (.type "object") = some true
theorem InsT.ty {K : PySem.W.Frag} {C a dx : Addr} {H : Hp} {fs : List (Str × V)} (h : InsT K C) (e : H a = some (.ins C dx fs)) : TyX K H (.ref a) (.ref C) := .base (.ins e h.cl h.ca h.cn h.ct h.cm)
theorem kit_self {K : PySem.W.Frag} (C : Addr) : PySem.W.kitOne K (.ref C) (.ref C) = some true := by simp [PySem.W.kitOne]
theorem pairs_dp {K : PySem.W.Frag} {H : Hp} : ∀ {ps : List (Nat × Nat)} {ys : List V}, PairsAt H ps ys → DpAll K H ys (ps.map pairD)
  | _, _, .nil => .nil
  | _, _, .cons ⟨q, e, h⟩ t => e ▸ .cons (.tup (SqT.of h) (.cons (.str _) (.cons (.str _) .nil))) (pairs_dp t)
theorem pairs_eqv : ∀ ps qs : List (Nat × Nat), PyData.eqvAll (ps.map pairD) (qs.map pairD) = decide (ps = qs)
  | [], [] => rfl
  | [], _ :: _ => rfl
  | _ :: _, [] => rfl
  | (a, b) :: ps, (c, d) :: qs => by
    have one : ∀ x y : Nat, ((⟨#[x]⟩ : Str) == ⟨#[y]⟩) = decide (x = y) := fun x y => eqV_sg x y
    show ((((⟨#[a]⟩ : Str) == ⟨#[c]⟩) && (((⟨#[b]⟩ : Str) == ⟨#[d]⟩) && true)) && PyData.eqvAll (ps.map pairD) (qs.map pairD)) = _
    rw [pairs_eqv ps qs, one, one, Bool.and_true]
    by_cases h1 : a = c
    · by_cases h2 : b = d
      · by_cases h3 : ps = qs
        · simp [h1, h2, h3]
        · simp [h1, h2, h3]
      · simp [h1, h2]
    · simp [h1]
/-- signs that a text may have -/
def LowP (ps : List (Nat × Nat)) : Prop := ∀ e ∈ ps, e.1 < 128 ∧ e.2 < 128
theorem ok_one {c : Nat} (h : c < 128) : PyData.strOk ⟨#[c]⟩ = true := by
  have h2 : c < 1114112 := by omega
  simp [PyData.strOk, h2]
theorem pairs_lay : ∀ ps : List (Nat × Nat), LowP ps → (PyData.list (ps.map pairD)).canLay0 = true ∧ (PyData.list (ps.map pairD)).depth ≤ 3
  | [], _ => ⟨rfl, by decide⟩
  | e :: ps, h => by
    obtain ⟨h1, h2⟩ := pairs_lay ps fun x hx => h x (List.mem_cons_of_mem _ hx)
    obtain ⟨e1, e2⟩ := h e List.mem_cons_self
    refine ⟨?_, ?_⟩
    · show (_ && (PyData.list (ps.map pairD)).canLay0) = true
      rw [h1, Bool.and_true]
      show (PyData.strOk ⟨#[e.1]⟩ && (PyData.strOk ⟨#[e.2]⟩ && true)) = true
      rw [ok_one e1, ok_one e2]
      rfl
    · have q : (PyData.list ((e :: ps).map pairD)).depth = max 1 ((PyData.list (ps.map pairD)).depth - 1) + 1 := rfl
      rw [q]
      omega
theorem pairs_shape {ps : List (Nat × Nat)} (h : LowP ps) : SeqAt.shaped (.tuple (ps.map pairD)) = true := by
  obtain ⟨h1, h2⟩ := pairs_lay ps h
  have h1 : (PyData.tuple (ps.map pairD)).canLay0 = true := h1
  have h2 : (PyData.tuple (ps.map pairD)).depth ≤ 3 := h2
  unfold SeqAt.shaped
  rw [h1, Bool.true_and]
  exact decide_eq_true (by omega)
def sp_feq (C : Addr) : Sp := fun vs H Q _ => ∃ (a b : Addr) (S T : Str) (ps qs : List (Nat × Nat)), vs = [.ref a, .ref b] ∧ FontAt H C a S ps ∧ FontAt H C b T qs ∧ LowP ps ∧ LowP qs ∧ Q (.bl (decide (S = T ∧ ps = qs))) H
section
variable {P : Program} {w : World} {K : PySem.W.Frag} {mg : Str → Option Value} {base : Heap}
theorem sc_feq : FnScope ["self", "other"] ["self", "other"] (defScope s_feq) := ⟨rfl, rfl, rfl, by decide +kernel, rfl, by decide +kernel, by decide +kernel⟩
theorem ok_feq {f C : Addr} {fd : FuncData} (F : Fun K "__eq__" "Font.__eq__" s_feq f fd) (T : TB mg) (I : InsT K C) (gF : mg "Font" = some (.ref C)) (n1 : NoAttr K C "_signs") (n2 : NoAttr K C "_turns") : FnOk P w K mg base CX0 1 f fd ["self", "other"] (sp_feq C) := by
  refine F.ok sc_feq (fun vs H Q E h => ?_) (fun cdv A outer s H vs Q E hr h => ?_)
  · obtain ⟨a, b, S, T, ps, qs, rfl, _⟩ := h
    rfl
  · obtain ⟨a, b, S, T', ps, qs, rfl, ha, hb, l1, l2, k⟩ := h
    obtain ⟨dx, r, ys, h1, h2, h3⟩ := ha.at_
    obtain ⟨dy, q, zs, g1, g2, g3⟩ := hb.at_
    refine ⟨_, pss_one (ps_ret (pe_and (pe_callB call_isi (by rfl) T.isi (by decide +kernel) (pa_cons (pv 1) (pa_cons (pe_glob (v := .ref C) rfl gF rfl) pa_nil)))
      (pe_and (pe_cmpR op_eq (pe_fld (pv 0) rfl) (pe_fld (pv 1) rfl) (nomark _)) (pe_one (pe_cmpR (op_eqD hr.units) (pe_fld (pv 0) rfl) (pe_fld (pv 1) rfl) (nomark _)))))), ?_⟩
    refine ⟨_, rfl, _, _, _, _, _, rfl, .own C, I.ty g1, kit_self C, _, rfl, iteT ?_⟩
    refine ⟨_, rfl, a, C, dx, _, _, rfl, h1, I.cl, n1, fs_signs S r, _, rfl, b, C, dy, _, _, rfl, g1, I.cl, n1, fs_signs T' q, rfl, _, rfl, ?_⟩
    refine ite2 (fun t => ?_) (fun t => ?_)
    · have t : S = T' := by
        have := of_decide_eq_true t
        injection this
      subst t
      refine ⟨_, rfl, a, C, dx, _, _, rfl, h1, I.cl, n2, fs_turns S r, _, rfl, b, C, dy, _, _, rfl, g1, I.cl, n2, fs_turns S q, .tuple (ps.map pairD), .tuple (qs.map pairD), .tup (SqT.of h2) (pairs_dp h3), .tup (SqT.of g2) (pairs_dp g3), ?_, ?_, ?_⟩
      · exact pairs_shape l1
      · exact pairs_shape l2
      · have e : PyData.eqv (.tuple (ps.map pairD)) (.tuple (qs.map pairD)) = decide (S = S ∧ ps = qs) := by
          show PyData.eqvAll _ _ = _
          rw [pairs_eqv]
          simp
        rw [e]
        exact k
    · have t : S ≠ T' := fun z => t (decide_eq_true (by rw [z]))
      have e : decide (S = T' ∧ ps = qs) = false := decide_eq_false fun z => t z.1
      rw [e] at k
      exact k
end
end My
end
section
set_option Elab.async false
set_option linter.all false
set_option maxRecDepth 100000
set_option maxHeartbeats 4000000
namespace My
open PySem PySem.Spec PyProof.Rows L2
/-- whether a value is a row of the signs -/
def rowD (S : Str) : PyData → Bool
  | .str z => z.cps.toList.all fun c => decide (c ∈ S.cps.toList)
  | _ => false
def sp_isRow (K : PySem.W.Frag) : Sp := fun vs H Q _ => ∃ (S : Str) (v : V) (d : PyData) (p : Addr), vs = [.str S, v] ∧ Rp K p H false v d ∧ textFits 4000 d ∧ ∀ H', Same H H' → Q (.bl (rowD S d)) H'
/-- a set as it is written -/
def setK (S z : Str) : List Nat := S.cps.toList.filter fun c => decide (c ∈ z.cps.toList)
def sp_written (K : PySem.W.Frag) (C IS : Addr) : Sp := fun vs H Q E => ∃ (a p : Addr) (S : Str) (ps : List (Nat × Nat)) (v : V) (d : PyData), vs = [.ref a, v] ∧ FontAt H C a S ps ∧ S.length ≤ 4000 ∧ Rp K p H false v d ∧ textFits 4000 d ∧
  (setD S d = false → Err E IS v H) ∧ (∀ z, d = .str z → setD S d = true → ∀ H', Same H H' → Q (.str (mkS (setK S z))) H')
end My
end
section
set_option Elab.async false
set_option linter.all false
set_option maxRecDepth 100000
set_option maxHeartbeats 4000000
namespace My
open PySem PySem.Spec PyProof.Rows L2
abbrev s_written : Stmt := topS 31
section
variable {P : Program} {w : World} {K : PySem.W.Frag} {mg : Str → Option Value} {base : Heap}
theorem sc_written : FnScope ["font", "signs", "sign"] ["font", "signs"] (defScope s_written) := ⟨rfl, rfl, rfl, by decide +kernel, rfl, by decide +kernel, by decide +kernel⟩
theorem ok_written {f C IS fI fS : Addr} {fd fdS : FuncData} (F : Fun K "written_set" "written_set" s_written f fd) (sg_ : SgnC P w K mg base C) (D : Def K mg "is_set" fS fdS ["signs", "value"]) (G : FnOk P w K mg base CX0 1 fS fdS ["signs", "value"] (sp_isSet K))
    (TE : VErr K mg "InvalidSigns" "InvalidSigns.__init__" IS fI) : FnOk P w K mg base (L2.CX P w) 4 f fd ["font", "signs"] (sp_written K C IS) := by
  obtain ⟨p1, g1, fd1, hp1, G1, b1⟩ := sg_.ex
  refine F.okX sc_written (fun vs H Q E h => ?_) (fun cdv A outer s H vs Q E hr h => ?_)
  · obtain ⟨a, p, S, ps, v, d, rfl, _⟩ := h
    rfl
  · obtain ⟨a, p, S, ps, v, d, rfl, hF, hS, hd, hz, kE, kQ⟩ := h
    obtain ⟨dx, r, ys, h1, h2, h3⟩ := hF.at_
    have r1 : Room 1 _ := hr.mono (by decide)
    refine ⟨_, pss_cons (ps_if (pt_not (pt_val (pe_call (E := E0) G r1 rfl D.mgf D.kp D.bd .nil pass0 (pa_cons (pe_prop (E := E0) (pv 0) sg_.cls hp1 G1 hr b1 .nil pass0 rfl) (pa_cons (pv 1) pa_nil))))) (pss_one (ps_raiseErr rfl TE fld_value hr (show 1 ≤ 3 by decide) (takes_of rfl rfl rfl rfl) (by exact (pa_cons (pv 1) pa_nil)) rfl)) pss_nil)
      (PSs.nox (pss_one (ps_ret (pe_join pe_str (pe_lc (own := [("sign", 2)]) (g := gName 2) rfl sc_written.nd (pi_str (pe_prop (E := E0) (pv 0) sg_.cls hp1 G1 hr b1 .nil pass0 rfl))
        (blkOk_by (own := [("sign", 2)]) (N := ["font", "signs", "sign"]) (sc := defScope s_written) (by decide +kernel)) (fun _ _ _ _ _ => pg_name (i := 2) sc_written.nd rfl (Or.inl rfl)) (fun _ _ _ _ _ => pts_one (pt_cmpR op_in_sign (pv 2) (pv 1) (by rfl))) (fun _ _ _ _ _ => pv 2)))))), ?_⟩
    have gS : ∀ H', Same H H' → ∀ (Q : VK), Q (.str S) H' → getSp C "_signs" [.ref a] H' Q E0 := fun H' s Q q => ⟨a, dx, _, _, rfl, s _ _ h1, fs_signs S r, q⟩
    refine ⟨_, rfl, a, dx, _, rfl, h1, gS H (Same.refl _) _ ⟨_, rfl, S, v, d, p, rfl, hd, hz, fun H1 s1 => ⟨_, rfl, ?_⟩⟩⟩
    cases hs : setD S d with
    | false => exact iteT ⟨_, rfl, _, rfl, fun dd f => (kE hs).at s1 f⟩
    | true =>
      refine iteF ?_
      obtain ⟨z, rfl⟩ : ∃ z, d = .str z := by
        cases d with
        | str z => exact ⟨z, rfl⟩
        | _ => cases hs
      cases hd
      have fin := kQ z rfl hs
      refine ⟨⟨_, rfl⟩, _, rfl, a, dx, _, rfl, s1 _ _ h1, gS H1 s1 _ ⟨S, rfl, fun D2 hD2 => ?_⟩⟩
      refine lc_ff walk_signs (fun x => decide (ofSg x ∈ z.cps.toList)) (fun x => x) hD2 (fun _ _ => trivial) (by rw [signs_len]; exact Nat.lt_of_le_of_lt hS (by decide)) (fun x => rfl) ?_ ?_ ?_
      · intro x H' C' hx _ hC
        obtain ⟨ch, _, rfl⟩ := mem_signs hx
        exact ⟨_, rfl, _, rfl, ch, z, rfl, rfl, _, rfl, hC H' (Same.refl _)⟩
      · intro x H' C' hx _ _ hC
        exact ⟨_, rfl, hC H' (Same.refl _)⟩
      · intro H2 s2 hl2
        have e2 : ((signs S).filter fun x => decide (ofSg x ∈ z.cps.toList)).map (fun x => x) = ((setK S z).map fun c => (⟨#[c]⟩ : Str)).map V.str := by
          rw [List.map_id', List.map_map]
          show (S.cps.toList.map sg).filter _ = _
          rw [filter_sg]
          rfl
        rw [e2] at hl2
        refine ⟨_, D2, _, rfl, rfl, .inl (SqL.of hl2), ?_, ?_⟩
        · rw [sum_ones]
          have : (PySem.Str.ofString "").length = 0 := by decide
          rw [this, Nat.mul_zero, Nat.add_zero]
          refine Nat.le_trans (List.length_filter_le _ _) ?_
          have : S.cps.toList.length = S.length := Array.length_toList
          rw [this]
          exact Nat.le_trans hS (by decide)
        · rw [join_sg]
          exact fin H2 (s1.trans s2)
end
end My
end
section
set_option Elab.async false
set_option linter.all false
set_option maxRecDepth 100000
set_option maxHeartbeats 4000000
/-! Pbear: _meet, Case.bearing. -/
namespace My
open PySem PySem.Spec PyProof.Rows L2
abbrev s_meet : Stmt := topS 34
abbrev c_bear : Stmt := inCls c_cls 14
/-- what a kind shows, as a text -/
def showsZ (S : Str) (ps : List (Nat × Nat)) (z : Str) : List Nat := match z.cps.toList with
  | [x, y] => (shownK S ps x y).cps.toList
  | _ => []
theorem showsZ_two (S : Str) (ps : List (Nat × Nat)) (x y : Nat) : showsZ S ps (mkS [x, y]) = (shownK S ps x y).cps.toList := rfl
theorem showsZ_in {S : Str} {ps : List (Nat × Nat)} {z : Str} : ∀ c ∈ showsZ S ps z, c ∈ S.cps.toList := by
  unfold showsZ
  split
  · intro c hc
    exact (List.mem_filter.mp (show c ∈ S.cps.toList.filter _ from hc)).1
  · intro c hc
    cases hc
theorem shownK_len (S : Str) (ps : List (Nat × Nat)) (x y : Nat) : (shownK S ps x y).length ≤ S.length := by
  unfold shownK
  rw [mkS_len]
  have zl : S.cps.toList.length = S.length := Array.length_toList
  rw [← zl]
  exact List.length_filter_le _ _
theorem ks_yes {S z : Str} (nd : S.cps.toList.Nodup) (no : 45 ∉ S.cps.toList) (h : z ∈ ksS S) : kindD S (.str z) = true := by
  unfold ksS at h
  obtain ⟨e, he, rfl⟩ := List.mem_map.mp h
  have k := kind_ok nd no he
  exact kind_yes no (side_of (.inr k.am)) (side_of k.cm) k.am (.inl rfl)
/-- whether some sign of one list is in the other -/
def meets (l Z : List Nat) : Bool := l.any fun c => decide (c ∈ Z)
theorem any_same {l : List Nat} {f g : Nat → Bool} (h : ∀ c ∈ l, f c = g c) : l.any f = l.any g := by
  induction l with
  | nil => rfl
  | cons a l ih => rw [List.any_cons, List.any_cons, h a List.mem_cons_self, ih fun c hc => h c (List.mem_cons_of_mem _ hc)]
/-- how many plates can show a sign of a set -/
def bearN (S : Str) (ps : List (Nat × Nat)) (cs : List (Str × Int)) (Z : List Nat) : Int := ((cs.filter fun e => meets (showsZ S ps e.1) Z).map (·.2)).sum
def sp_meet : Sp := fun vs H Q _ => ∃ y z : Str, vs = [.str y, .str z] ∧ y.length ≤ 4000 ∧ ∀ H', Same H H' → Q (.bl (meets y.cps.toList z.cps.toList)) H'
def sp_bear (K : PySem.W.Frag) (CC C IS : Addr) : Sp := fun vs H Q E => ∃ (a p : Addr) (S : Str) (ps : List (Nat × Nat)) (cs : List (Str × Int)) (v : V) (d : PyData), vs = [.ref a, v] ∧ CaseAt H CC C a S ps cs ∧ S.length ≤ 10 ∧ S.cps.toList.Nodup ∧ 45 ∉ S.cps.toList ∧ CsOk S cs ∧ Rp K p H false v d ∧ textFits 4000 d ∧
  (setD S d = false → Err E IS v H) ∧ (∀ z, d = .str z → setD S d = true → ∀ H', Same H H' → Q (.int (bearN S ps cs z.cps.toList)) H')
/-- a comprehension over entries that takes some of them -/
theorem lc_entP {K : PySem.W.Frag} {cs : List (Str × Int)} {xs : List V} {J : It} {G : Hp → Prop} (w : Walk J xs.length G (YAt xs)) {H1 : Hp} (hE : EntAt H1 cs xs) {i j : Nat} {vs : List Nat} {σ : L2.St} {D : Addr} {tt : TT} {te : TE} {Qd : Hp → Prop} (p : Str × Int → Bool) (f : Str × Int → V) (free : H1 D = none)
    (hG : ∀ H', Same H1 H' → G H') (small : xs.length < sizeLine) (hw : ∀ x y, wipe (((wipe σ vs).set i (some x)).set j (some y)) vs = wipe σ vs)
    (ht : ∀ e H' (C : Bool → Hp → Prop), e ∈ cs → Same H1 H' → (∀ H3, Same H' H3 → C (p e) H3) → tt (((wipe σ vs).set i (some (.str e.1))).set j (some (.int e.2))) H' C)
    (he : ∀ e H' (C : VK), e ∈ cs → p e = true → Same H1 H' → (∀ H4, Same H' H4 → C (f e) H4) → te (((wipe σ vs).set i (some (.str e.1))).set j (some (.int e.2))) H' C) (hd : ∀ H', Same H1 H' → H' D = some (.lst ((cs.filter p).map f)) → Qd H') :
    ∃ W : Nat → Nat → Hp → Prop, (∃ m, W 0 m (upd H1 D (.lst []))) ∧ ∀ k m H, W k m H →
      (J.stop k H ∧ Qd H) ∨ (J.go k H ∧ ∃ Nx : Hp → Prop, (∀ H', Nx H' → ∃ m', m' < m ∧ W (k + 1) m' H') ∧ ∀ x H', J.yld k H x H' → gTup K 2 (gCons (gName i) (gCons (gName j) gNil)) x (wipe σ vs) H' fun σ2 H2 => wipe σ2 vs = wipe σ vs ∧ tt σ2 H2 fun b H3 =>
        if b = true then te σ2 H3 fun y H4 => ∃ acc, H4 D = some (.lst acc) ∧ acc.length < sizeLine ∧ Nx (upd H4 D (.lst (acc ++ [y]))) else Nx H3) := by
  have hl : cs.length = xs.length := Paired.length hE
  refine lcw w (fun k H' => Same H1 H' ∧ H' D = some (.lst (((cs.take k).filter p).map f))) ⟨Same.wr (Same.refl H1) free .mk', upd_same⟩ (fun k H' _ q => hG H' q.1) ?_ ?_
  · rintro k x H2 H3 hk ⟨s, hD⟩ ⟨rfl, hx⟩
    obtain ⟨e, hek, q, rfl, hq⟩ := Paired.at hE hx
    have hem := List.mem_of_getElem? hek
    have nx : cs.take (k + 1) = cs.take k ++ [e] := by
      rw [List.take_add_one, hek]
      rfl
    refine ⟨q, _, rfl, SqT.of (s _ _ hq), rfl, _, _, rfl, _, _, rfl, rfl, hw _ _, ht e H3 _ hem s fun H4 s4 => ?_⟩
    have hD4 := s4 _ _ hD
    cases hpa : p e with
    | true =>
      rw [if_pos rfl]
      refine he e H4 _ hem hpa (s.trans s4) fun H5 s5 => ⟨_, s5 _ _ hD4, ?_, Same.wr ((s.trans s4).trans s5) free .mk', ?_⟩
      · rw [List.length_map]
        have h1 := List.length_filter_le p (cs.take k)
        rw [List.length_take] at h1
        omega
      · rw [upd_same, nx, List.filter_append, List.map_append, List.filter_cons, if_pos hpa]
        rfl
    | false =>
      rw [if_neg Bool.false_ne_true]
      refine ⟨s.trans s4, ?_⟩
      rw [hD4, nx, List.filter_append, List.filter_cons, if_neg (by rw [hpa]; exact Bool.false_ne_true), List.filter_nil, List.append_nil]
  · rintro H' ⟨s, hD⟩
    rw [← hl, List.take_length] at hD
    exact hd H' s hD
section
variable {P : Program} {w : World} {K : PySem.W.Frag} {mg : Str → Option Value} {base : Heap}
abbrev NMt : List Str := ["signs", "others", "sign"]
theorem sc_meet : FnScope NMt ["signs", "others"] (defScope s_meet) := ⟨rfl, rfl, rfl, by decide +kernel, rfl, by decide +kernel, by decide +kernel⟩
theorem ok_meet {f : Addr} {fd : FuncData} (F : Fun K "_meet" "_meet" s_meet f fd) (tn : mg "any" = none) : FnOk P w K mg base CX0 1 f fd ["signs", "others"] sp_meet := by
  refine F.ok sc_meet (fun vs H Q E h => ?_) (fun cdv A outer s H vs Q E hr h => ?_)
  · obtain ⟨y, z, rfl, _⟩ := h
    rfl
  · obtain ⟨y, z, rfl, hy, k⟩ := h
    refine ⟨_, pss_one (ps_ret (pe_callB (cr_any rfl) (by rfl) tn (by decide +kernel) (pa_cons (by exact (pe_lc (own := [("sign", 2)]) (g := gName 2) (tt := tYes) rfl sc_meet.nd (pi_str (pv 0)) (blkOk_by (own := [("sign", 2)]) (N := NMt) (sc := defScope s_meet) (by decide +kernel))
      (fun _ _ _ _ _ => pg_name (i := 2) sc_meet.nd rfl (Or.inl rfl)) (fun _ _ _ _ _ => pts_nil) (fun _ _ _ _ _ => pe_cmpR op_in_sign (pv 2) (pv 1) (by rfl)))) pa_nil))), ?_⟩
    refine ⟨_, rfl, y, rfl, fun D hD => lc_ff (walk_signs (z := y)) (fun _ => true) (fun x => .bl (decide (ofSg x ∈ z.cps.toList))) hD (fun _ _ => trivial) (by rw [signs_len]; exact Nat.lt_of_le_of_lt hy (by decide)) (fun x => rfl) (fun x H' C _ _ h => h _ (Same.refl _)) ?_ ?_⟩
    · intro x H' C hx _ _ hC
      obtain ⟨c, _, rfl⟩ := mem_signs hx
      exact ⟨_, rfl, _, rfl, c, z, rfl, rfl, hC H' (Same.refl _)⟩
    · intro H' sm hl
      refine ⟨D, y.cps.toList.map fun c => decide (c ∈ z.cps.toList), rfl, SqL.of ?_, ?_⟩
      · rw [hl, pv_filter_true]
        show some (HO.lst ((y.cps.toList.map sg).map _)) = _
        rw [List.map_map, List.map_map]
        rfl
      · have e : (y.cps.toList.map fun c => decide (c ∈ z.cps.toList)).any id = meets y.cps.toList z.cps.toList := by
          rw [List.any_map]
          rfl
        rw [e]
        exact k H' sm
abbrev NBe : List Str := ["self", "signs", "wanted", "kind", "count"]
theorem sc_bear : FnScope NBe ["self", "signs"] (defScope c_bear) := ⟨rfl, rfl, rfl, by decide +kernel, rfl, by decide +kernel, by decide +kernel⟩
theorem ok_bear {f CC C IS IK fS fM fSh : Addr} {fd fdS fdM fdSh : FuncData} (F : Fun K "bearing" "Case.bearing" c_bear f fd) (ts : mg "sum" = none) (cc : CCls K CC) (clF : Cls K C)
    (DS : Def K mg "written_set" fS fdS ["font", "signs"]) (GS : FnOk P w K mg base (L2.CX P w) 4 fS fdS ["font", "signs"] (sp_written K C IS)) (DM : Def K mg "_meet" fM fdM ["signs", "others"]) (GM : FnOk P w K mg base CX0 1 fM fdM ["signs", "others"] sp_meet)
    (MS : Meth K C "shown" fSh) (GSh : FnOk P w K mg base (L2.CX P w) 4 fSh fdSh ["self", "kind"] (sp_shownM K C IK)) (bSh : Binds K fdSh ["self", "kind"] []) :
    FnOk P w K mg base (L2.CX P w) 5 f fd ["self", "signs"] (sp_bear K CC C IS) := by
  refine F.okX sc_bear (fun vs H Q E h => ?_) (fun cdv A outer s H vs Q E hr h => ?_)
  · obtain ⟨a, p, S, ps, cs, v, d, rfl, _⟩ := h
    rfl
  · obtain ⟨a, p, S, ps, cs, v, dt, rfl, hC, hS, nd, no, ok, hd, hz, kE, kQ⟩ := h
    obtain ⟨dx, fa, d, t, ys, h1, h2, h3, h4, h5⟩ := hC.at_
    obtain ⟨fx, fr, fys, i1, _, _⟩ := id h2.at_
    have r1 : Room 1 _ := hr.mono (by decide)
    refine ⟨_, pss_cons (ps_set (i := 2) sc_bear.nd rfl (Or.inr rfl) (pe_call (E := E) GS hr rfl DS.mgf DS.kp DS.bd .nil (passes_call (takes_of rfl rfl rfl rfl) (fun _ _ _ _ h => h)) (pa_cons (pe_fld (pv 0) rfl) (pa_cons (pv 1) pa_nil))))
      (PSs.nox (pss_one (ps_ret (pe_callB (cr_sum rfl) (by rfl) ts (by decide +kernel) (pa_cons (by exact (pe_lc (own := [("kind", 3), ("count", 4)]) (g := gTup K 2 (gCons (gName 3) (gCons (gName 4) gNil))) rfl sc_bear.nd (pi_tup (pe_fld (pv 0) rfl)) (blkOk_by (own := [("kind", 3), ("count", 4)]) (N := NBe) (sc := defScope c_bear) (by decide +kernel))
        (fun _ _ _ _ _ => pg_tup rfl (pgs_cons (pg_name (i := 3) sc_bear.nd rfl (Or.inl rfl)) (pgs_cons (pg_name (i := 4) sc_bear.nd rfl (Or.inl rfl)) pgs_nil)))
        (fun _ _ _ _ _ => pts_one (pt_val (pe_call (E := E0) GM r1 rfl DM.mgf DM.kp DM.bd .nil pass0 (pa_cons (pe_meth (C := C) (E := E0) (pe_fldN (K := K) (by rfl) (pv 0) rfl) clF MS GSh hr bSh .nil passN (pa_cons (pv 3) pa_nil)) (pa_cons (pv 2) pa_nil))))) (fun _ _ _ _ _ => pv 4))) pa_nil))))), ?_⟩
    have el : cs.length = ys.length := Paired.length h5
    refine ⟨_, rfl, a, CC, dx, _, _, rfl, h1, cc.cls, cc.nF, cfs_font fa d t, _, rfl, fa, p, S, ps, v, dt, rfl, h2, by omega, hd, hz, kE, fun z ez hs H1 s1 => ?_⟩
    have fin := kQ z ez hs
    refine ⟨_, rfl, a, CC, dx, _, _, rfl, s1 _ _ h1, cc.cls, cc.nP, cfs_plates fa d t, t, rfl, ⟨_, SqT.of (s1 _ _ h4)⟩, fun D hD => ?_⟩
    refine lc_entP walk_tup (h5.same s1) (fun e => meets (showsZ S ps e.1) (setK S z)) (fun e => .int e.2) hD (fun H' s => s.tupl (SqT.of (s1 _ _ h4))) (by rw [← el]; exact Nat.lt_of_le_of_lt ok.len (by decide)) (fun x y => rfl) ?_ (fun e H' C' _ _ _ hC' => ⟨_, rfl, hC' H' (Same.refl _)⟩) fun H' s' hD' => ?_
    · intro e H2 C2 he s2 hC2
      have s12 := s1.trans s2
      refine ⟨_, rfl, a, CC, dx, _, _, rfl, s12 _ _ h1, cc.cls, cc.nF, cfs_font fa d t, fa, fx, _, rfl, s12 _ _ i1, rfl, _, rfl, fa, p, S, ps, .str e.1, .str e.1, rfl, h2.same s12, by omega, .str _ _, ?_, fun z => absurd ((ks_yes nd no (ok.inS e he)).symm.trans z) (by intro z; cases z), fun x y ed _ H3 s3 => ?_⟩
      · obtain ⟨a', c', ez, _, _⟩ := ks_cps (ok.inS e he)
        show e.1.length ≤ 4000
        rw [ez, mkS_len]
        exact (by decide : 2 ≤ 4000)
      · have ed : e.1 = mkS [x, y] := by injection ed
        refine ⟨_, rfl, shownK S ps x y, mkS (setK S z), rfl, Nat.le_trans (shownK_len S ps x y) (by omega), fun H4 s4 => ⟨_, rfl, ?_⟩⟩
        have hC2 := hC2 H4 (s3.trans s4)
        rw [ed, showsZ_two] at hC2
        exact hC2
    · refine ⟨D, (cs.filter fun e => meets (showsZ S ps e.1) (setK S z)).map (·.2), rfl, SqL.of (by rw [hD', List.map_map]; rfl), ?_⟩
      have eN : ((cs.filter fun e => meets (showsZ S ps e.1) (setK S z)).map (·.2)).sum = bearN S ps cs z.cps.toList := by
        unfold bearN
        congr 2
        refine List.filter_congr fun e _ => ?_
        unfold meets
        refine any_same fun c hc => decide_eq_decide.mpr ?_
        have := showsZ_in c hc
        unfold setK
        rw [List.mem_filter, decide_eq_true_iff]
        exact ⟨fun q => q.2, fun q => ⟨this, q⟩⟩
      rw [eN]
      exact fin H' (s1.trans s')
end
end My
end
section
set_option Elab.async false
set_option linter.all false
set_option maxRecDepth 100000
set_option maxHeartbeats 4000000
/-! Qlbear: _law_bearing. -/
namespace My
open PySem PySem.Spec PyProof.Rows L2 LamX
abbrev s_lbear : Stmt := topS 57
def asgE' : Stmt → Expr
  | .Assign _ e _ => e
  | _ => .Constant .none 0 default
def lcSco : Expr → Scope
  | .ListComp _ _ s _ => s
  | _ => default
abbrev outSc : Scope := lcSco (asgE' (nth (defBody s_lbear) 1))
abbrev outScR : Scope := { outSc with names := [(".0", .local), ("_law_kind", .local), ("_law_seen", .globalImplicit), ("_law_font_here", .cell), ("_law_some", .cell)] }
theorem sc_out (L f : Addr) (cd : Value) : PySem.relabel outSc (envOfC "_law_bearing" (defScope s_lbear) L f cd) = outScR := by
  first
    | rfl
    | with_unfolding_all rfl
    | decide +kernel
theorem seen_meets {S : Str} {ps : List (Nat × Nat)} {a c : Nat} (hG : Good 10 S ps) (no : 45 ∉ S.cps.toList) (k : KindOk S a c) (Z : List Nat) : (!((seenK S ps a c).cps.toList.filter fun q => decide (q ∈ Z)).isEmpty) = meets (showsZ S (dueOf S (headsAll ps)) (mkS [a, c])) Z := by
  rw [showsZ_two, shown_seen hG no k (kept_first k)]
  unfold meets
  generalize (seenK S ps a c).cps.toList = l
  induction l with
  | nil => rfl
  | cons q l ih =>
    rw [List.filter_cons, List.any_cons]
    by_cases h : q ∈ Z
    · rw [if_pos (decide_eq_true h), decide_eq_true h]
      rfl
    · rw [if_neg (by rw [decide_eq_true_iff]; exact h), decide_eq_false h]
      exact ih
def sp_lbear : Sp := fun vs H Q _ => ∃ (t t1 b d : Addr) (S : Str) (ys : List V) (ps : List (Nat × Nat)) (cs : List (Str × Int)) (Z : List Nat), vs = [.ref t, .str (mkS Z)] ∧ Pl H t t1 b d S ys ps cs ∧ ∀ H', Same H H' → Q (.int (bearN S (dueOf S (headsAll ps)) cs Z)) H'
section
variable {P : Program} {w : World} {K : PySem.W.Frag} {mg : Str → Option Value} {base : Heap}
abbrev NLb : List Str := ["_law_plain_here", "_law_some", "_law_font_here", "_law_counts", "_law_kinds_here", "_law_kind", "_law_sign"]
theorem sc_lbear : FnScope NLb ["_law_plain_here", "_law_some"] (defScope s_lbear) := ⟨rfl, rfl, rfl, by decide +kernel, rfl, by decide +kernel, by decide +kernel⟩
theorem ok_lbear {f fS : Addr} {fd fdS : FuncData} (F : Fun K "_law_bearing" "_law_bearing" s_lbear f fd) (ts : mg "sum" = none) (DS : Def K mg "_law_seen" fS fdS ["_law_font_here", "_law_kind"]) (GS : FnOk P w K mg base CX0 2 fS fdS ["_law_font_here", "_law_kind"] (sp_seen K)) :
    FnOk P w K mg base CX0 3 f fd ["_law_plain_here", "_law_some"] sp_lbear := by
  refine F.ok sc_lbear (fun vs H Q E h => ?_) (fun cdv A outer s H vs Q E hr h => ?_)
  · obtain ⟨t, t1, b, d, S, ys, ps, cs, Z, rfl, _⟩ := h
    rfl
  · obtain ⟨t, t1, b, d, S, ys, ps, cs, Z, rfl, hT, k⟩ := h
    have hu := hu_of hr
    refine ⟨_, pss_cons (ps_asg (pv 0) (pg_tup rfl (pgs_cons (pg_name (i := 2) sc_lbear.nd rfl (Or.inr rfl)) (pgs_cons (pg_name (i := 3) sc_lbear.nd rfl (Or.inr rfl)) pgs_nil))))
      (pss_cons (ps_lock (ps_setLc (i := 4) (own := [("_law_kind", 5)]) (g := gName 5) rfl sc_lbear.nd rfl rfl (sw_true rfl rfl rfl (by decide +kernel)) (pi_keys (pv 3)) (blkOk_by (own := [("_law_kind", 5)]) (N := NLb) (sc := defScope s_lbear) (by decide +kernel))
        (fun _ _ _ _ _ => pg_name (i := 5) sc_lbear.nd rfl (Or.inl rfl))
        (fun _ _ _ _ _ => pts_one (pt_cmpR (show OpR _ (compareOp .NotEq) (qNeNil K) from op_neNil hr.units0) (by exact (pe_lc (own := [("_law_sign", 6)]) (g := gName 6) rfl sc_lbear.nd (pi_str (pe_call (E := E0) GS hr rfl DS.mgf DS.kp DS.bd .nil pass0 (pa_cons (pv 2) (pa_cons (pv 5) pa_nil)))) (by show BlkOk NLb (PySem.relabel outSc (envOfC "_law_bearing" (defScope s_lbear) _ _ _)) _ [("_law_sign", 6)]; rw [sc_out]; exact blkOk_by (by decide +kernel))
          (fun _ _ _ _ _ => pg_name (i := 6) sc_lbear.nd rfl (Or.inl rfl)) (fun _ _ _ _ _ => pts_one (pt_cmpR op_in_sign (pv 6) (pv 1) (by rfl))) (fun _ _ _ _ _ => pv 6))) (pe_lst' pa_nil) (nomark _)))
        (fun _ _ _ _ _ => pv 5)))
      (pss_one (ps_ret (pe_callB (cr_sum rfl) (by rfl) ts (by decide +kernel) (pa_cons (by exact (pe_lc (own := [("_law_kind", 5)]) (g := gName 5) (tt := tYes) rfl sc_lbear.nd (pi_list (pv 4)) (blkOk_by (own := [("_law_kind", 5)]) (N := NLb) (sc := defScope s_lbear) (by decide +kernel))
        (fun _ _ _ _ _ => pg_name (i := 5) sc_lbear.nd rfl (Or.inl rfl)) (fun _ _ _ _ _ => pts_nil) (fun _ _ _ _ _ => pe_dget hu (pv 3) (pv 5) (fun _ _ => rfl)))) pa_nil))))), ?_⟩
    have hB := hT.csb
    have hS := hT.good.hi
    refine ⟨_, rfl, t, _, rfl, SqT.of hT.at_.h0, rfl, _, _, rfl, _, _, rfl, rfl, ?_⟩
    have h3 := hT.at_.h4
    refine ⟨d, _, h3, trivial, fun od => ?_⟩
    have L1 : (upd H d (.frz od (.dK (toS cs)))) t1 = some (.tup [.str S, .ref b]) := (lock_els (ne_of hT.at_.h1 h3 (by intro z; cases z))).trans hT.at_.h1
    have L2 : (upd H d (.frz od (.dK (toS cs)))) b = some (.lst ys) := (lock_els (ne_of hT.at_.h2 h3 (by intro z; cases z))).trans hT.at_.h2
    have L3 : PairsAt (upd H d (.frz od (.dK (toS cs)))) ps ys := Paired.map (fun e y hy => by
      obtain ⟨q, e1, e2⟩ := hy
      exact ⟨q, e1, (lock_els (ne_of e2 h3 (by intro z; cases z))).trans e2⟩) hT.at_.h3
    have lk : (upd H d (.frz od (.dK (toS cs)))) d = some (.frz od (.dK (toS cs))) := locked
    have bk : ∀ H', Same (upd H d (.frz od (.dK (toS cs)))) H' → Same H (upd H' d (.dK (toS cs))) := fun H' s => unlock h3 s
    generalize upd H d (HO.frz od (.dK (toS cs))) = H1 at L1 L2 L3 lk bk ⊢
    have hz : cs.length = ((toS cs).map fun e => kV e.1).length := by simp [toS]
    have small : ((toS cs).map fun e => kV e.1).length < sizeLine := by
      rw [← hz]
      exact Nat.lt_of_le_of_lt hB.len (by decide)
    have pl : ps.length ≤ 4000 := Nat.le_trans (pairs_len hT.good) (by decide)
    refine ⟨_, rfl, d, od, rfl, .inl ⟨_, lk, fun D hD => ?_⟩⟩
    refine lc_pair walk_ks cs hz (fun e => meets (showsZ S (dueOf S (headsAll ps)) e.1) Z) (fun e y _ => y = .str e.1) (fun _ _ _ _ _ _ h => h) hD (fun H' s => s _ _ lk) small (fun x => rfl) ?_ ?_ ?_
    · intro j x e H' C hx he s hC
      have ek : x = .str e.1 := by
        rw [toS_ks, List.map_map, List.getElem?_map, he] at hx
        exact (Option.some.inj hx).symm
      subst ek
      have hin := hB.inS e (List.mem_of_getElem? he)
      unfold ksS at hin
      obtain ⟨⟨a, c⟩, hac, ez⟩ := List.mem_map.mp hin
      have ko := kind_ok hT.good.nd hT.no hac
      have ez : mkS [a, c] = e.1 := ez
      rw [← ez] at hC ⊢
      refine ⟨_, rfl, _, rfl, t1, b, S, ys, ps, a, c, rfl, SqT.of (s _ _ L1), SqL.of (s _ _ L2), L3.same s, pl, by omega, fun H2 s2 => ?_⟩
      have sl : (seenK S ps a c).length ≤ 10 := by
        unfold seenK
        rw [mkS_len]
        have zl : S.cps.toList.length = S.length := Array.length_toList
        have := List.length_filter_le (fun q => decide (q ∈ seenL S ps a c)) S.cps.toList
        omega
      refine ⟨seenK S ps a c, rfl, fun D2 hD2 => lc_ff walk_signs (fun x => decide (ofSg x ∈ Z)) (fun x => x) hD2 (fun _ _ => trivial) (by rw [signs_len]; exact Nat.lt_of_le_of_lt sl (by decide)) (fun x => rfl) ?_ ?_ ?_⟩
      · intro x H3 C' hx _ hC'
        obtain ⟨ch, _, rfl⟩ := mem_signs hx
        exact ⟨_, rfl, _, rfl, ch, mkS Z, rfl, rfl, _, rfl, hC' H3 (Same.refl _)⟩
      · intro x H3 C' hx _ _ hC'
        exact ⟨_, rfl, hC' H3 (Same.refl _)⟩
      · intro H3 s3 h3'
        have e2 : ((signs (seenK S ps a c)).filter fun x => decide (ofSg x ∈ Z)).map (fun x => x) = ((seenK S ps a c).cps.toList.filter fun q => decide (q ∈ Z)).map sg := by
          rw [List.map_id']
          show (((seenK S ps a c).cps.toList.map sg).filter _) = _
          rw [filter_sg]
          rfl
        rw [e2] at h3'
        refine ⟨by show 0 ≤ sizeLine; decide, fun q H4 n4 => ⟨D2, q, _, rfl, rfl, SqL.of (n4.same _ _ h3'), n4.here, _, rfl, ?_⟩⟩
        rw [List.isEmpty_map, seen_meets hT.good hT.no ko Z]
        exact hC H4 ((s2.trans s3).trans n4.same)
    · intro j x e H' C hx he _ s hC
      have ek : x = .str e.1 := by
        rw [toS_ks, List.map_map, List.getElem?_map, he] at hx
        exact (Option.some.inj hx).symm
      subst ek
      exact ⟨_, rfl, hC H' _ (Same.refl _) rfl⟩
    · intro H' zs s hD' hP
      have nD : D ≠ d := fun z => by rw [z, lk] at hD; cases hD
      refine ⟨s _ _ lk, ?_⟩
      have sn := bk H' s
      have hDn : (upd H' d (.dK (toS cs))) D = some (.lst zs) := (upd_ne nD).trans hD'
      have hdn : (upd H' d (.dK (toS cs))) d = some (.dK (toS cs)) := upd_same
      generalize upd H' d (HO.dK (toS cs)) = H2 at sn hDn hdn ⊢
      have zs_ : zs = ((cs.filter fun e => meets (showsZ S (dueOf S (headsAll ps)) e.1) Z).map fun e => V.str e.1) := paired_eq hP
      have fl : (cs.filter fun e => meets (showsZ S (dueOf S (headsAll ps)) e.1) Z).length = zs.length := by rw [zs_, List.length_map]
      have fs : zs.length < sizeLine := by
        rw [← fl]
        exact Nat.lt_of_le_of_lt (Nat.le_trans (List.length_filter_le _ _) hB.len) (by decide)
      refine ⟨_, rfl, D, rfl, ⟨_, SqL.of hDn⟩, fun D3 hD3 => ?_⟩
      refine lc_pair (walk_list (xs := zs)) (cs.filter fun e => meets (showsZ S (dueOf S (headsAll ps)) e.1) Z) fl (fun _ => true) (fun e y _ => y = .int e.2) (fun _ _ _ _ _ _ h => h) hD3 (fun H' s => SqL.of (s _ _ hDn)) fs (fun x => rfl) (fun _ _ _ H' C _ _ _ h => h H' (Same.refl _)) ?_ ?_
      · intro j x e H3 C hx he _ s3 hC
        rw [zs_, List.getElem?_map, he] at hx
        obtain rfl := Option.some.inj hx
        have mem := (List.mem_filter.mp (List.mem_of_getElem? he)).1
        have dg := dget_toS e.1 (s3 _ _ hdn)
        rw [ctK_nd hB.nd mem] at dg
        exact ⟨_, rfl, _, rfl, d, _, rfl, dg, hC H3 _ (Same.refl _) rfl⟩
      · intro H3 us s3 hD3' hP3
        rw [pv_filter_true] at hP3
        refine ⟨D3, (cs.filter fun e : Str × Int => meets (showsZ S (dueOf S (headsAll ps)) e.1) Z).map (fun e : Str × Int => e.2), rfl, SqL.of ?_, k H3 (sn.trans s3)⟩
        rw [hD3', paired_eq hP3, List.map_map]
        rfl
end
end My
end
section
set_option Elab.async false
set_option linter.all false
set_option maxRecDepth 100000
set_option maxHeartbeats 4000000
namespace My
open PySem PySem.Spec PySem.Calls PyProof.Rows L2
open PySem.W (Frag kitOne Looks)
/-! ### isinstance(e, c), c above the class of an error that a suite holds -/
theorem ans_up {K : Frag} {x t c : Value} {H : Heap → Prop} (ty : ∀ (M : Model) (h : Heap), K.In h → H h → Looks M h (typeOf x) t) (ne : (t == c) = false) (e : kitOne K t c = some true) :
    Answers (fun s => K.In s.heap ∧ H s.heap) x c true := by
  intro dep tk prog w A R s hs
  obtain ⟨h0, g, d, tt, os⟩ := s
  obtain ⟨⟨X, p⟩, hq⟩ := hs
  have isT := ty (model prog w) h0 X p
  unfold PySem.W.kitOne at e
  unfold Builtin.«isinstance.nested»
  refine wpAny_bind (isT.at ?_)
  have q : ¬ (t == c) = true := by
    rw [ne]
    exact Bool.false_ne_true
  rw [if_neg q] at e
  rw [if_neg q]
  obtain ⟨cT, cI, up⟩ := PySem.W.kit_cls (M := model prog w) X e
  have inst : Looks (model prog w) h0 (isInstance x c) true := isT.andThen up
  refine wpAny_bind (cT.at ?_)
  rw [if_pos (by decide)]
  k_delta "plainIsInstance"
  refine wpAny_bind (wpAny_bind (cI.at ?_))
  simp only [Bool.not_true, Bool.false_eq_true, if_false]
  refine wpAny_bind (inst.at ?_)
  first
    | exact wpAny_pure (wpAny_pure (hq tt))
    | (simp only [if_true]
       first
         | exact wpAny_pure (wpAny_pure (hq tt))
         | exact wpAny_pure (hq tt)
         | exact wpAny_bind (wpAny_pure (wpAny_pure (hq tt))))
/-- isinstance(e, c), e the error that the suite holds, of the class at cls, c above it -/
def rIsUp (K : Frag) (a : Addr) (cls : Value) : List V → Hp → VK → Prop := fun xs H Q => ∃ (c : V) (cv : Value), xs = [.ref a, c] ∧ (∀ u, RelV c u → u = cv) ∧ kitOne K cls cv = some true ∧ (cls == cv) = false ∧ Q (.bl true) H
theorem call_isUp {X : Cx} {a : Addr} {oe : Obj} {cls : Value} {d : Option Addr} {pn : List (Addr × Obj)} (hz : Zc cls d oe) : CallR (X.suite a ((a, oe) :: pn)) (.builtin "isinstance") (rIsUp X.K a cls) := by
  intro pins s σ H xs us Q I r h
  obtain ⟨c, cv, rfl, hcv, e, ne, q⟩ := h
  obtain ⟨u1, u2, rfl, rx, rt⟩ := vals2 r
  obtain rfl : u1 = Value.ref a := rx
  obtain rfl := hcv _ rt
  obtain ⟨here, _⟩ := I.pin (a, oe) (List.mem_append.mpr (.inl List.mem_cons_self))
  have ty : ∀ (M : Model) (h : Heap), X.K.In h → h.get? a = some oe → Looks M h (typeOf (.ref a)) cls := fun M h _ g => hz.1 ▸ (PySem.W.Looks.ld g).andThen .now
  exact call_isinstance (S := fun _ R s => (X.K.In s.heap ∧ s.heap.get? a = some oe) ∧ ∀ tk, R (.ok (.ret (.bool true))) { s with toks := tk })
    (fun prog w A R s hs => isinstance_outer (ans_up (H := fun h => h.get? a = some oe) ty ne e 0 _ prog w A R s hs) (fun z => nomatch z)) ⟨⟨I.kIn, here⟩, fun tk => ⟨.bl true, H, I.kept (t' := tk) fun _ _ z => z, rfl, q⟩⟩
end My
end
section
set_option Elab.async false
set_option linter.all false
set_option maxRecDepth 100000
set_option maxHeartbeats 4000000
/-! Xkeep: an exception that stays in a name behind its except clause; a lambda that stays in a name. Both are objects that no heap tracks: they are pinned from then on. -/
namespace My
open PySem PySem.Spec PySem.Calls PyProof.Rows L2 LamX
open PySem.W (Frag kitOne Looks)
section
variable {X : Cx} {pins : List (Addr × Obj)} {σ : L2.St} {H : Hp} {s : Shared}
/-- X with these pins -/
abbrev Cx.kp (X : Cx) (pn : List (Addr × Obj)) : Cx := X.tr pn X.xe
theorem inv_pin {f : Addr} {o : Obj} (J : Inv X pins σ H s) (there : s.heap.get? f = some o) (free : H f = none) (n1 : f ≠ X.env.locals) (n2 : f ∉ X.fs) (nc : ∀ v, o.data ≠ .cell v) : Inv (Cx.kp X ((f, o) :: (X.pn ++ pins))) [] σ H s where
  ok := J.ok.toTry _ _
  os := J.os
  bare := J.bare
  base := J.base
  loc := J.loc
  cell := J.cell
  free := J.free
  freeC := J.freeC
  pin := by
    intro p hp
    rw [List.append_nil] at hp
    cases List.mem_cons.mp hp with
    | inl e => subst e; exact ⟨there, free, n1, n2, nc⟩
    | inr h => exact J.pin p h
  hok := J.hok
  len := J.len
theorem inv_unpin {q : Addr × Obj} {r : List (Addr × Obj)} (J : Inv (Cx.kp X (q :: (X.pn ++ pins))) r σ H s) (ok : X.Ok) : Inv X pins σ H s where
  ok := ok
  os := J.os
  bare := J.bare
  base := J.base
  loc := J.loc
  cell := J.cell
  free := J.free
  freeC := J.freeC
  pin := fun p hp => J.pin p (List.mem_append_left _ (List.mem_cons_of_mem _ hp))
  hok := J.hok
  len := J.len
/-- out of an except suite, its exception still pinned -/
theorem inv_outSuite {a : Addr} {q : Addr × Obj} {r : List (Addr × Obj)} (J : Inv (X.suite a (q :: (X.pn ++ pins))) r σ H s) (ok : X.Ok) : Inv (Cx.kp X (q :: (X.pn ++ pins))) [] σ H s where
  ok := ok.toTry _ _
  os := J.os
  bare := J.bare
  base := J.base
  loc := J.loc
  cell := J.cell
  free := J.free
  freeC := J.freeC
  pin := fun p hp => J.pin p (List.mem_append_left _ (by rw [List.append_nil] at hp; exact hp))
  hok := J.hok
  len := J.len
theorem sp_unpin {q : Addr × Obj} {D : Ends} {fl : Flow} (ok : X.Ok) (h : SP (Cx.kp X (q :: (X.pn ++ pins))) [] D fl s) : SP X pins D fl s := by
  cases fl with
  | ret u => obtain ⟨v, σ1, H1, J, z⟩ := h; exact ⟨v, σ1, H1, inv_unpin J ok, z⟩
  | next => obtain ⟨σ1, H1, J, z⟩ := h; exact ⟨σ1, H1, inv_unpin J ok, z⟩
  | brk => obtain ⟨σ1, H1, J, z⟩ := h; exact ⟨σ1, H1, inv_unpin J ok, z⟩
  | cont => obtain ⟨σ1, H1, J, z⟩ := h; exact ⟨σ1, H1, inv_unpin J ok, z⟩
end
/-! ### name = lambda: .. -/
section
variable {X : Cx}
abbrev lamO (X : Cx) (params : Arguments) (body : Expr) (scope : Scope) (pm ctv : Value) (c' : Addr) : Obj := PySem.W.kla_obj "<lambda>" (X.env.qual ++ "<lambda>") params body scope (cloFrom X.env.cells scope.names []) pm c' ctv
theorem pss_lamset {T : List (Addr × Str)} {c P : Addr} {x : Str} {i : Nat} {params : Arguments} {body : Expr} {scope : Scope} {px lpos pos : Pos} {rest : List Stmt} {u : Addr → Addr → TS} (hs : X.stack = X.env :: X.outer) (hf : X.env.frame = some X.env.locals)
    (hN : X.N.Nodup) (hi : X.N[i]? = some x) (hx : Loc X.env.scope x) (TB : TabB X.base X.mg c P) (hcode : X.env.code = .ref c) (hmT : (P, X.env.qual ++ "<lambda>") ∈ T) (hu : ∀ p ∈ T, p.1 = P → p.2 = X.env.qual ++ "<lambda>")
    (L : LamS X.env.scope scope) (hdef : defaultsOf params X.env = ([], []))
    (hrest : ∀ (f c' : Addr) (pm ctv : Value) (pn : List (Addr × Obj)), PSs (Cx.kp X ((f, lamO X params body scope pm ctv c') :: pn)) rest (u f c'))
    (hsw : swapsWith (.Lambda params body scope lpos) (some (.Name x px)) pos.line X.env = pure false := by rfl) (hfn : X.fn x = true ∨ X.env.scope.names.lookup x = some .local := by first | exact .inl rfl | exact .inr rfl) :
    PSs X (.Assign [.Name x px] (.Lambda params body scope lpos) pos :: rest) (fun D σ H => Tabs T H ∧ ∀ f c' H1, ExtN H H1 → Tabs T H1 → H1 c' = some (CodeO c' (X.env.qual ++ "<lambda>")) → u f c' D (σ.set i (some (.ref f))) H1) := by
  constructor
  intro pins s σ H D I h
  obtain ⟨hT, h⟩ := h
  apply wpAny_execs_cons
  apply wpAny_Assign_Name _ hsw
  refine lam_make2 I TB hcode hmT hu hT hdef (L.has I.ok) ?_
  intro f c' pm ctv H1 s1 I1 eN T1 of1 nf nst hc
  have n2 : f ∉ X.fs := fun z => nst (by rw [hs]; exact (List.mem_filterMap.mpr (by obtain ⟨e, he, q⟩ := List.mem_filterMap.mp z; exact ⟨e, List.mem_cons_of_mem _ he, q⟩)))
  have n1 : f ≠ X.env.locals := fun z => nst (by rw [hs]; exact List.mem_filterMap.mpr ⟨X.env, List.mem_cons_self, by rw [hf, z]⟩)
  have J := inv_pin I1 of1 nf n1 n2 (fun v z => by cases z)
  refine store_ok (X := Cx.kp X ((f, lamO X params body scope pm ctv c') :: (X.pn ++ pins))) (v := .ref f) J hN hi hx rfl (fun s2 J2 => ?_) hfn
  exact wpAny_mono ((hrest f c' pm ctv _).run [] s2 _ H1 D J2 (h f c' H1 eN T1 hc)) (fun fl s3 z => sp_unpin I1.ok z) (fun _ _ z => z)
/-- g(name), the name holds the lambda -/
theorem pe_lamvar {TT : (XK → Hp → VK → Prop) → Hp → VK → Prop} {x a v : Str} {f c' g : Addr} {pm' ctv : Value} {k i : Nat} {pg : Arguments} {bg : List Stmt} {sg : Scope} {dV kV doc pm cdv ct oc : Value} {an od : Option Addr} {osl : Array (Option Value)} {Ng : List Str}
    {params : Arguments} {body : Expr} {scope : Scope} {t : XK → TE} {p vp pos : Pos} (hs : X.stack = X.env :: X.outer) (hp : (f, lamO X params body scope pm' ctv c') ∈ X.pn) (hN : X.N[i]? = some v) (hv : Vis X.env.scope v)
    (hg : Gl X x) (hm : X.mg x = some (.ref g)) (hk : PySem.W.keepIn X.K (.ref g) = true)
    (lk : X.K.lookup g = some ⟨oc, od, .func (PySem.W.fnOf x x pg bg sg dV kV doc pm an cdv ct), osl⟩) (hcg : PySem.W.codeIn X.K cdv x = true) (hb : L2.Binds X.K (PySem.W.fnOf x x pg bg sg dV kV doc pm an cdv ct) [a] []) (Sg : FnScope Ng [a] sg) (hNg : Ng[0]? = some a) (hva : Vis sg a)
    (hG : GivesTo X Ng x sg g cdv bg a (X.env.qual ++ "<lambda>") TT) (hr : Room (k + 2) X.A) (L : LamS X.env.scope scope)
    (hbind : ∀ (q : Str) (cl : List (Str × Addr)) (pm cv ctv : Value), bindArgs (PySem.W.kla_fn "<lambda>" q params body scope cl pm cv ctv) ⟨[], []⟩ = pure [])
    (hbody : ∀ (A : Around) (outer : List Env) (s : Shared) (H : Hp) (E : XK), Room k (A.deeper (lamEnv X scope s.heap.objs.size f c')) → PE (lamCx X A outer s H E scope f c') body (t E))
    (hdx : (x == ("__debug__" : Str)) = false := by decide) (hdv : (v == ("__debug__" : Str)) = false := by decide) (hcv : (v == ("__classdict__" : Str)) = false := by decide) (hda : (a == ("__debug__" : Str)) = false := by decide) (hca : (a == ("__classdict__" : Str)) = false := by decide) :
    PE X (.Call (.Name x p) [.Name v vp] [] pos) (fun σ H Q => σ[i]? = some (some (.ref f)) ∧ H c' = some (CodeO c' (X.env.qual ++ "<lambda>")) ∧ TT (fun E H' Q' => t E σ H' Q') H Q) := by
  constructor
  intro pins s σ H Q I h
  obtain ⟨hσ, hc, hT⟩ := h
  refine wpAny_Call_Name_kw (ld_glob I hg hm ?_ hdx)
  apply PySem.W.callWith_K (h₀ := X.base) I.ok.mod.kin hk _ (by rfl) (by rfl)
  show wpAny _ _ (spliced ((false, eval (.Name v vp) X.env) :: backTo pos (starEach [] X.env))) _ _ s
  apply Calls.spliced_cons
  refine thn ((pe_var (pos := vp) (i := i) hN hv hdv hcv).run pins s σ H (fun y H1 => y = .ref f ∧ H1 = H) I ⟨.ref f, hσ, rfl, rfl⟩) ?_
  rintro u s1 ⟨y, H1, I1, r1, e1, e2⟩
  subst e1
  rw [e2] at I1
  obtain rfl : u = Value.ref f := r1
  apply Calls.spliced_nil
  refine ⟨I1.kIn, ?_⟩
  obtain ⟨of1, nf, n1, n2, _⟩ := I1.pin _ (List.mem_append_left _ hp)
  have nst : f ∉ frs X.stack := by
    rw [hs]
    intro z
    obtain ⟨e, he, q⟩ := List.mem_filterMap.mp z
    cases List.mem_cons.mp he with
    | inl e1 =>
      subst e1
      rcases I1.ok.stk with st | ⟨st, fr⟩
      · have l : X.stack.length = X.outer.length := congrArg List.length st
        rw [hs, List.length_cons] at l
        omega
      · rw [fr] at q
        exact n1 (Option.some.inj q).symm
    | inr h2 => exact n2 (List.mem_filterMap.mpr ⟨e, h2, q⟩)
  have rc : codeAny (model X.prog X.w) X.A (.call (.ref g) ⟨[.ref f], []⟩) (CR C8.CX0 X.stack X.prog X.w H s1 Q C8.E0) s1 := by
    refine run_ofS (N := Ng) (ps := [a]) (us := [.ref f]) (vs := [.ref f]) lk hcg Sg hr I1.env0 (hb s1 [.ref f] I1.kIn rfl) (.cons rfl .nil) rfl (fun hr1 => ?_)
    obtain ⟨tg, ptg, wtg⟩ := hG f c' s1 H Q (fun E H' Q' => t E σ H' Q')
      (fun W pn xe E p1 p2 tk hW => pe_act (i := 0) I1 L of1 nf nst (hbind _ _ _ _ _) tk hW hr1 (fun A outer s H hr2 => hbody A outer s H E hr2) hNg hva hda hca) hc hT
    exact ⟨tg, ptg.nox, wtg⟩
  apply wpAny_call
  refine codeAny_mono rc ?_
  intro r s2 z
  match r, z with
  | .ok (.ret u), z => exact I1.after z
  | .error _, z => exact (show False from z).elim
  | .ok .next, z => exact False.elim z
  | .ok .brk, z => exact False.elim z
  | .ok .cont, z => exact False.elim z
end
/-! ### a pinned error -/
section
variable {X : Cx} {a : Addr} {oe : Obj} {cls : Value} {d : Option Addr}
/-- isinstance(e, c), c above the class of the pinned error e -/
theorem call_isPin (hp : (a, oe) ∈ X.pn) (hz : Zc cls d oe) : CallR X (.builtin "isinstance") (rIsUp X.K a cls) := by
  intro pins s σ H xs us Q I r h
  obtain ⟨c, cv, rfl, same, e, ne, q⟩ := h
  obtain ⟨u1, u2, rfl, rx, rt⟩ := vals2 r
  obtain rfl : u1 = Value.ref a := rx
  obtain rfl := same _ rt
  have here := (I.pin (a, oe) (List.mem_append_left _ hp)).1
  have ty : ∀ (M : Model) (h : Heap), X.K.In h → h.get? a = some oe → Looks M h (typeOf (.ref a)) cls := by
    intro M h _ z
    exact hz.1 ▸ (PySem.W.Looks.ld z).andThen .now
  refine call_isinstance (S := fun _ R s => (X.K.In s.heap ∧ s.heap.get? a = some oe) ∧ ∀ tk, R (.ok (.ret (.bool true))) { s with toks := tk }) ?_ ?_
  · intro prog w A R s hs
    exact isinstance_outer (ans_up (H := fun h => h.get? a = some oe) ty ne e 0 _ prog w A R s hs) (fun z => nomatch z)
  · exact ⟨⟨I.kIn, here⟩, fun tk => ⟨.bl true, H, I.kept (t' := tk) fun _ _ z => z, rfl, q⟩⟩
variable {x f qi : Str} {B newId initId : String} {bmB bm : List Value} {C fI : Addr}
/-- e.f of the pinned error -/
theorem pe_pinF {e : Expr} {te : TE} {pos : Pos} (T : ErrC X.K X.mg x f qi B newId initId bmB bm C fI) (hp : (a, oe) ∈ X.pn) (hz : Zc cls d oe) (hf : ∃ vs, oe.data = .fields vs) (he : PE X e te) (hb : attributeBase e f X.env (eval e X.env) = eval e X.env := by rfl) :
    PE X (.Attribute e f pos) (tErrF C f a cls d te) := by
  constructor
  intro pins s σ H Q I h
  apply attr_of hb
  refine thn (he.run pins s σ H _ I h) ?_
  rintro u s1 ⟨y, H1, I1, ry, ey, ec, dd, v, ed, ea, q⟩
  subst ey
  obtain rfl : u = Value.ref a := ry
  subst ec ed
  have ha := (I1.pin (a, oe) (List.mem_append_left _ hp)).1
  obtain ⟨vs, hd⟩ := hf
  obtain ⟨mA, hns, hr⟩ : ObjOk X.prog X.w H1 s1.heap dd (.xd [(f, v)]) := I1.hok dd _ ea
  obtain ⟨od, ho, hl⟩ := lookIn_ns hns
  have one : List.lookup f [(f, v)] = some v := by simp [List.lookup]
  obtain ⟨u, hu, ru⟩ := RelO.some_of (v := v) (o := mA f) (by rw [← one]; exact hr f)
  have nc : PySem.W.notCls oe := by unfold PySem.W.notCls; rw [hd] <;> rfl
  have J : PySem.W.InstAt s1.heap a oe C (some od) := ⟨ha, hz.1, nc, by rw [hz.2]; exact ho⟩
  refine HandSPX.exc_get I1.kIn J T.ga T.gg T.exC (PySem.W.findObj_own T.hdC T.noN rfl (by rw [hl, hu])) (handed_of ru) ?_
  exact ⟨v, H1, I1.tok _, ru, q⟩
end
end My
namespace My
open PySem PySem.Spec PySem.Calls PyProof.Rows L2 LamX
/-! ### try: body / except C as n: suite, then the rest, which may still see the exception -/
/-- the rest behind the suite -/
abbrev dKeep (i : Nat) (tr : TS) (D : Ends) : Ends := ⟨fun σ H => tr D (σ.set i none) H, D.rt, fun σ H => D.bk (σ.set i none) H, fun σ H => D.ct (σ.set i none) H⟩
def wKeep (K : PySem.W.Frag) (c : Value) (i : Nat) (ts tr : Addr → Value → Option Addr → TS) (Wout : WX) (D : Ends) : WX := fun cls d σ H =>
  ∃ hit : Bool, PySem.W.exmOne K cls c = some hit ∧ (hit = false → Wout cls d σ H) ∧ (hit = true → ∀ a, H a = none → ts a cls d (dKeep i (tr a cls d) D) (σ.set i (some (.ref a))) H)
section
variable {X : Cx} {x n : Str} {c : Value} {i : Nat} {body suite rest : List Stmt} {b₀ : Stmt} {np pos pos' : Pos} {tb : WX → TS} {t0 : TS} {ts tr : Addr → Value → Option Addr → TS} {Wout : WX}
theorem pss_try_keep (st : X.stack = X.env :: X.outer) (fr : X.env.frame = some X.env.locals) (nd : X.N.Nodup) (ni : X.N[i]? = some n) (nl : X.env.kindOf n = some .local) (nm : Names X x c) (tk : Takes X Wout)
    (pb : ∀ (W : WX) (pn : List (Addr × Obj)) (xe : Value → Shared → Prop), Takes (X.tr pn xe) W → PassesOwn (model X.prog X.w) X.A X.env xe → PSs (X.tr pn xe) body (tb W))
    (psu : ∀ (a : Addr) (oe : Obj) (cls : Value) (d : Option Addr) (pn : List (Addr × Obj)), Zc cls d oe → (∃ vs, oe.data = .fields vs) → PSs (X.suite a ((a, oe) :: pn)) (b₀ :: suite) (ts a cls d))
    (p0 : PSs X rest t0)
    (pr : ∀ (a : Addr) (oe : Obj) (cls : Value) (d : Option Addr) (pn : List (Addr × Obj)), Zc cls d oe → (∃ vs, oe.data = .fields vs) → PSs (Cx.kp X ((a, oe) :: pn)) rest (tr a cls d)) :
    PSs X (.Try body [.ExceptHandler (some (.Name x np)) (some n) (b₀ :: suite) pos'] [] [] pos :: rest) (fun D σ H => tb (wKeep X.K c i ts tr Wout D) { D with nx := t0 D } σ H) := by
  constructor
  intro pins s σ H D I h
  have ok := I.ok
  have frm : X.A.frames = some (X.env :: X.outer) := ok.frames.trans (congrArg some st)
  apply wpAny_execs_cons
  generalize hR : (fun (fl : Flow) (s1 : Shared) => match fl with | .next => wpAny (model X.prog X.w) X.A (execs rest X.env) (SP X pins D) X.xe s1 | fl => SP X pins D fl s1) = R
  have Rn : ∀ s1, wpAny (model X.prog X.w) X.A (execs rest X.env) (SP X pins D) X.xe s1 → R .next s1 := fun s1 z => by subst hR; exact z
  have Rr : ∀ u s1, SP X pins D (.ret u) s1 → R (.ret u) s1 := fun u s1 z => by subst hR; exact z
  have Rb : ∀ s1, SP X pins D .brk s1 → R .brk s1 := fun s1 z => by subst hR; exact z
  have Rc : ∀ s1, SP X pins D .cont s1 → R .cont s1 := fun s1 z => by subst hR; exact z
  show wpAny _ _ _ R _ _
  clear hR
  apply wpAny_Try_except
  have cat : Takes (X.tr (X.pn ++ pins) fun e z1 => wpAny (model X.prog X.w) X.A (noteFrame e X.env) (fun _ z2 => wpAny (model X.prog X.w) X.A (setFlight e none) (fun _ z3 =>
      wpAny (model X.prog X.w) X.A (handleBy e X.env [.ExceptHandler (some (.Name x np)) (some n) (b₀ :: suite) pos']) R X.xe z3) X.xe z2) X.xe z1) (wKeep X.K c i ts tr Wout D) := by
    rintro u z0 ⟨a, B, sI, pz, τ, G, cls, d, rfl, J0, nb, up, sky, na, os, ag, hit, hm, miss, take⟩
    have J : Inv X pins τ G sI := J0.ofTry ok
    show wpAny (model X.prog X.w) X.A (noteFrame (.ref a) X.env) _ _ _
    refine Sky.land Zc.steady frm fr (st ▸ sky : Sky B (X.env :: X.outer) a (Zc cls d) X.env.locals z0.heap) (fun h3 f3 u3 => ?_)
    have J3 : Inv X pins τ G { z0 with heap := h3 } := J.landed nb f3.1 (up.trans u3) os ag
    obtain ⟨oe, vs, there, zc, rec⟩ := f3.there
    have away : a ∉ frs (X.env :: X.outer) := fun z => by
      obtain ⟨_, o2, e2, nf⟩ := f3.2.2.1.mem z
      rw [there] at e2
      cases e2
      exact nf _ rec
    have n1 : a ≠ X.env.locals := fun z => away (List.mem_filterMap.mpr ⟨X.env, List.mem_cons_self, by rw [fr, z]⟩)
    have n2 : a ∉ X.fs := fun z => by
      obtain ⟨e, he, q⟩ := List.mem_filterMap.mp z
      exact away (List.mem_filterMap.mpr ⟨e, List.mem_cons_of_mem _ he, q⟩)
    have S3 := J3.suite there rec na n1 n2
    apply wpAny_handleBy_cons (codeAny_handlers_test _) (by intro q; cases q)
    have kind : PySem.W.Looks (model X.prog X.w) h3 (typeOf (.ref a)) cls := by
      intro A Q E s k q
      exact wpAny_typeOf_ref (k _ _ there) (by rw [zc.1]; exact q)
    have mt := PySem.W.exm_one (M := model X.prog X.w) J3.kIn kind hm
    have named : ∀ {Q E : Value → Shared → Prop}, Q c { z0 with heap := h3 } → wpAny (model X.prog X.w) (X.A.mark (some (.ref a))) (eval (.Name x np) X.env) Q E { z0 with heap := h3 } := by
      intro Q E q
      obtain ⟨g1, g2, g3 | ⟨g3, g4, g5⟩⟩ := nm
      · exact ld_glob (X := X.suite a ((a, oe) :: (X.pn ++ pins))) S3 g1 g3 q g2
      · exact ld_blt (X := X.suite a ((a, oe) :: (X.pn ++ pins))) S3 g1 g3 g4 q g5 g2
    refine named (mt.here ?_)
    cases hit with
    | false =>
      show wpAny _ X.A (handleBy (.ref a) X.env []) _ _ _
      apply wpAny_handleBy_nil
      obtain ⟨_, _, _, oe, vs, T, oT, ts', there, zc, rec, atT, _⟩ := id f3
      unfold PySem.passOn
      refine wpAny_bind (wpAny_field there rec atT ?_)
      rw [if_neg (show ¬ ((Value.ref T == Value.none) = true) from by simp)]
      have go : wpAny (model X.prog X.w) X.A (setFlight (.ref a) X.env.frame) (fun _ z4 => wpAny (model X.prog X.w) X.A (throw (.ref a) : Sem Flow) R X.xe z4) X.xe { z0 with heap := h3 } := by
        rw [fr]
        refine HandSPX.setFlight_upZ f3 (fun h4 hh4 u4 => wpAny_throw (tk _ _ ?_))
        exact ⟨a, B, sI, pins, τ, G, cls, d, rfl, J, nb, (up.trans u3).trans u4, .inr (.inr (st ▸ hh4)), na, os, ag, miss rfl⟩
      first
        | exact wpAny_bind (wpAny_pure (wpAny_bind go))
        | exact wpAny_bind go
    | true =>
      apply codeAny_handlers_suite_as
      refine HandSPX.lands_againZ f3 (fun h4 f4 u4 => ?_)
      have J4 : Inv X pins τ G { z0 with heap := h4 } := J.landed nb f4.1 ((up.trans u3).trans u4) os ag
      obtain ⟨oe, vs, there, zc, rec⟩ := f4.there
      have S4 := J4.suite there rec na n1 n2
      refine store_ok (X := X.suite a ((a, oe) :: (X.pn ++ pins))) (v := .ref a) S4 nd ni (.inl nl) rfl (fun s5 S5 => ?_) (.inr nl)
      have run := (psu a oe cls d (X.pn ++ pins) zc ⟨_, rec⟩).run [] s5 _ G _ S5 (take rfl a na)
      refine wpAny_mono run ?_ (fun _ _ z => False.elim z)
      have leave : ∀ {τ6 : L2.St} {G6 : Hp} {s6 : Shared} {Q : Shared → Prop}, Inv (X.suite a ((a, oe) :: (X.pn ++ pins))) [] τ6 G6 s6 → (∀ s7, Inv (Cx.kp X ((a, oe) :: (X.pn ++ pins))) [] (τ6.set i none) G6 s7 → Q s7) →
          wpAny (model X.prog X.w) X.A (do bindName X.env n .none; unbindBehindTheSuite X.env n pos') (fun _ s7 => Q s7) X.xe s6 := by
        intro τ6 G6 s6 Q S6 hq
        exact gone_ok (X := Cx.kp X ((a, oe) :: (X.pn ++ pins))) (inv_outSuite S6 ok) nd ni nl hq
      intro fl s6 hsp
      match fl, hsp with
      | .ret u, ⟨v6, τ6, G6, S6, r6, q6⟩ => exact leave S6 fun s7 J7 => Rr _ _ ⟨_, _, _, inv_unpin J7 ok, r6, q6⟩
      | .brk, ⟨τ6, G6, S6, q6⟩ => exact leave S6 fun s7 J7 => Rb _ ⟨_, _, inv_unpin J7 ok, q6⟩
      | .cont, ⟨τ6, G6, S6, q6⟩ => exact leave S6 fun s7 J7 => Rc _ ⟨_, _, inv_unpin J7 ok, q6⟩
      | .next, ⟨τ6, G6, S6, q6⟩ =>
        refine leave S6 fun s7 J7 => Rn _ ?_
        exact wpAny_mono ((pr a oe cls d (X.pn ++ pins) zc ⟨_, rec⟩).run [] s7 _ G6 D J7 q6) (fun fl8 s8 z => sp_unpin ok z) (fun _ _ z => z)
  refine wpAny_mono ((pb _ _ _ cat PassesOwn.looking).run [] s σ H { D with nx := t0 D } (I.toTry _) h) ?_ (fun e s1 z => z)
  intro fl s1 z
  match fl, z with
  | .next, ⟨τ, G, J, q⟩ =>
    apply wpAny_execs_nil
    exact Rn _ (p0.run pins s1 τ G D (J.ofTry ok) q)
  | .brk, ⟨τ, G, J, q⟩ => exact Rb _ ⟨τ, G, J.ofTry ok, q⟩
  | .cont, ⟨τ, G, J, q⟩ => exact Rc _ ⟨τ, G, J.ofTry ok, q⟩
  | .ret u, ⟨v, τ, G, J, r, q⟩ => exact Rr _ _ ⟨v, τ, G, J.ofTry ok, r, q⟩
end
end My
end
section
set_option Elab.async false
set_option linter.all false
set_option maxRecDepth 100000
set_option maxHeartbeats 2000000
/-! Xsort: sorted(texts, key=f), f any callable that the heap knows, its keys data with lists in them. -/
namespace My
open PySem PySem.Spec PySem.Calls PyProof.Rows L2
open PySem.W (KeepsBut dataKind AllAlike Sortable SortsAt KeyedOut dataLe)
section
variable {X : Cx} {pins : List (Addr × Obj)} {σ : L2.St} {H : Hp} {s : Shared}
/-- an address that is free as yet belongs to nobody -/
theorem new_at (I : Inv X pins σ H s) {b : Addr} (hb : s.heap.objs.size ≤ b) : b ≠ X.env.locals ∧ (∀ x c, X.env.cells.lookup x = some c → c ≠ b) ∧ (∀ p ∈ X.pn ++ pins, p.1 ≠ b) ∧ b ∉ frs X.stack := by
  have big : ∀ {c : Addr} {o : Obj}, s.heap.get? c = some o → c ≠ b := fun e z => Nat.lt_irrefl _ (Nat.lt_of_lt_of_le (z ▸ Heap.lt_size e) hb)
  refine ⟨fun z => Nat.lt_irrefl _ (Nat.lt_of_lt_of_le (z ▸ I.lt) hb), fun x c e => ?_, fun p hp => big (I.pin p hp).1, fun z => ?_⟩
  · obtain ⟨v, o, ho, _⟩ := I.cell x c e
    exact big ho
  · obtain ⟨_, o, ho, _⟩ := I.stack.mem z
    exact big ho rfl
/-- the items of a list of texts -/
theorem vals_strs : ∀ {zs : List Str} {us : List Value}, Vals (zs.map V.str) us → PySem.W.EachIs (fun u z => ∃ t, u = Value.str z t) us zs
  | [], _, h => by cases h; exact .nil
  | z :: zs, _, h => by
    cases h with
    | cons r h => exact .cons r (vals_strs h)
theorem strs_vals : ∀ {zs : List Str} {us : List Value}, PySem.W.EachIs (fun u z => ∃ t, u = Value.str z t) us zs → Vals (zs.map V.str) us
  | [], _, h => by cases h; exact .nil
  | z :: zs, _, h => by
    cases h with
    | cons r h => exact .cons r (strs_vals h)
theorem each_len {α β : Type} {R : α → β → Prop} : ∀ {as : List α} {bs : List β}, PySem.W.EachIs R as bs → as.length = bs.length
  | _, _, .nil => rfl
  | _, _, .cons _ h => by rw [List.length_cons, List.length_cons, each_len h]
theorem each_at {α β : Type} {R : α → β → Prop} {as : List α} {bs : List β} (h : PySem.W.EachIs R as bs) : ∀ {i : Nat} {x : α}, as[i]? = some x → ∃ y, bs[i]? = some y ∧ R x y := by
  induction h with
  | nil => intro i x e; cases i <;> cases e
  | cons r h ih =>
    intro i x e
    cases i with
    | zero => cases e; exact ⟨_, rfl, r⟩
    | succ i => exact ih e
theorem each_add {α β : Type} {R : α → β → Prop} {x : α} {y : β} : ∀ {as : List α} {bs : List β}, PySem.W.EachIs R as bs → R x y → PySem.W.EachIs R (as ++ [x]) (bs ++ [y])
  | _, _, .nil, r => .cons r .nil
  | _, _, .cons a h, r => .cons a (each_add h r)
theorem each_imp {α β : Type} {R S : α → β → Prop} (f : ∀ a b, R a b → S a b) : ∀ {as : List α} {bs : List β}, PySem.W.EachIs R as bs → PySem.W.EachIs S as bs
  | _, _, .nil => .nil
  | _, _, .cons a h => .cons (f _ _ a) (each_imp f h)
theorem vals_add {v : V} {u : Value} (r : RelV v u) : ∀ {vs : List V} {us : List Value}, Vals vs us → Vals (vs ++ [v]) (us ++ [u])
  | _, _, .nil => .cons r .nil
  | _, _, .cons a h => .cons a (vals_add r h)
/-- keys that read as data, by the heap's own objects -/
theorem keys_read {p0 : Addr} {k : Str → PyData} (I : Inv X pins σ H s) : ∀ {kvs : List V} {us : List Value} {zs : List Str}, Vals kvs us → PySem.W.EachIs (fun v z => Rp X.K p0 H false v (k z)) kvs zs → PySem.W.EachIs (fun u d => ∃ as, Reads s.heap u d as) us (zs.map k)
  | _, _, _, .nil, .nil => .nil
  | _, _, _, .cons r h, .cons a t => by
    obtain ⟨as, rd, _⟩ := Rp.reads I a r
    exact .cons ⟨as, rd⟩ (keys_read I h t)
/-- what is behind a turn of the key -/
structure KeyAt (X : Cx) (pins : List (Addr × Obj)) (σ : L2.St) (H : Hp) (p0 : Addr) (k : Str → PyData) (zs : List Str) (a kS : Addr) (e1 : Nat) (i : Nat) (s' : Shared) : Prop where
  ex : ∃ (G : Hp) (kvs : List V) (kA : Array Value) (e : Nat), Inv X pins σ G s' ∧ Same H G ∧ G kS = none ∧ G a = none ∧ s'.heap.get? kS = some (PyProof.Rows.seqObj "list" kA e) ∧ s'.heap.get? a = some (PyProof.Rows.seqObj "list" #[] e1) ∧ Vals kvs kA.toList ∧ PySem.W.EachIs (fun v z => Rp X.K p0 G false v (k z)) kvs (zs.take i)
theorem sorted_texts {l fq p0 : Addr} {zs : List Str} {k : Str → PyData} {Q : VK} (I : Inv X pins σ H s) (hs : SqL X.K H l (zs.map V.str)) (hal : AllAlike (zs.map k)) (hsk : Sortable (zs.map k)) (hu : ∀ z ∈ zs, X.A.units + 2 + (k z).depth < cLine)
    (turn : ∀ (z : Str) (t : Tok) (s1 : Shared) (G : Hp), z ∈ zs → Inv X pins σ G s1 → Same H G → wpAny (model X.prog X.w) X.A.in1.in1 (call (.ref fq) [.str z t]) (CE X.stack X.prog X.w G s1 fun v G2 => Same G G2 ∧ Rp X.K p0 G2 false v (k z)) (fun _ _ => False) s1)
    (q : ∀ G a, Same H G → G a = none → Q (.ref a) (upd G a (.lst ((zs.mergeSort (dataLe false k)).map V.str)))) :
    wpAny (model X.prog X.w) X.A (call (.builtin "sorted") [.ref l] [(Str.ofString "key", .ref fq)]) (EP X pins σ Q) X.xe s := by
  obtain ⟨us, rv, hl, hz⟩ := I.list hs
  have ev := vals_strs rv
  have ul : us.length = zs.length := each_len ev
  rw [List.length_map] at hz
  refine PySem.W.sorted_of_sort hl.isList (by rw [ul]; exact hz) (ksk_s1 _ _) (fun _ => ksk_l1 _ _) fun E' => ?_
  rw [ksk_t1]
  -- the copy stands at a, the keys will stand at kS
  obtain ⟨a, ha⟩ : ∃ a, a = s.heap.objs.size + 1 := ⟨_, rfl⟩
  rw [← ha]
  have at0 : (PySem.W.copyHeap s.heap us).get? a = some (seqObj "list" us.toArray 0) := by
    rw [ha]
    exact PySem.W.copyHeap_at s.heap us
  have an : s.heap.objs.size ≤ a := by rw [ha]; exact Nat.le_succ _
  have aL : a < (PySem.W.copyHeap s.heap us).objs.size := Heap.lt_size at0
  unfold ksk_tree
  refine wpAny_bind (listItems_at at0 rfl ?_)
  refine wpAny_bind (listUpdate_at at0 rfl ?_ (by rw [List.size_toArray, ul]; exact hz) (Nat.zero_le _))
  obtain ⟨e1, at1⟩ : ∃ e1, ((PySem.W.copyHeap s.heap us).update a (Obj.mapSeq fun _ => (#[] : Array Value))).get? a = some (seqObj "list" #[] e1) := ⟨_, get?_update_seq at0 fun _ => #[]⟩
  refine wpAny_bind (seqEpoch_at at1 rfl ?_)
  refine wpAny_bind (wpAny_newTuple ?_ (by show us.length ≤ _; rw [ul]; exact hz))
  refine wpAny_bind (wpAny_newList ?_ (Nat.zero_le _))
  refine wpAny_holding ?_
  obtain ⟨kS, hkS⟩ : ∃ kS, kS = (((PySem.W.copyHeap s.heap us).update a (Obj.mapSeq fun _ => (#[] : Array Value))).push (seqObj "tuple" us.toArray 0)).objs.size := ⟨_, rfl⟩
  rw [← hkS]
  have kn : s.heap.objs.size ≤ kS := by
    rw [hkS, PyProof.Rows.size_push', Heap.size_update]
    exact Nat.le_trans an (Nat.le_of_lt (Nat.lt_succ_of_lt aL))
  have ka : kS ≠ a := by
    rw [hkS, PyProof.Rows.size_push', Heap.size_update]
    exact Nat.ne_of_gt (Nat.lt_succ_of_lt aL)
  have frA := new_at I an
  have frK := new_at I kn
  have old : ∀ b o, s.heap.get? b = some o → (PySem.W.sortingHeap (PySem.W.copyHeap s.heap us) a us).get? b = some o := fun b o e => by
    refine PySem.W.sortingHeap_old (fun z => ?_) (PySem.W.copyHeap_old e)
    rw [z] at e
    exact Nat.lt_irrefl _ (Nat.lt_of_lt_of_le (Heap.lt_size e) an)
  have I0 := I.kept (t' := s.toks) old
  have hkS0 : (PySem.W.sortingHeap (PySem.W.copyHeap s.heap us) a us).get? kS = some (seqObj "list" #[] 0) := by
    rw [hkS]
    exact Heap.get?_push_size _ rfl
  have hA0 : (PySem.W.sortingHeap (PySem.W.copyHeap s.heap us) a us).get? a = some (seqObj "list" #[] e1) := Heap.get?_push_of_some _ (Heap.get?_push_of_some _ at1)
  have nK : H kS = none := I.hok.fresh kn
  have nA : H a = none := I.hok.fresh an
  show wpAny _ _ (ksk_rest a (.ref fq) false us.toArray e1 (.ref kS)) _ _ { s with heap := PySem.W.sortingHeap (PySem.W.copyHeap s.heap us) a us }
  unfold ksk_rest
  refine wpAny_bind (wpAny_rule ?_)
  first
    | rw [List.forIn_toArray]
    | (rw [← Array.forIn_toList]; simp only [List.toList_toArray])
    | rw [← Array.forIn_toList]
  refine wpAny_bind (ksk_fold (KeyAt X pins σ H p0 k zs a kS e1) us 0 _ ⟨H, [], #[], 0, I0, Same.refl _, nK, nA, hkS0, hA0, .nil, by rw [List.take_zero]; exact .nil⟩ ?_ ?_)
  · rintro j x s1 hx ⟨G, kvs, kA, e, J, sm, gK, gA, atK, atA, vk, hk⟩
    rw [Nat.zero_add] at hk ⊢
    obtain ⟨z, hzj, t, rfl⟩ := each_at ev hx
    have jl : j < zs.length := (List.getElem?_eq_some_iff.mp hzj).1
    have kl : kA.size ≤ zs.length := by
      have h1 := each_len hk
      have h2 : kvs.length = kA.toList.length := vk.length
      have h3 : kA.toList.length = kA.size := Array.length_toList
      rw [List.length_take] at h1
      omega
    refine wpAny_bind (wpAny_attempt (wpAny_mono (turn z t s1 G (List.mem_of_getElem? hzj) J sm) (fun u s2 back => ?_) fun _ _ z => z.elim))
    obtain ⟨v, G2, os, bare, un, hok, rel, sm2, rp⟩ := back
    have J2 : Inv X pins σ G2 s2 := J.call' (ch := []) os un hok bare (fun b z => nomatch z)
    have atK2 := un.keep kS _ atK gK frK.2.2.2 (fun z => nomatch z)
    have atA2 := un.keep a _ atA gA frA.2.2.2 (fun z => nomatch z)
    have gK2 := un.free kS _ atK gK (fun z => nomatch z)
    have gA2 := un.free a _ atA gA (fun z => nomatch z)
    have hz2 : kA.size ≤ sizeLine := Nat.le_trans kl hz
    dsimp only
    refine wpAny_bind (listUpdate_at atK2 rfl ?_ hz2 (by rw [Array.size_push]; exact Nat.succ_le_succ hz2))
    have but := Heap.SameBut.update s2.heap kS (Obj.mapSeq fun xs => xs.push u)
    obtain ⟨c2, atK3⟩ : ∃ c2, (s2.heap.update kS (Obj.mapSeq fun xs => xs.push u)).get? kS = some (seqObj "list" (kA.push u) c2) := ⟨_, get?_update_seq atK2 fun xs => xs.push u⟩
    have J3 := J2.turned (t' := s2.toks) (it := kS) (h' := s2.heap.update kS (Obj.mapSeq fun xs => xs.push u)) (fun b o hb e => (but.2 b hb).trans e) gK2 frK.1 (.inr (Nat.le_trans I.sz kn)) frK.2.1 frK.2.2.1
    refine wpAny_pure ⟨rfl, ⟨G2, kvs ++ [v], kA.push u, c2, J3, sm.trans sm2, gK2, gA2, atK3, (but.2 a (Ne.symm ka)).trans atA2, ?_, ?_⟩⟩
    · rw [Array.toList_push]
      exact vals_add rel vk
    · rw [List.take_add_one, hzj]
      exact each_add (each_imp (fun v z h => h.but (.of sm2)) hk) rp
  · rintro s1 ⟨G, kvs, kA, e, J, sm, gK, gA, atK, atA, vk, hk⟩
    rw [Nat.zero_add, ul, List.take_length] at hk
    have rd := keys_read J vk hk
    have kl : kA.size = us.length := by
      have h1 := each_len hk
      have h2 : kvs.length = kA.toList.length := vk.length
      have h3 : kA.toList.length = kA.size := Array.length_toList
      omega
    refine wpAny_bind (listItems_at atK rfl ?_)
    obtain ⟨R, R1, R2⟩ := restrict s1.heap fun b => decide (b ≠ a ∧ b ≠ kS)
    have Rin : ∀ b o, R.get? b = some o → s1.heap.get? b = some o ∧ b ≠ a ∧ b ≠ kS := fun b o eb => by
      by_cases c : b ≠ a ∧ b ≠ kS
      · exact ⟨(R1 b (decide_eq_true c)).symm.trans eb, c⟩
      · rw [R2 b (decide_eq_false c)] at eb
        cases eb
    refine PySem.W.keyH_end (κ := dataKind s1.heap (zs.map k)) (h₁ := R) (fun b o _ eb => (Rin b o eb).1) (R2 kS (by simp)) atK atA ka (SortsAt.data (s := s1) rd hal hsk fun d hd => ?_) kl (by rw [ul]; exact hz) fun h3 tk3 c kp at3 => ⟨rfl, ?_⟩
    · obtain ⟨z, hzm, rfl⟩ := List.mem_map.mp hd
      exact hu z hzm
    · have ko : KeyedOut false (zs.map k) us (PySem.W.sortVals (dataKind s1.heap (zs.map k)) false kA.toList us) := ⟨s1.heap, kA.toList, hal, rfl, rd⟩
      have eo := strs_vals (PySem.W.keyedOut_each k ko ev)
      generalize PySem.W.sortVals (dataKind s1.heap (zs.map k)) false kA.toList us = out at at3 eo
      have keep3 : ∀ b o, b ≠ a → b ≠ kS → s1.heap.get? b = some o → h3.get? b = some o := fun b o n1 n2 eb => kp b o n1 ((R1 b (decide_eq_true ⟨n1, n2⟩)).trans eb)
      have ol : (zs.mergeSort (dataLe false k)).length = zs.length := List.length_mergeSort _
      have okA : ObjOk X.prog X.w (upd G a (.lst ((zs.mergeSort (dataLe false k)).map V.str))) h3 a (.lst ((zs.mergeSort (dataLe false k)).map V.str)) := ⟨by rw [List.length_map, ol]; exact hz, out, c, eo, at3⟩
      have K3 : Inv X pins σ (upd G a (.lst ((zs.mergeSort (dataLe false k)).map V.str))) { s1 with heap := h3, gens := s1.gens, drawn := s1.drawn, toks := tk3 } := by
        have neA : ∀ b u, G b = some u → b ≠ a := fun b u e => ne_of_none e gA
        have neK : ∀ b u, G b = some u → b ≠ kS := fun b u e => ne_of_none e gK
        refine J.step (ch := [a, kS]) (fun b hb => ?_) (fun b o _ _ hc eb _ => keep3 b o (fun z => hc (by simp [z])) (fun z => hc (by simp [z])) eb) (fun b o _ _ hc eb _ => ⟨o.slots, keep3 b o (fun z => hc (by simp [z])) (fun z => hc (by simp [z])) eb⟩)
          (fun b o hc eb n => by rw [upd_ne (fun z => hc (by simp [z]))]; exact n) (fun b o hc eb => ⟨o, keep3 b o (fun z => hc (by simp [z])) (fun z => hc (by simp [z])) eb⟩) (fun b xs eb => by rw [upd_ne (neA b _ eb)]; exact eb) (fun b o u eb => by rw [upd_ne (neA b _ eb)]; exact eb)
          (fun b ps eb => ⟨#[], by rw [upd_ne (neA b _ eb), eb]; simp⟩) (fun m hm => ?_) (fun b u eb => ?_) J.bare
        · have hb : b = a ∨ b = kS := by simpa using hb
          rcases hb with rfl | rfl
          · exact ⟨.inr (Nat.le_trans I.sz an), frA.1, frA.2.1, frA.2.2.1⟩
          · exact ⟨.inr (Nat.le_trans I.sz kn), frK.1, frK.2.1, frK.2.2.1⟩
        · obtain ⟨o, es, ep, ho, r⟩ := hm
          exact ⟨o, es, ep, keep3 _ o (Ne.symm frA.1) (Ne.symm frK.1) ho, r⟩
        · by_cases hb : b = a
          · rw [hb, upd_same] at eb
            cases eb
            rw [hb]
            exact okA
          · rw [upd_ne hb] at eb
            refine (J.hok b u eb).stay (fun c v hc r => ?_) (fun c r => by rw [upd_ne (neA c _ r)]; exact r) fun c xs r => by rw [upd_ne (neA c _ r)]; exact r
            rcases hc with rfl | hc
            · exact keep3 c v (neA c _ eb) (neK c _ eb) r
            · exact keep3 c v (neA c _ hc) (neK c _ hc) r
      exact ⟨.ref a, _, K3, rfl, q G a sm gA⟩
end
end My
end
section
set_option Elab.async false
set_option linter.all false
set_option maxRecDepth 100000
set_option maxHeartbeats 2000000
/-! Xlam1: a lambda with one parameter, called by a built-in; sorted(texts, key=lambda ..). -/
namespace My
open PySem PySem.Spec PySem.Calls PyProof.Rows L2 LamX
open PySem.W (AllAlike Sortable dataLe)
/-- one parameter, no cell of its own, captured names and globals -/
structure LamS1 (sc scope : Scope) (a : Str) : Prop where
  kind : scope.kind = .function
  co : scope.isCoroutine = false
  gen : scope.isGenerator = false
  par : scope.names.lookup a = some .local
  own : ∀ y ∈ scope.names, y.2 ≠ .cell
  free : ∀ y ∈ scope.names, y.2 = .free → sc.names.lookup y.1 = some .cell ∨ sc.names.lookup y.1 = some .free
def lamS1B (sc scope : Scope) (a : Str) : Bool :=
  decide (scope.kind = .function) && (!scope.isCoroutine && (!scope.isGenerator && (decide (scope.names.lookup a = some .local) && scope.names.all fun y => !decide (y.2 = .cell) && (!decide (y.2 = .free) || decide (sc.names.lookup y.1 = some .cell) || decide (sc.names.lookup y.1 = some .free)))))
theorem lamS1_by {sc scope : Scope} {a : Str} (h : lamS1B sc scope a = true) : LamS1 sc scope a := by
  unfold lamS1B at h
  simp only [Bool.and_eq_true, Bool.or_eq_true, Bool.not_eq_true', decide_eq_true_eq, decide_eq_false_iff_not, List.all_eq_true] at h
  obtain ⟨h1, h2, h3, h4, h5⟩ := h
  exact ⟨h1, h2, h3, h4, fun y hy => (h5 y hy).1, fun y hy e => by
    rcases (h5 y hy).2 with (z | z) | z
    · exact absurd e z
    · exact .inl z
    · exact .inr z⟩
theorem LamS1.has {X : Cx} {scope : Scope} {a : Str} (L : LamS1 X.env.scope scope a) (ok : X.Ok) : ∀ y ∈ scope.names, y.2 = .free → ∃ c, X.env.cells.lookup y.1 = some c := by
  intro y hy e
  rcases L.free y hy e with k | k
  · exact ok.has _ (.inl k)
  · exact ok.has _ (.inr k)
/-- the context of its body -/
def lamCx1 (X : Cx) (N1 : List Str) (A : Around) (s : Shared) (H : Hp) (scope : Scope) (f c' : Addr) : Cx := { lamCx X A X.stack s H C8.E0 scope f c' with N := N1, xe := fun _ _ => False }
section
variable {X : Cx} {pins : List (Addr × Obj)} {σ σ1 : L2.St} {H : Hp} {s : Shared}
theorem lam_start1 {A : Around} {scope : Scope} {a : Str} {f c' : Addr} {h1 : Heap} {tk : Nat} {N1 : List Str} {u : Value} (J : Inv X pins σ H s) (L : LamS1 X.env.scope scope a) (fr : A.frames = some X.stack) (hd : A.handled = none)
    (hns : h1.Ns s.heap.objs.size fun y => [(a, u)].reverse.lookup y) (kp : ∀ b o, s.heap.get? b = some o → h1.get? b = some o) (hl : σ1.length = N1.length)
    (hσ : ∀ (i : Nat) y v, N1[i]? = some y → σ1[i]? = some (some v) → Vis scope y → (y = a ∧ RelV v u) ∨ (scope.names.lookup y = some .free ∧ ∃ j : Nat, X.N[j]? = some y ∧ σ[j]? = some (some v))) :
    Inv (lamCx1 X N1 A s H scope f c') [] σ1 H { s with heap := h1, toks := tk } := by
  have hfree := L.has J.ok
  have cm : ∀ {y c}, (cloFrom X.env.cells scope.names []).lookup y = some c → X.env.cells.lookup y = some c := by
    intro y c e
    rcases cloFrom_mem (PySem.mem_of_lookup e) with hm | ⟨h1, h2⟩
    · cases hm
    · obtain ⟨c1, hc⟩ := hfree _ h1 rfl
      have hc : X.env.cells.lookup y = some c1 := hc
      have e2 : c = c1 := by
        rw [h2, hc] <;> rfl
      exact e2 ▸ hc
  have look : ∀ {y}, scope.names.lookup y = some .free → ∃ c, (cloFrom X.env.cells scope.names []).lookup y = some c := by
    intro y hl
    exact mem_lookup (cloFrom_has (cells := X.env.cells) (acc := []) (show (y, NameKind.free) ∈ scope.names from PySem.mem_of_lookup hl))
  have noA : ∀ b : Addr, b ∉ (lamCx1 X N1 A s H scope f c').ex := fun b z => absurd (show b ∈ ([] : List Addr) from z) (by simp)
  have e0 := J.env0
  have cell1 : ∀ {c : Addr} {v : Option Value}, s.heap.IsCell c v → h1.IsCell c v := fun ⟨o, ho, hd⟩ => ⟨o, kp _ _ ho, hd⟩
  have okX : (lamCx1 X N1 A s H scope f c').Ok := by
    refine ⟨e0.mod, L.kind, rfl, rfl, Nat.le_refl _, fun y z c e1 e2 => J.ok.inj y z c (cm e1) (cm e2), fun y hy => ?_, fun y c z _ => ?_, fun _ => hd, Around.frames_deeper fr, .inr ⟨rfl, rfl⟩, fun b z => absurd z (noA b), e0.bs, e0.bsz, fun b _ _ => noA b, fun b z => absurd z (noA b), e0.funs, e0.frf⟩
    · have hy : scope.names.lookup y = some .cell ∨ scope.names.lookup y = some .free := hy
      rcases hy with hy | hy
      · exact absurd rfl (L.own _ (PySem.mem_of_lookup hy))
      · exact look hy
    · exact absurd (show false = true from z) Bool.false_ne_true
  refine ⟨okX, rfl, e0.bare, Un.kept kp, ⟨_, hns, fun i y v e1 e2 e3 => ?_⟩, fun y c e => ?_, e0.hok.fresh (Nat.le_refl _), fun y c e => J.freeC y c (cm e), fun q hq => absurd (show q ∈ ([] : List (Addr × Obj)) ++ [] from hq) (by simp), e0.hok.kept kp, hl⟩
  · rcases hσ i y v e1 e2 e3 with ⟨rfl, r⟩ | ⟨k, j, hj, hv⟩
    · refine ⟨u, r, .inl ⟨L.par, ?_⟩⟩
      simp [List.lookup]
    · obtain ⟨m, hn, hl⟩ := J.loc
      have vis : Vis X.env.scope y := by
        rcases L.free _ (PySem.mem_of_lookup k) rfl with k | k
        · exact .inr (.inl k)
        · exact .inr (.inr k)
      obtain ⟨w', r, q⟩ := hl j y v hj hv vis
      obtain ⟨c2, h2⟩ := look k
      have c1 := cm h2
      refine ⟨w', r, .inr ⟨.inr k, c2, h2, ?_⟩⟩
      rcases q with ⟨k', _⟩ | ⟨_, c3, e', z⟩
      · have k' : X.env.scope.names.lookup y = some .local := k'
        rcases L.free _ (PySem.mem_of_lookup k) rfl with k2 | k2 <;> rw [show X.env.scope.names.lookup y = _ from k2] at k' <;> cases k'
      · rw [c1] at e'
        cases e'
        exact cell1 z
  · obtain ⟨w', z⟩ := J.cell y c (cm e)
    exact ⟨w', cell1 z⟩
/-- a built-in calls the lambda -/
theorem run_lam1 {A : Around} {params : Arguments} {body : Expr} {scope : Scope} {a q : Str} {f c' : Addr} {pm ctv u : Value} {k : Nat} {N1 : List Str} {tb : TE} {Q : VK} (J : Inv X pins σ H s) (L : LamS1 X.env.scope scope a) (fr : A.frames = some X.stack) (hr : Room (k + 1) A)
    (hf : s.heap.get? f = some (lamO X params body scope pm ctv c')) (hc : H c' = some (CodeO c' (X.env.qual ++ "<lambda>")))
    (hb : ∀ (q : Str) (cl : List (Str × Addr)) (pm cv ctv v : Value), bindArgs (PySem.W.kla_fn "<lambda>" q params body scope cl pm cv ctv) ⟨[v], []⟩ = pure [(a, v)]) (hl : σ1.length = N1.length)
    (hσ : ∀ (i : Nat) y v, N1[i]? = some y → σ1[i]? = some (some v) → Vis scope y → (y = a ∧ RelV v u) ∨ (scope.names.lookup y = some .free ∧ ∃ j : Nat, X.N[j]? = some y ∧ σ[j]? = some (some v)))
    (hbody : ∀ (A : Around) (s : Shared) (H : Hp), Room k (A.deeper (lamEnv X scope s.heap.objs.size f c')) → PE (lamCx1 X N1 A s H scope f c') body tb) (h : tb σ1 H Q) :
    wpAny (model X.prog X.w) A (call (.ref f) [u]) (CE X.stack X.prog X.w H s Q) (fun _ _ => False) s := by
  obtain ⟨⟨oc, vs, t, hoc, hdc, hvc⟩, _, _⟩ := J.hok c' _ hc
  have run : codeAny (model X.prog X.w) A (.call (.ref f) ⟨[u], []⟩) (fun r s' => match r with | .ok (.ret v) => CE X.stack X.prog X.w H s Q v s' | _ => False) s := by
    apply PySem.W.kla_callFunE hr.depth hf rfl L.co L.gen rfl ⟨c', oc, vs, t, rfl, hoc, hdc, hvc⟩
    rw [hb]
    refine wpAny_pure (wpAny_newFunctionEnv L.own (fun y hy => by rw [List.mem_singleton.mp hy]; exact L.par) (fun h1 hns hsb => ⟨J.nolimit.fresh _ hsb, ?_⟩) L.kind)
    have kp : ∀ b o, s.heap.get? b = some o → h1.get? b = some o := fun b o e => hsb.extBut b o (Nat.ne_of_lt (Heap.lt_size e)) (Heap.get?_push_of_some _ e)
    have K := lam_start1 (f := f) (c' := c') (tk := s.toks + [(a, u)].length) J L fr hr.hd hns kp hl hσ
    apply PySem.W.kla_codeExpr
    refine wpAny_mono ((hbody A s H (hr.deeper _)).run [] _ σ1 H Q K h) ?_ (fun _ _ z => False.elim z)
    rintro v s2 ⟨x, G, K2, r, z⟩
    exact ⟨x, G, K2.os, K2.bare, K2.base, K2.hok, r, z⟩
  refine wpAny_call (codeAny_mono run ?_)
  intro r s2 z
  match r, z with
  | .ok (.ret v), z => exact z
end
section
variable {X : Cx}
/-- sorted(e, key=lambda a: body) of a list of texts -/
theorem pe_sortedLam {T : List (Addr × Str)} {c P p0 : Addr} {params : Arguments} {body : Expr} {scope : Scope} {p lpos kpos pos : Pos} {a : Str} {e : Expr} {t : TA} {tb : TE} {N1 : List Str} {g : L2.St → Str → L2.St} {key : L2.St → Str → PyData} {k : Nat} (hs : X.stack = X.env :: X.outer) (hf : X.env.frame = some X.env.locals)
    (hg : Gl X "sorted") (hm : X.mg "sorted" = none) (ha : PA X [e] t) (TB : TabB X.base X.mg c P) (hcode : X.env.code = .ref c) (hmT : (P, X.env.qual ++ "<lambda>") ∈ T) (hu : ∀ p ∈ T, p.1 = P → p.2 = X.env.qual ++ "<lambda>")
    (L : LamS1 X.env.scope scope a) (hdef : defaultsOf params X.env = ([], [])) (hr : Room (k + 2) X.A)
    (hb : ∀ (q : Str) (cl : List (Str × Addr)) (pm cv ctv v : Value), bindArgs (PySem.W.kla_fn "<lambda>" q params body scope cl pm cv ctv) ⟨[v], []⟩ = pure [(a, v)])
    (hl : ∀ (σ : L2.St) z, (g σ z).length = N1.length)
    (hσ : ∀ (σ : L2.St) (z : Str) (i : Nat) y v, N1[i]? = some y → (g σ z)[i]? = some (some v) → Vis scope y → (y = a ∧ v = .str z) ∨ (scope.names.lookup y = some .free ∧ ∃ j : Nat, X.N[j]? = some y ∧ σ[j]? = some (some v)))
    (hbody : ∀ (A : Around) (s : Shared) (H : Hp) (f c' : Addr), Room k (A.deeper (lamEnv X scope s.heap.objs.size f c')) → PE (lamCx1 X N1 A s H scope f c') body tb)
    (hpl : (backTo pos (starEach [e] X.env)).any (·.1) = false := by rfl) (he : backTo pos (starEach [e] X.env) = (false, eval e X.env) :: backTo pos (starEach [] X.env) := by rfl) :
    PE X (.Call (.Name "sorted" p) [e] [⟨some "key", .Lambda params body scope lpos, kpos⟩] pos) (fun σ H Q => t σ H fun vs H1 => ∃ (l : Addr) (zs : List Str), vs = [.ref l] ∧ H1 l = some (.lst (zs.map V.str)) ∧ Tabs T H1 ∧ AllAlike (zs.map (key σ)) ∧ Sortable (zs.map (key σ)) ∧ (∀ z ∈ zs, (key σ z).depth ≤ 10) ∧
      (∀ z ∈ zs, ∀ G, ExtN H1 G → Tabs T G → tb (g σ z) G fun v G2 => Same G G2 ∧ Rp X.K p0 G2 false v (key σ z)) ∧ ∀ G l2, ExtN H1 G → Tabs T G → G l2 = none → Q (.ref l2) (upd G l2 (.lst ((zs.mergeSort (dataLe false (key σ))).map V.str)))) := by
  constructor
  intro pins s σ H Q I h
  refine wpAny_Call_Name_kw (ld_blt I hg hm (show bootBuiltins "sorted" = some (.builtin "sorted") by decide +kernel) ?_ (by decide) (by decide))
  refine PyProof.Rows.callWith_kw (thn (ha.run pos pins s σ H _ I h) ?_) he hpl rfl rfl
  rintro us s1 ⟨vs, H1, I1, r1, l, zs, ev, hS, hT, hal, hsk, hdp, htb, q⟩
  subst ev
  obtain ⟨u1, rfl, ru⟩ := vals1 r1
  obtain rfl : u1 = Value.ref l := ru
  show wpAny _ _ (evalAll ((do let v ← eval (.Lambda params body scope lpos) X.env; standAt pos; pure v) :: [])) _ _ s1
  apply wpAny_evalAll_cons
  apply wpAny_bind
  refine lam_make2 I1 TB hcode hmT hu hT hdef (L.has I1.ok) ?_
  intro f c' pm ctv H2 s2 I2 x2 T2 of2 nf nst hc
  refine wpAny_bind (wpAny_standAt (wpAny_pure (wpAny_evalAll_nil ?_)))
  have n2 : f ∉ X.fs := fun z => nst (by rw [hs]; exact (List.mem_filterMap.mpr (by obtain ⟨e, he, q⟩ := List.mem_filterMap.mp z; exact ⟨e, List.mem_cons_of_mem _ he, q⟩)))
  have n1 : f ≠ X.env.locals := fun z => nst (by rw [hs]; exact List.mem_filterMap.mpr ⟨X.env, List.mem_cons_self, by rw [hf, z]⟩)
  have J := inv_pin I2 of2 nf n1 n2 (fun v z => by cases z)
  obtain ⟨pn, hpn⟩ : ∃ pn, pn = (f, lamO X params body scope pm ctv c') :: (X.pn ++ pins) := ⟨_, rfl⟩
  have hS2 : SqL (Cx.kp X pn).K H2 l (zs.map V.str) := SqL.of (x2 _ _ hS (fun _ q => by cases q))
  show wpAny _ _ (call (.builtin "sorted") [.ref l] [(PySem.Str.ofString "key", .ref f)]) _ _ s2
  rw [← hpn] at J
  have hun := hr.un
  refine wpAny_mono (sorted_texts (X := Cx.kp X pn) (p0 := p0) (k := key σ) (Q := Q) J hS2 hal hsk (fun z hz => ?_) ?_ ?_) ?_ (fun _ _ z => z)
  · have := hdp z hz
    show X.A.units + 2 + (key σ z).depth < cLine
    omega
  · intro z t' s3 G hz K3 sm
    have pin := K3.pin (f, lamO X params body scope pm ctv c') (by rw [List.append_nil]; show _ ∈ pn; rw [hpn]; exact List.mem_cons_self)
    have r1 : Room (k + 1) X.A.in1 := hr.in1
    have r2 : Room (k + 1) X.A.in1.in1 := ⟨hr.hd, by have := hr.dp; show X.A.depth + 3 * (k + 1) + 5 < _; omega, by show X.A.units + 2 + 16 * (k + 1) + 200 < _; omega⟩
    exact run_lam1 (X := Cx.kp X pn) (σ1 := g σ z) (a := a) (q := "") K3 L K3.ok.frames r2 pin.1 (sm _ _ hc) hb (hl σ z) (fun i y v e1 e2 e3 => by
      rcases hσ σ z i y v e1 e2 e3 with ⟨h1, h2⟩ | h
      · exact .inl ⟨h1, h2 ▸ ⟨t', rfl⟩⟩
      · exact .inr h) (fun A s H hr => hbody A s H f c' hr) (htb z hz G (x2.trans (.of sm)) (LamX.Tabs.ext T2 sm))
  · intro G l2 sm n
    exact q G l2 (x2.trans (.of sm)) (LamX.Tabs.ext T2 sm) n
  · rintro v s3 ⟨x, G, K3, r, z⟩
    rw [hpn] at K3
    exact ⟨x, G, inv_unpin K3 I2.ok, r, z⟩
end
end My
end
section
set_option Elab.async false
set_option linter.all false
set_option maxRecDepth 100000
set_option maxHeartbeats 4000000
/-! Ysets: _law_sets: all sets of signs, in their order. -/
namespace My
open PySem PySem.Spec PyProof.Rows L2 LamX
open PySem.W (AllAlike Sortable dataLe alike alikeAll)
/-- all parts of a list, each in the list's order -/
def subL (l : List Nat) : List (List Nat) := l.foldl (fun f c => f ++ f.map (· ++ [c])) [[]]
theorem subL_snoc (l : List Nat) (c : Nat) : subL (l ++ [c]) = subL l ++ (subL l).map (· ++ [c]) := by
  unfold subL
  rw [List.foldl_append]
  rfl
theorem snocN_ind {P : List Nat → Prop} (h0 : P []) (hs : ∀ l c, P l → P (l ++ [c])) (l : List Nat) : P l := by
  have all : ∀ r : List Nat, P r.reverse := by
    intro r
    induction r with
    | nil => exact h0
    | cons c r ih =>
      rw [List.reverse_cons]
      exact hs _ _ ih
  have := all l.reverse
  rw [List.reverse_reverse] at this
  exact this
theorem subL_len (l : List Nat) : (subL l).length = 2 ^ l.length := by
  refine snocN_ind (P := fun l => (subL l).length = 2 ^ l.length) rfl (fun l c ih => ?_) l
  show (subL (l ++ [c])).length = 2 ^ (l ++ [c]).length
  rw [subL_snoc, List.length_append, List.length_map, ih, List.length_append, List.length_singleton, Nat.pow_succ]
  omega
theorem subL_mem (l : List Nat) : ∀ z, z ∈ subL l ↔ List.Sublist z l := by
  refine snocN_ind (P := fun l => ∀ z, z ∈ subL l ↔ List.Sublist z l) ?_ (fun l c ih => ?_) l
  · intro z
    show z ∈ [[]] ↔ _
    rw [List.mem_singleton]
    exact ⟨fun e => e ▸ List.Sublist.refl _, fun e => List.sublist_nil.mp e⟩
  · intro z
    rw [subL_snoc, List.mem_append, List.mem_map, ih, List.sublist_append_iff]
    constructor
    · rintro (h | ⟨y, hy, rfl⟩)
      · exact ⟨z, [], (List.append_nil z).symm, h, List.nil_sublist _⟩
      · exact ⟨y, [c], rfl, (ih y).mp hy, List.Sublist.refl _⟩
    · rintro ⟨y, r, rfl, hy, hr⟩
      match r, hr with
      | [], _ => exact .inl (by rw [List.append_nil]; exact hy)
      | [d], h =>
        have e : d = c := by
          have := h.subset List.mem_cons_self
          exact List.mem_singleton.mp this
        subst e
        exact .inr ⟨y, (ih y).mpr hy, rfl⟩
      | d :: e :: r, h =>
        have := h.length_le
        simp at this
theorem subL_short (l : List Nat) : ∀ z ∈ subL l, z.length ≤ l.length := fun z hz => ((subL_mem l z).mp hz).length_le
/-- what a set is sorted by -/
def setKey (S z : Str) : PyData := .tuple [.int (z.length : Nat), .list (z.cps.toList.map fun c => .int (S.cps.toList.idxOf c : Nat))]
theorem ints_alike : ∀ xs ys : List Nat, alikeAll (xs.map fun c => .int (c : Nat)) (ys.map fun c => .int (c : Nat)) = true
  | [], _ => by first | rfl | simp [alikeAll]
  | _ :: _, [] => by first | rfl | simp [alikeAll]
  | x :: xs, y :: ys => by
    show (alike (.int (x : Nat)) (.int (y : Nat)) && alikeAll (xs.map _) (ys.map _)) = true
    rw [ints_alike xs ys]
    rfl
theorem key_alike (S y z : Str) : alike (setKey S y) (setKey S z) = true := by
  have h := ints_alike (y.cps.toList.map fun c => S.cps.toList.idxOf c) (z.cps.toList.map fun c => S.cps.toList.idxOf c)
  rw [List.map_map, List.map_map] at h
  have e : alike (.list (y.cps.toList.map fun c => .int (S.cps.toList.idxOf c : Nat))) (.list (z.cps.toList.map fun c => .int (S.cps.toList.idxOf c : Nat))) = true := h
  show (alike (.int (y.length : Nat)) (.int (z.length : Nat)) && (alike (.list (y.cps.toList.map fun c => .int (S.cps.toList.idxOf c : Nat))) (.list (z.cps.toList.map fun c => .int (S.cps.toList.idxOf c : Nat))) && alikeAll [] [])) = true
  rw [e]
  first | rfl | simp [alike, alikeAll]
theorem ints_depth : ∀ xs : List Nat, PyData.depthAll (xs.map fun c => .int (c : Nat)) = 0
  | [] => rfl
  | x :: xs => by
    show max 0 (PyData.depthAll (xs.map _)) = 0
    rw [ints_depth xs]
    rfl
theorem key_depth (S z : Str) : (setKey S z).depth ≤ 10 := by
  have h := ints_depth (z.cps.toList.map fun c => S.cps.toList.idxOf c)
  rw [List.map_map] at h
  have h : PyData.depthAll (z.cps.toList.map fun c => .int (S.cps.toList.idxOf c : Nat)) = 0 := h
  show max 0 (max (PyData.depthAll (z.cps.toList.map fun c => .int (S.cps.toList.idxOf c : Nat)) + 1) 0) + 1 ≤ 10
  rw [h]
  decide
/-- the sets of a font's signs, as they are listed -/
def setsL (S : Str) : List Str := ((subL S.cps.toList).map mkS).mergeSort (dataLe false (setKey S))
theorem setsL_perm (S : Str) : (setsL S).Perm ((subL S.cps.toList).map mkS) := List.mergeSort_perm _ _
theorem setsL_len (S : Str) : (setsL S).length = 2 ^ S.length := by
  rw [(setsL_perm S).length_eq, List.length_map, subL_len]
  congr 1
theorem setsL_mem {S z : Str} : z ∈ setsL S ↔ ∃ l, z = mkS l ∧ List.Sublist l S.cps.toList := by
  rw [(setsL_perm S).mem_iff, List.mem_map]
  exact ⟨fun ⟨l, h, e⟩ => ⟨l, e.symm, (subL_mem _ l).mp h⟩, fun ⟨l, e, h⟩ => ⟨l, (subL_mem _ l).mpr h, e.symm⟩⟩
def retE : Stmt → Expr
  | .Return (some e) _ => e
  | _ => .Constant .none 0 default
def kw0 : Expr → Expr
  | .Call _ _ (k :: _) _ => k.value
  | e => e
def lamScp : Expr → Scope
  | .Lambda _ _ s _ => s
  | _ => default
abbrev s_sets : Stmt := topS 56
abbrev keyLam : Expr := kw0 (retE (nth (defBody s_sets) 2))
def sp_sets (T : List (Addr × Str)) : Sp := fun vs H Q _ => ∃ S : Str, vs = [.str S] ∧ S.length ≤ 10 ∧ Tabs T H ∧ ∀ H' r, ExtN H H' → Tabs T H' → H' r = some (.lst ((setsL S).map V.str)) → Q (.ref r) H'
section
variable {P : Program} {w : World} {K : PySem.W.Frag} {mg : Str → Option Value} {base : Heap}
abbrev NSts : List Str := ["_law_signs", "_law_found", "_law_sign", "_law_some"]
abbrev NSk : List Str := ["_law_signs", "_law_some", "_law_sign"]
theorem sc_sets : FnScope NSts ["_law_signs"] (defScope s_sets) := ⟨rfl, rfl, rfl, by decide +kernel, rfl, by decide +kernel, by decide +kernel⟩
theorem nd_sk : NSk.Nodup := by decide +kernel
abbrev qSets : Str := (envOfC "_law_sets" (defScope s_sets) 0 0 .none).qual ++ "<lambda>"
theorem sub_take {l : List Nat} {i c : Nat} (h : l[i]? = some c) : subL (l.take (i + 1)) = subL (l.take i) ++ (subL (l.take i)).map (· ++ [c]) := by
  rw [List.take_add_one, h]
  exact subL_snoc _ _
abbrev strsOf (ls : List (List Nat)) : List V := (ls.map mkS).map V.str
theorem ok_sets {f cS PS : Addr} {TT : List (Addr × Str)} {oc kV doc pm ct : Value} {od an : Option Addr} {osl : Array (Option Value)} (lk : K.lookup f = some ⟨oc, od, .func (PySem.W.fnOf "_law_sets" "_law_sets" (defArgs s_sets) (defBody s_sets) (defScope s_sets) .none kV doc pm an (.ref cS) ct), osl⟩) (hcd : PySem.W.codeIn K (.ref cS) "_law_sets" = true)
    (T : TB mg) (ts : mg "sorted" = none) (tb : TabB base mg cS PS) (hmT : (PS, qSets) ∈ TT) (huT : ∀ p ∈ TT, p.1 = PS → p.2 = qSets) :
    FnOk P w K mg base CX0 3 f (PySem.W.fnOf "_law_sets" "_law_sets" (defArgs s_sets) (defBody s_sets) (defScope s_sets) .none kV doc pm an (.ref cS) ct) ["_law_signs"] (sp_sets TT) := by
  refine fn_of lk hcd sc_sets (fun vs H Q E h => ?_) (fun A outer s H vs Q E hr h => ?_)
  · obtain ⟨S, rfl, _⟩ := h
    rfl
  · obtain ⟨S, rfl, S10, hT, k⟩ := h
    refine ⟨_, PSs.nox (pss_cons (ps_set (i := 1) sc_sets.nd rfl (Or.inl rfl) (pe_lst' (pa_cons pe_str pa_nil)))
      (pss_cons (ps_for PassesOwn.never rfl (pi_str (pv 0)) (pg_name (i := 2) sc_sets.nd rfl (Or.inr rfl))
        (pss_one (ps_set (i := 1) sc_sets.nd rfl (Or.inl rfl) (pe_op op_cat' (pv 1) (by exact (pe_lc (own := [("_law_some", 3)]) (g := gName 3) (tt := tYes) rfl sc_sets.nd (pi_list (pv 1)) (blkOk_by (own := [("_law_some", 3)]) (N := NSts) (sc := defScope s_sets) (by decide +kernel))
          (fun _ _ _ _ _ => pg_name (i := 3) sc_sets.nd rfl (Or.inl rfl)) (fun _ _ _ _ _ => pts_nil) (fun _ _ _ _ _ => pe_op op_add_str (pv 3) (pv 2))))))))
      (pss_one (ps_ret (pe_sortedLam (p0 := PS) (T := TT) (a := "_law_some") (N1 := NSk) (k := 0) (g := fun σ z => [σ.getD 0 none, some (.str z), none]) (key := fun σ z => setKey (match σ.getD 0 none with | some (.str S) => S | _ => z) z) rfl rfl (by rfl) ts (pa_cons (pv 1) pa_nil) tb rfl hmT huT
        (lamS1_by (by show lamS1B (defScope s_sets) (lamScp keyLam) _ = true; decide +kernel)) rfl hr (fun _ _ _ _ _ _ => rfl) (fun _ _ => rfl) ?HS
        (fun A' s' H' f' c' hr' => pe_tup' (pa_cons (pe_callB call_len_str (by rfl) T.len PySem.boot_len (pa_cons (pv 1) pa_nil)) (pa_cons (by exact (pe_lc (own := [("_law_sign", 2)]) (g := gName 2) (tt := tYes) rfl nd_sk (pi_str (pv 1)) (blkOk_by (own := [("_law_sign", 2)]) (N := NSk) (sc := lamScp keyLam) (by decide +kernel))
          (fun _ _ _ _ _ => pg_name (i := 2) nd_sk rfl (Or.inl rfl)) (fun _ _ _ _ _ => pts_nil) (fun _ _ _ _ _ => pe_bmSK (K := K) (by rfl) PySem.F.plainAttrs_str PySem.F.slot_str_index PySem.F.type_str_index (mt_indexX (W := fun _ _ _ _ => False) (by rfl) LamX.takes0) (pv 0) (pa_cons (pv 2) pa_nil)))) pa_nil)))))))), ?_⟩
    case HS =>
      intro σ z i y v e1 e2 vis
      match i, e1, e2 with
      | 0, e1, e2 =>
        obtain rfl := Option.some.inj e1
        have e2 : σ.getD 0 none = some v := Option.some.inj e2
        refine .inr ⟨by decide +kernel, 0, rfl, ?_⟩
        cases σ with
        | nil => cases e2
        | cons x σ => exact congrArg some e2
      | 1, e1, e2 =>
        obtain rfl := Option.some.inj e1
        exact .inl ⟨rfl, (Option.some.inj (Option.some.inj e2)).symm⟩
      | 2, e1, e2 => cases e2
      | i + 3, e1, e2 => cases e1
    have zl : S.cps.toList.length = S.length := Array.length_toList
    refine ⟨by show 1 ≤ sizeLine; decide, fun r0 H0 n0 => ?_⟩
    have lS : (signs S).length = S.length := signs_len S
    refine ⟨_, rfl, S, rfl, for_it (walk_signs (z := S)) (fun i σ' H' => ∃ (r : Addr) (o2 o3 : Option V), σ' = [some (.str S), some (.ref r), o2, o3] ∧ Same H H' ∧ H' r = some (.lst (strsOf (subL (S.cps.toList.take i))))) ⟨r0, none, none, rfl, n0.same, n0.here⟩ (fun _ _ _ _ _ => trivial) ?_ ?_⟩
    · rintro i x σ' H1 H1' hi ⟨r, o2, o3, rfl, s1, h1⟩ ⟨rfl, hx⟩
      rw [lS] at hi
      have hx : (signs S)[i]? = some x := hx
      unfold signs at hx
      rw [List.getElem?_map] at hx
      cases hc : S.cps.toList[i]? with
      | none => rw [hc] at hx; cases hx
      | some ch =>
      rw [hc] at hx
      obtain rfl := Option.some.inj hx
      have ln : (strsOf (subL (S.cps.toList.take i))).length ≤ 512 := by
        rw [List.length_map, List.length_map, subL_len, List.length_take, zl]
        have e : min i S.length = i := by omega
        rw [e]
        exact Nat.pow_le_pow_right (by decide) (show i ≤ 9 by omega)
      have sh : ∀ z ∈ subL (S.cps.toList.take i), z.length ≤ 10 := fun z hz => by
        have h1 := subL_short _ z hz
        rw [List.length_take] at h1
        omega
      refine ⟨_, rfl, _, rfl, r, rfl, ⟨_, SqL.of h1⟩, fun D hD => ?_⟩
      refine lc_ff (walk_list (xs := strsOf (subL (S.cps.toList.take i)))) (fun _ => true) (fun x => match x with | .str z => .str (z ++ ⟨#[ch]⟩) | _ => x) hD (fun H' sm => SqL.of (sm _ _ h1)) (Nat.lt_of_le_of_lt ln (by decide)) (fun x => rfl) (fun x H' C _ _ h => h _ (Same.refl _)) ?_ ?_
      · intro x H' C' hx _ s2 hC
        obtain ⟨z, hz, rfl⟩ := List.mem_map.mp hx
        obtain ⟨l, hl, rfl⟩ := List.mem_map.mp hz
        refine ⟨_, rfl, _, rfl, _, _, rfl, rfl, ?_, hC H' (Same.refl _)⟩
        rw [mkS_len]
        have := sh l hl
        exact Nat.le_trans (show l.length + 1 ≤ 11 by omega) (by decide)
      · intro H2 s2 h2
        have e2 : ((strsOf (subL (S.cps.toList.take i))).filter (fun _ => true)).map (fun x => match x with | .str z => .str (z ++ ⟨#[ch]⟩) | _ => x) = strsOf ((subL (S.cps.toList.take i)).map (· ++ [ch])) := by
          rw [List.filter_eq_self.mpr (fun _ _ => rfl)]
          unfold strsOf
          rw [List.map_map, List.map_map, List.map_map, List.map_map]
          exact List.map_congr_left fun l _ => by
            show V.str (mkS l ++ ⟨#[ch]⟩) = V.str (mkS (l ++ [ch]))
            congr 1
            show (⟨l.toArray ++ #[ch]⟩ : Str) = ⟨(l ++ [ch]).toArray⟩
            simp
        rw [e2] at h2
        refine ⟨r, D, _, _, rfl, rfl, s2 _ _ h1, h2, ?_, fun e H3 n3 => ?_⟩
        · have : (strsOf ((subL (S.cps.toList.take i)).map (· ++ [ch]))).length = (strsOf (subL (S.cps.toList.take i))).length := by simp [strsOf]
          rw [this]
          exact Nat.le_trans (show _ ≤ 1024 by omega) (by decide)
        · refine ⟨e, _, _, rfl, (s1.trans s2).trans n3.same, ?_⟩
          rw [n3.here, sub_take hc]
          unfold strsOf
          rw [List.map_append, List.map_append]
    · rintro σ' H1 ⟨r, o2, o3, rfl, s1, h1⟩
      rw [lS, ← zl, List.take_length] at h1
      have T1 : Tabs TT H1 := LamX.Tabs.ext hT s1
      refine ⟨_, rfl, r, (subL S.cps.toList).map mkS, rfl, h1, T1, ?_, ?_, fun z _ => key_depth S z, fun z hz G xG TG => ?_, fun G l2 xG TG nG => ?_⟩
      · intro d hd d' hd'
        obtain ⟨y, _, rfl⟩ := List.mem_map.mp hd
        obtain ⟨z, _, rfl⟩ := List.mem_map.mp hd'
        exact key_alike S y z
      · refine .inl fun d hd => ?_
        obtain ⟨y, _, rfl⟩ := List.mem_map.mp hd
        exact ⟨_, _, rfl⟩
      · obtain ⟨l, hl, rfl⟩ := List.mem_map.mp hz
        have sub := (subL_mem _ l).mp hl
        have ll : l.length ≤ 10 := by
          have := sub.length_le
          omega
        refine ⟨_, rfl, mkS l, rfl, by rw [mkS_len]; exact Nat.le_trans ll (by decide), _, rfl, mkS l, rfl, fun D hD => ?_⟩
        refine lc_ff (walk_signs (z := mkS l)) (fun _ => true) (fun x => .int (S.cps.toList.idxOf (ofSg x) : Nat)) hD (fun _ _ => trivial) (by rw [signs_len, mkS_len]; exact Nat.lt_of_le_of_lt ll (by decide)) (fun x => rfl) (fun x H' C _ _ h => h _ (Same.refl _)) ?_ ?_
        · intro x H' C' hx _ s2 hC
          obtain ⟨c, hc, rfl⟩ := mem_signs hx
          have cS : c ∈ S.cps.toList := sub.subset hc
          refine ⟨_, rfl, rfl, _, rfl, S, ⟨#[c]⟩, rfl, rfl, fun j hj => ?_, fun hn => ?_⟩
          · rw [index0_one S c cS] at hj
            obtain rfl := Option.some.inj hj
            exact hC H' (Same.refl _)
          · rw [index0_one S c cS] at hn
            cases hn
        · intro H2 s2 h2
          refine ⟨by show 2 ≤ sizeLine; decide, fun t H3 n3 => ?_⟩
          obtain ⟨pt, hpt, _⟩ := TG (PS, qSets) hmT
          have nD : D ≠ PS := fun z => by
            have hpt : G PS = some (.tbl pt) := hpt
            rw [← z, hD] at hpt
            cases hpt
          have nt : t ≠ PS := fun z => by
            have e := s2 _ _ hpt
            have e : H2 PS = some (.tbl pt) := e
            rw [← z, n3.free] at e
            cases e
          refine ⟨s2.trans n3.same, ?_⟩
          have e3 : ((signs (mkS l)).filter (fun _ => true)).map (fun x => V.int (S.cps.toList.idxOf (ofSg x) : Nat)) = l.map fun c => V.int (S.cps.toList.idxOf c : Nat) := by
            rw [List.filter_eq_self.mpr (fun _ _ => rfl)]
            show (l.map sg).map _ = _
            rw [List.map_map]
            rfl
          rw [e3] at h2
          have all : ∀ (b : Bool) (l : List Nat), RpAll K PS H3 b (l.map fun c => V.int (S.cps.toList.idxOf c : Nat)) (l.map fun c => .int (S.cps.toList.idxOf c : Nat)) := by
            intro b l
            induction l with
            | nil => exact .nil _
            | cons c l ih => exact .cons (.int _ _) ih
          have nd0 : ∀ l : List Nat, PyData.hasDictAll (l.map fun c => .int (S.cps.toList.idxOf c : Nat)) = false := by
            intro l
            induction l with
            | nil => rfl
            | cons c l ih =>
              show (false || PyData.hasDictAll (l.map _)) = false
              rw [ih]
              rfl
          refine .tup n3.here nt (.cons ?_ (.cons ?_ (.nil _)))
          · rw [mkS_len]
            exact .int _ _
          · refine .lst (n3.same _ _ h2) nD (fun z => ?_) (all _ l)
            simp [PyData.hasDictAll, PyData.hasDict, nd0] at z
      · exact k _ l2 (fun b o e n => by rw [upd_ne (ne_of_none (xG _ _ (s1 _ _ e) n) nG)]; exact xG _ _ (s1 _ _ e) n) (LamX.Tabs.ext TG fun b o e => by rw [upd_ne (ne_of_none e nG)]; exact e) upd_same
end
end My
end
section
set_option Elab.async false
set_option linter.all false
set_option maxRecDepth 100000
set_option maxHeartbeats 4000000
/-! Yext: what stays where tables grow: the pen, fonts; what stays of tables where only the pen changes; range(n) as a value. -/
namespace My
open PySem PySem.Spec PyProof.Rows L2 LamX
theorem pairs_ext {H H1 : Hp} (s : ExtN H H1) : ∀ {ps : List (Nat × Nat)} {ys : List V}, PairsAt H ps ys → PairsAt H1 ps ys
  | _, _, .nil => .nil
  | _, _, .cons ⟨q, e, h⟩ t => .cons ⟨q, e, s _ _ h fun _ z => by cases z⟩ (pairs_ext s t)
theorem font_ext {H H1 : Hp} {C a : Addr} {S : Str} {ps : List (Nat × Nat)} (s : ExtN H H1) (h : FontAt H C a S ps) : FontAt H1 C a S ps := by
  obtain ⟨dx, r, ys, h1, h2, h3⟩ := h.at_
  exact ⟨dx, r, ys, s _ _ h1 (fun _ z => by cases z), s _ _ h2 (fun _ z => by cases z), pairs_ext s h3⟩
theorem pen_ext {H H1 : Hp} {p c : Addr} {n : Nat} (s : ExtN H H1) (h : PenAt H p c n) : PenAt H1 p c n := by
  obtain ⟨cs, u, z, h1, h2, h3, h4, h5⟩ := h
  exact ⟨cs, u, z, s _ _ h1 (fun _ z => by cases z), s _ _ h2 (fun _ z => by cases z), h3, h4, h5⟩
theorem tabs_but {H H1 : Hp} {p c : Addr} {n : Nat} {T : List (Addr × Str)} (h : PenAt H p c n) (b : But p H H1) (t : Tabs T H) : Tabs T H1 := by
  intro e he
  obtain ⟨ps, h1, h2, h3⟩ := t e he
  obtain ⟨cs, u, z, hp, _⟩ := h
  refine ⟨ps, b _ _ (ne_of h1 hp (by intro z; cases z)) h1, h2, fun pos cv hc => ?_⟩
  obtain ⟨c', e1, e2⟩ := h3 pos cv hc
  exact ⟨c', e1, b _ _ (fun z => by rw [z, hp] at e2; have := Option.some.inj e2; unfold CodeO at this; cases this) e2⟩
/-- range(n) as a value -/
theorem cr_range1 {X : Cx} : CallR X (.type "range") (fun vs H Q => ∃ j, vs = [V.int j] ∧ ∀ p, H p = none → Q (.ref p) (upd H p (.rng 0 j))) := by
  intro pins s σ H vs us Q I r h
  obtain ⟨j, rfl, q⟩ := h
  obtain ⟨u1, rfl, ri⟩ := vals1 r
  obtain ⟨t, rfl⟩ := ri
  apply call_range_1
  refine ⟨.ref s.heap.objs.size, _, I.laid (t' := s.toks + 1 + 1) (fun b o e => Heap.get?_push_of_some _ e) (Nat.le_refl _) ?_, rfl, q _ (I.hok.fresh (Nat.le_refl _))⟩
  exact ⟨s.toks, t, s.toks + 1, Heap.get?_push_size _ rfl⟩
end My
end
section
set_option Elab.async false
set_option linter.all false
set_option maxRecDepth 100000
set_option maxHeartbeats 4000000
namespace My
open PySem PySem.Spec PyProof.Rows L2 LamX
abbrev s_law : Stmt := topS 59
abbrev outLoop : Stmt := nth (defBody s_law) 1
abbrev lawSt (i : Nat) : Stmt := nth (forBody outLoop) i
abbrev lamQ : Str := (envOfC "law" (defScope s_law) 0 0 .none).qual ++ "<lambda>"
def sp_law (K : PySem.W.Frag) (PL : Addr) : Sp := fun vs H Q _ => ∃ (a : Addr) (ns : List Int), vs = [.ref a] ∧ SqL K H a (ns.map V.int) ∧ ns.length ≤ 63 ∧ Tabs [(PL, lamQ)] H ∧ ∀ H', Q (.bl true) H'
end My
end
section
set_option Elab.async false
set_option linter.all false
set_option maxRecDepth 100000
set_option maxHeartbeats 4000000
namespace My
open PySem PySem.Spec PyProof.Rows L2 LamX
abbrev LN : List Str := ["_law_script", "_law_pen_here", "_law_turn", "_law_plain_here", "_law_made_here", "_law_signs", "_law_found", "_law_some", "_law_mixed", "_law_k", "_law_one", "_law_other", "_law_union", "_law_common", "_law_odd_here", "_law_value", "_law_is_right_set", "_law_sign"]
theorem sc_law : FnScope LN ["_law_script"] (defScope s_law) := ⟨rfl, rfl, rfl, by decide +kernel, rfl, by decide +kernel, by decide +kernel⟩
abbrev LX (P : Program) (w : World) (K : PySem.W.Frag) (mg : Str → Option Value) (base : Heap) (f : Addr) (cdv : Value) (A : Around) (outer : List Env) (s : Shared) (H : Hp) (E : XK) : Cx :=
  (cxOf CX0 P w K mg base LN "law" (defScope s_law) f cdv A outer s H E).nox
abbrev LR (k : Nat) (f : Addr) (cdv : Value) (A : Around) (s : Shared) : Prop := Room k (A.deeper (envOfC "law" (defScope s_law) s.heap.objs.size f cdv))
abbrev sl (o0 o1 o2 o3 o4 o5 o6 o7 o8 o9 o10 o11 o12 o13 o14 o15 o16 o17 : Option V) : L2.St := [o0, o1, o2, o3, o4, o5, o6, o7, o8, o9, o10, o11, o12, o13, o14, o15, o16, o17]
theorem e30'' : (10 : Int) ^ (30 : Int).toNat = big30 := by decide +kernel
theorem p30'' : CPow 10 30 := ⟨by decide, by decide, by decide⟩
/-- the turns of a drawn font -/
abbrev Dq (S : Str) (ps : List (Nat × Nat)) : List (Nat × Nat) := dueOf S (headsAll ps)
/-- the bearings of some sets -/
def bearL (S : Str) (D : List (Nat × Nat)) (cs : List (Str × Int)) (l : List Str) : List (Str × Int) := l.map fun z => (z, bearN S D cs z.cps.toList)
theorem bearL_keys (S : Str) (D : List (Nat × Nat)) (cs : List (Str × Int)) (l : List Str) : (bearL S D cs l).map (·.1) = l := by
  unfold bearL
  rw [List.map_map]
  exact List.map_id' l
/-- what a turn of the law holds -/
structure Wk (CC C : Addr) (H : Hp) (t t1 b d a : Addr) (S : Str) (ys : List V) (ps : List (Nat × Nat)) (cs : List (Str × Int)) : Prop where
  pl : Pl H t t1 b d S ys ps cs
  ca : CaseAt H CC C a S (Dq S ps) cs
  S5 : S.length ≤ 5
section
variable {CC C : Addr} {H H1 : Hp} {t t1 b d a : Addr} {S : Str} {ys : List V} {ps : List (Nat × Nat)} {cs : List (Str × Int)}
theorem Wk.pen {p c : Addr} {n : Nat} (hP : PenAt H p c n) (q : But p H H1) (g : Wk CC C H t t1 b d a S ys ps cs) : Wk CC C H1 t t1 b d a S ys ps cs := ⟨g.pl.pen hP q, g.ca.pen hP q, g.S5⟩
theorem Wk.ext (s : ExtN H H1) (g : Wk CC C H t t1 b d a S ys ps cs) : Wk CC C H1 t t1 b d a S ys ps cs := ⟨g.pl.ext s, g.ca.ext s, g.S5⟩
theorem Wk.same (s : Same H H1) (g : Wk CC C H t t1 b d a S ys ps cs) : Wk CC C H1 t t1 b d a S ys ps cs := g.ext (ExtN.of s)
end
/-- what stays: all but the pen and the tables -/
def Fr (p : Addr) (G H : Hp) : Prop := ∀ b o, G b = some o → b ≠ p → (∀ ps, o ≠ .tbl ps) → H b = some o
theorem Fr.but {p : Addr} {G H H1 : Hp} (h : Fr p G H) (q : But p H H1) : Fr p G H1 := fun b o e n t => q _ _ n (h _ _ e n t)
theorem Fr.ext {p : Addr} {G H H1 : Hp} (h : Fr p G H) (q : ExtN H H1) : Fr p G H1 := fun b o e n t => q _ _ (h _ _ e n t) t
theorem Fr.upd {p x : Addr} {G H : Hp} {o : HO} (h : Fr p G H) (f : G x = none) : Fr p G (upd H x o) := fun b o e n t => by
  rw [upd_ne (ne_of_none e f)]
  exact h _ _ e n t
theorem Wk.fr {CC C : Addr} {G H : Hp} {t t1 b d a p c : Addr} {n : Nat} {S : Str} {ys : List V} {ps : List (Nat × Nat)} {cs : List (Str × Int)} (hP : PenAt G p c n) (h : Fr p G H) (g : Wk CC C G t t1 b d a S ys ps cs) : Wk CC C H t t1 b d a S ys ps cs := by
  have s1 : ExtN G (fun x => if x = p then G p else H x) := fun b o e t => by
    by_cases z : b = p
    · show (if b = p then G p else H b) = some o
      rw [if_pos z, ← z]
      exact e
    · show (if b = p then G p else H b) = some o
      rw [if_neg z]
      exact h _ _ e z t
  refine (g.ext s1).pen (pen_ext s1 hP) fun b o n e => ?_
  have e : (if b = p then G p else H b) = some o := e
  rw [if_neg n] at e
  exact e
/-- what a turn of the law holds, the bearings of some sets among it -/
structure We (CC C p c : Addr) (H : Hp) (t t1 b d a e : Addr) (S : Str) (ys : List V) (ps : List (Nat × Nat)) (cs : List (Str × Int)) (l : List Str) : Prop where
  bs : ∃ G n, Wk CC C G t t1 b d a S ys ps cs ∧ PenAt G p c n ∧ G e = none ∧ Fr p G H
  fo : H e = some (.dK (toS (bearL S (Dq S ps) cs l)))
section
variable {CC C p c : Addr} {H H1 : Hp} {t t1 b d a e : Addr} {S : Str} {ys : List V} {ps : List (Nat × Nat)} {cs : List (Str × Int)} {l : List Str}
theorem We.wk (g : We CC C p c H t t1 b d a e S ys ps cs l) : Wk CC C H t t1 b d a S ys ps cs := by
  obtain ⟨G, n, h1, h2, _, h4⟩ := g.bs
  exact h1.fr h2 h4
theorem We.pen {n : Nat} (hP : PenAt H p c n) (q : But p H H1) (g : We CC C p c H t t1 b d a e S ys ps cs l) : We CC C p c H1 t t1 b d a e S ys ps cs l := by
  obtain ⟨G, n, h1, h2, h3, h4⟩ := g.bs
  exact ⟨⟨G, n, h1, h2, h3, h4.but q⟩, q _ _ (hP.neK g.fo) g.fo⟩
theorem We.ext (q : ExtN H H1) (g : We CC C p c H t t1 b d a e S ys ps cs l) : We CC C p c H1 t t1 b d a e S ys ps cs l := by
  obtain ⟨G, n, h1, h2, h3, h4⟩ := g.bs
  exact ⟨⟨G, n, h1, h2, h3, h4.ext q⟩, q _ _ g.fo (fun _ z => by cases z)⟩
theorem We.same (q : Same H H1) (g : We CC C p c H t t1 b d a e S ys ps cs l) : We CC C p c H1 t t1 b d a e S ys ps cs l := g.ext (ExtN.of q)
theorem We.put {z : Str} (g : We CC C p c H t t1 b d a e S ys ps cs l) (nw : z ∉ l) : upd H e (.dK (toS (putT (bearL S (Dq S ps) cs l) z (bearN S (Dq S ps) cs z.cps.toList)))) = upd H e (.dK (toS (bearL S (Dq S ps) cs (l ++ [z])))) ∧ We CC C p c (upd H e (.dK (toS (bearL S (Dq S ps) cs (l ++ [z]))))) t t1 b d a e S ys ps cs (l ++ [z]) := by
  obtain ⟨G, n, h1, h2, h3, h4⟩ := g.bs
  have e1 : putT (bearL S (Dq S ps) cs l) z (bearN S (Dq S ps) cs z.cps.toList) = bearL S (Dq S ps) cs (l ++ [z]) := by
    rw [putT_new (by rw [bearL_keys]; exact nw)]
    unfold bearL
    rw [List.map_append]
    rfl
  rw [e1]
  exact ⟨rfl, ⟨G, n, h1, h2, h3, h4.upd h3⟩, upd_same⟩
end
theorem tabs_upd {H : Hp} {x : Addr} {kvs kvs' : List (Key × V)} {T : List (Addr × Str)} (h : H x = some (.dK kvs)) (t : Tabs T H) : Tabs T (upd H x (.dK kvs')) := by
  intro e he
  obtain ⟨ps, h1, h2, h3⟩ := t e he
  refine ⟨ps, by rw [upd_ne (ne_of h1 h (by intro z; cases z))]; exact h1, h2, fun pos cv hc => ?_⟩
  obtain ⟨c', e1, e2⟩ := h3 pos cv hc
  exact ⟨c', e1, by rw [upd_ne (fun z => by rw [z, h] at e2; have := Option.some.inj e2; unfold CodeO at this; cases this)]; exact e2⟩
theorem pen_updK {H : Hp} {p c x : Addr} {n : Nat} {cs cs' : List (Str × Int)} (hP : PenAt H p c n) (h : H x = some (.dK (toS cs))) : PenAt (upd H x (.dK (toS cs'))) p c n := by
  have ne := hP.neK h
  obtain ⟨xs, u, z, h1, h2, h3, h4, h5⟩ := hP
  refine ⟨xs, u, z, ?_, ?_, h3, h4, h5⟩
  · rw [upd_ne ne.symm]
    exact h1
  · rw [upd_ne (ne_of h2 h (by intro z; cases z))]
    exact h2
theorem meets_perm {l Z : List Nat} (p : l.Perm Z) (x : List Nat) : meets x l = meets x Z := by
  unfold meets
  exact any_same fun c _ => by
    have := p.mem_iff (a := c)
    by_cases h : c ∈ Z
    · rw [decide_eq_true h, decide_eq_true (this.mpr h)]
    · rw [decide_eq_false h, decide_eq_false fun q => h (this.mp q)]
theorem bear_perm {S : Str} {D : List (Nat × Nat)} {cs : List (Str × Int)} {l Z : List Nat} (p : l.Perm Z) : bearN S D cs l = bearN S D cs Z := by
  unfold bearN
  congr 2
  exact congrArg (fun f => cs.filter f) (funext fun e => meets_perm p _)
theorem isum_le {B : Int} (hB : 0 ≤ B) : ∀ {l : List (Str × Int)}, (∀ e ∈ l, 0 ≤ e.2 ∧ e.2 ≤ B) → 0 ≤ (l.map (·.2)).sum ∧ (l.map (·.2)).sum ≤ B * l.length
  | [], _ => ⟨Int.le_refl _, by simp⟩
  | e :: l, h => by
    obtain ⟨h1, h2⟩ := isum_le hB (l := l) fun x hx => h x (List.mem_cons_of_mem _ hx)
    obtain ⟨h3, h4⟩ := h e List.mem_cons_self
    have e1 : ((e :: l).map (·.2)).sum = e.2 + (l.map (·.2)).sum := by rw [List.map_cons, List.sum_cons]
    rw [e1]
    refine ⟨by omega, ?_⟩
    have : B * ((e :: l).length : Int) = B * l.length + B := by
      rw [List.length_cons, Int.natCast_succ, Int.mul_add, Int.mul_one]
    omega
theorem bear_bd {S : Str} {cs : List (Str × Int)} (D : List (Nat × Nat)) (h : CsB S cs) (Z : List Nat) : 0 ≤ bearN S D cs Z ∧ (bearN S D cs Z).natAbs < 10 ^ 100 := by
  obtain ⟨h1, h2⟩ := isum_le (B := 10 ^ 31) (by decide) (l := cs.filter fun e => meets (showsZ S D e.1) Z) fun e he => h.bd e (List.mem_filter.mp he).1
  have h1 : 0 ≤ bearN S D cs Z := h1
  have h2 : bearN S D cs Z ≤ 10 ^ 31 * ((cs.filter fun e => meets (showsZ S D e.1) Z).length : Int) := h2
  have hl : (cs.filter fun e => meets (showsZ S D e.1) Z).length ≤ 110 := Nat.le_trans (List.length_filter_le _ _) h.len
  refine ⟨h1, ?_⟩
  have : bearN S D cs Z ≤ 10 ^ 31 * 110 := Int.le_trans h2 (Int.mul_le_mul_of_nonneg_left (by omega) (by decide))
  have : (bearN S D cs Z).natAbs ≤ 10 ^ 31 * 110 := by omega
  exact Nat.lt_of_le_of_lt this (by decide +kernel)
theorem sho_int {i : Int} (h : i.natAbs < 10 ^ 100) : Sho 1000000 (.int i) := by
  have q := num_sho (num_small h)
  exact ⟨q.shw, Nat.le_trans q.len (by decide), q.dep⟩
theorem nd_map_inj {α β : Type} {f : α → β} {l : List α} (hf : ∀ x y, f x = f y → x = y) (h : l.Nodup) : (l.map f).Nodup := by
  induction l with
  | nil => exact List.nodup_nil
  | cons a l ih =>
    rw [List.nodup_cons] at h
    rw [List.map_cons, List.nodup_cons]
    refine ⟨fun q => ?_, ih h.2⟩
    obtain ⟨b, hb, e⟩ := List.mem_map.mp q
    exact h.1 (hf _ _ e ▸ hb)
theorem subL_nd {l : List Nat} : l.Nodup → (subL l).Nodup := by
  refine snocN_ind (P := fun l => l.Nodup → (subL l).Nodup) (fun _ => by decide) (fun l c ih nd => ?_) l
  have nd1 : l.Nodup := nd.sublist (List.sublist_append_left l [c])
  have nc : c ∉ l := fun h => by
    rw [List.nodup_append] at nd
    exact nd.2.2 c h c List.mem_cons_self rfl
  rw [subL_snoc, List.nodup_append]
  refine ⟨ih nd1, ?_, ?_⟩
  · exact nd_map_inj (fun x y h => List.append_cancel_right h) (ih nd1)
  · rintro x hx y hy rfl
    obtain ⟨z, hz, rfl⟩ := List.mem_map.mp hy
    exact nc (((subL_mem l _).mp hx).subset (by simp))
theorem setsL_nd {S : Str} (nd : S.cps.toList.Nodup) : (setsL S).Nodup := by
  rw [(setsL_perm S).nodup_iff]
  exact nd_map_inj (fun x y h => by
    have := congrArg (fun q : Str => q.cps.toList) h
    simpa using this) (subL_nd nd)
section
variable {P : Program} {w : World} {K : PySem.W.Frag} {mg : Str → Option Value} {base : Heap} {f : Addr} {cdv : Value} {A : Around} {outer : List Env} {s : Shared} {H0 : Hp} {E : XK}
def q0 : TS := fun D σ H => ∃ (o0 o2 o3 o4 o5 o6 o7 o8 o9 o10 o11 o12 o13 o14 o15 o16 o17 : Option V) (p : Addr) (c : Addr) (n : Nat), σ = sl o0 (some (.ref p)) o2 o3 o4 o5 o6 o7 o8 o9 o10 o11 o12 o13 o14 o15 o16 o17 ∧ PenAt H p c n ∧ n < 2 ^ 46 ∧ ∀ H' t t1 b d S ys ps cs, DrewP H p c (n + 1000) H' → Pl H' t t1 b d S ys ps cs → S.length ≤ 5 → D.nx (sl o0 (some (.ref p)) o2 (some (.ref t)) o4 o5 o6 o7 o8 o9 o10 o11 o12 o13 o14 o15 o16 o17) H'
theorem st0 {fB : Addr} {fdB : FuncData} (DB : Def K mg "_law_plain" fB fdB ["_law_pen_here", "_law_signs", "_law_most", "_law_bound"]) (GB : FnOk P w K mg base CX0 5 fB fdB ["_law_pen_here", "_law_signs", "_law_most", "_law_bound"] sp_plain) (hr : LR 12 f cdv A s) : PS (LX P w K mg base f cdv A outer s H0 E) (lawSt 0) q0 := by
  have r5 : Room 5 _ := hr.mono (by decide)
  refine PS.weak (ps_set (i := 3) sc_law.nd rfl (Or.inl rfl) (pe_call GB r5 rfl DB.mgf DB.kp DB.bd .nil pass0 (pa_cons (pv 1) (pa_cons pe_int (pa_cons pe_int (pa_cons (pe_op op_pow pe_int pe_int) pa_nil)))))) ?_
  rintro D σ H ⟨o0, o2, o3, o4, o5, o6, o7, o8, o9, o10, o11, o12, o13, o14, o15, o16, o17, p, c, n, rfl, hP, hn, k⟩
  refine ⟨_, rfl, _, _, rfl, rfl, p30'', p, c, 5, 10, n, _, rfl, hP, by omega, by decide, by decide, by decide, by rw [e30'']; decide, by rw [e30'']; decide, fun H1 t t1 b d S ys ps cs d1 hT hG hC _ _ => ?_⟩
  rw [e30''] at hC
  exact k H1 t t1 b d S ys ps cs d1 ⟨hT, good_mono (by decide) hG, hC⟩ hG.hi
def q1 (CC C : Addr) : TS := fun D σ H => ∃ (o0 o2 o4 o5 o6 o7 o8 o9 o10 o11 o12 o13 o14 o15 o16 o17 : Option V) (p : Addr) (c t t1 b d : Addr) (n : Nat) (S : Str) (ys : List V) (ps : List (Nat × Nat)) (cs : List (Str × Int)), σ = sl o0 (some (.ref p)) o2 (some (.ref t)) o4 o5 o6 o7 o8 o9 o10 o11 o12 o13 o14 o15 o16 o17 ∧ PenAt H p c n ∧ n < 2 ^ 46 ∧ Pl H t t1 b d S ys ps cs ∧ S.length ≤ 5 ∧ ∀ H' a e, DrewP H p c (n + 400) H' → We CC C p c H' t t1 b d a e S ys ps cs [] → D.nx (sl o0 (some (.ref p)) o2 (some (.ref t)) (some (.ref a)) (some (.str S)) (some (.ref e)) o7 o8 o9 o10 o11 o12 o13 o14 o15 o16 o17) H'
theorem st1 {CC C fM : Addr} {fdM : FuncData} (DM : Def K mg "_law_made" fM fdM ["_law_pen_here", "_law_plain_here"]) (GM : FnOk P w K mg base CX0 8 fM fdM ["_law_pen_here", "_law_plain_here"] (sp_cmade CC C)) (hr : LR 12 f cdv A s) : PS (LX P w K mg base f cdv A outer s H0 E) (lawSt 1) (q1 CC C) := by
  have r8 : Room 8 _ := hr.mono (by decide)
  refine PS.weak (ps_asg (pe_tup' (pa_cons (pe_call GM r8 rfl DM.mgf DM.kp DM.bd .nil pass0 (pa_cons (pv 1) (pa_cons (pv 3) pa_nil))) (pa_cons (pe_ix ix_tup (pe_ix ix_tup (pv 3) pe_int (fun _ _ => rfl)) pe_int (fun _ _ => rfl)) (pa_cons pe_dnew' pa_nil))))
    (pg_tup rfl (pgs_cons (pg_name (i := 4) sc_law.nd rfl (Or.inr rfl)) (pgs_cons (pg_name (i := 5) sc_law.nd rfl (Or.inr rfl)) (pgs_cons (pg_name (i := 6) sc_law.nd rfl (Or.inl rfl)) pgs_nil))))) ?_
  rintro D σ H ⟨o0, o2, o4, o5, o6, o7, o8, o9, o10, o11, o12, o13, o14, o15, o16, o17, p, c, t, t1, b, d, n, S, ys, ps, cs, rfl, hP, hn, hT, h5, k⟩
  refine ⟨_, rfl, _, rfl, p, c, t, t1, b, d, n, S, ys, ps, cs, rfl, hP, by omega, hT, fun H1 a d1 ca => ?_⟩
  have T1 := hT.pen hP d1.but
  refine ⟨_, rfl, t, _, _, _, rfl, rfl, SqT.of T1.at_.h0, at0 _ _, t1, _, _, _, rfl, rfl, SqT.of T1.at_.h1, at0 _ _, fun e H2 n2 => ⟨by show 3 ≤ sizeLine; decide, fun q H3 n3 => ?_⟩⟩
  have s3 := n2.same.trans n3.same
  refine ⟨q, _, rfl, SqT.of n3.here, rfl, _, _, rfl, _, _, rfl, _, _, rfl, rfl, ?_⟩
  exact k H3 a e ⟨d1.but.trans (.of s3), d1.pen.same s3⟩ ⟨⟨H1, _, ⟨T1, ca, h5⟩, d1.pen, n2.free, fun b o e _ _ => s3 _ _ e⟩, n3.same _ _ n2.here⟩
end
end My
end
section
set_option Elab.async false
set_option linter.all false
set_option maxRecDepth 100000
set_option maxHeartbeats 4000000
namespace My
open PySem PySem.Spec PyProof.Rows L2 LamX
theorem case_ins {H : Hp} {CC C a : Addr} {S : Str} {ps : List (Nat × Nat)} {cs : List (Str × Int)} (h : CaseAt H CC C a S ps cs) : ∃ dx fs, H a = some (.ins CC dx fs) ∧ List.lookup ("bearing" : Str) fs = none := by
  obtain ⟨dx, fa, d, t, ys, h1, _⟩ := h.at_
  exact ⟨dx, _, h1, rfl⟩
theorem csok_of {S : Str} {cs : List (Str × Int)} (h : CsB S cs) : CsOk S cs := ⟨h.nd, h.inS, h.len⟩
theorem bearL_get {S : Str} {D : List (Nat × Nat)} {cs : List (Str × Int)} {l : List Str} {z : Str} (h : z ∈ l) : ctK (bearL S D cs l) z = some (bearN S D cs z.cps.toList) := by
  induction l with
  | nil => cases h
  | cons y l ih =>
    by_cases e : y = z
    · subst e
      exact ctK_pos rfl
    · refine (ctK_neg (e := (y, bearN S D cs y.cps.toList)) (h := bearL S D cs l) e).trans ?_
      exact ih ((List.mem_cons.mp h).resolve_left fun q => e q.symm)
section
variable {P : Program} {w : World} {K : PySem.W.Frag} {mg : Str → Option Value} {base : Heap} {f : Addr} {cdv : Value} {A : Around} {outer : List Env} {s : Shared} {H0 : Hp} {E : XK}
def q2 (TT : List (Addr × Str)) (CC C : Addr) : TS := fun D σ H => ∃ (o0 o2 o7 o8 o9 o10 o11 o12 o13 o14 o15 o16 o17 : Option V) (p : Addr) (c t t1 b d a e : Addr) (n : Nat) (S : Str) (ys : List V) (ps : List (Nat × Nat)) (cs : List (Str × Int)), σ = sl o0 (some (.ref p)) o2 (some (.ref t)) (some (.ref a)) (some (.str S)) (some (.ref e)) o7 o8 o9 o10 o11 o12 o13 o14 o15 o16 o17 ∧ PenAt H p c n ∧ n < 2 ^ 46 ∧ We CC C p c H t t1 b d a e S ys ps cs [] ∧ Tabs TT H ∧ ∀ H' o7 o8, PenAt H' p c (n + 400) → We CC C p c H' t t1 b d a e S ys ps cs (setsL S) → Tabs TT H' → D.nx (sl o0 (some (.ref p)) o2 (some (.ref t)) (some (.ref a)) (some (.str S)) (some (.ref e)) o7 o8 o9 o10 o11 o12 o13 o14 o15 o16 o17) H'
theorem st2 {TT : List (Addr × Str)} {CC C IS fT fS fB fL : Addr} {fdT fdS fdB fdL : FuncData} (T : TB mg) (DT : Def K mg "_law_sets" fT fdT ["_law_signs"]) (GT : FnOk P w K mg base CX0 3 fT fdT ["_law_signs"] (sp_sets TT))
    (DS : Def K mg "_law_shuffled" fS fdS ["_law_pen_here", "_law_items"]) (GS : FnOk P w K mg base CX0 2 fS fdS ["_law_pen_here", "_law_items"] (sp_shuf K))
    (cl : Cls K CC) (MB : Meth K CC "bearing" fB) (GB : FnOk P w K mg base (L2.CX P w) 5 fB fdB ["self", "signs"] (sp_bear K CC C IS)) (bB : Binds K fdB ["self", "signs"] [])
    (DL : Def K mg "_law_bearing" fL fdL ["_law_plain_here", "_law_some"]) (GL : FnOk P w K mg base CX0 3 fL fdL ["_law_plain_here", "_law_some"] sp_lbear)
    (g : (A.deeper (envOfC "law" (defScope s_law) s.heap.objs.size f cdv)).guards = some []) (hr : LR 12 f cdv A s) : PS (LX P w K mg base f cdv A outer s H0 E) (lawSt 2) (q2 TT CC C) := by
  have r3 : Room 3 _ := hr.mono (by decide)
  have r2 : Room 2 _ := hr.mono (by decide)
  have r5 : Room 5 _ := hr.mono (by decide)
  have hu64 : (A.deeper (envOfC "law" (defScope s_law) s.heap.objs.size f cdv)).units + 64 < cLine := by have := hr.un; omega
  have hu : (A.deeper (envOfC "law" (defScope s_law) s.heap.objs.size f cdv)).units + 1 < cLine := by omega
  refine PS.weak (ps_for PassesOwn.never rfl (pi_list (pe_call GT r3 rfl DT.mgf DT.kp DT.bd .nil pass0 (pa_cons (pv 5) pa_nil))) (pg_name (i := 7) sc_law.nd rfl (Or.inl rfl))
    (pss_cons (ps_set (i := 8) sc_law.nd rfl (Or.inl rfl) (pe_join pe_str (pe_call GS r2 rfl DS.mgf DS.kp DS.bd .nil pass0 (pa_cons (pv 1) (pa_cons (pv 7) pa_nil)))))
    (pss_cons (ps_dput hu (pv 6) (pv 7) (pe_meth (C := CC) (E := E0) (pv 4) cl MB GB r5 bB .nil passN (pa_cons (pv 8) pa_nil)) rfl)
    (pss_one (ps_if (pt_cmpR op_ne (pe_callB (id := "repr") (call_reprD g hu64) (by rfl) T.repr (by decide +kernel) (pa_cons (pe_dget hu (pv 6) (pv 7) (fun _ _ => rfl)) pa_nil))
      (pe_callB (id := "repr") (call_reprD g hu64) (by rfl) T.repr (by decide +kernel) (pa_cons (pe_call GL r3 rfl DL.mgf DL.kp DL.bd .nil pass0 (pa_cons (pv 3) (pa_cons (pv 7) pa_nil))) pa_nil)) (nomark _)) (pss_one (ps_ret pe_bl)) pss_nil))))) ?_
  rintro D σ H ⟨o0, o2, o7, o8, o9, o10, o11, o12, o13, o14, o15, o16, o17, p, c, t, t1, b, d, a, e, n, S, ys, ps, cs, rfl, hP, hn, hW, hTb, k⟩
  have S5 := hW.wk.S5
  have hpl := hW.wk.pl
  have hS10 := hpl.good.hi
  have nd := hpl.good.nd
  have no := hpl.no
  refine ⟨_, rfl, S, rfl, hS10, hTb, fun H1 r e1 T1 h1 => ?_⟩
  have W1 := hW.ext e1
  have P1 := pen_ext e1 hP
  have ln : ((setsL S).map V.str).length ≤ 32 := by
    rw [List.length_map, setsL_len]
    exact Nat.pow_le_pow_right (by decide) S5
  refine ⟨r, rfl, ⟨_, SqL.of h1⟩, ?_⟩
  refine for_it (walk_list (xs := (setsL S).map V.str)) (fun i σ' H' => ∃ (o7 o8 : Option V), σ' = sl o0 (some (.ref p)) o2 (some (.ref t)) (some (.ref a)) (some (.str S)) (some (.ref e)) o7 o8 o9 o10 o11 o12 o13 o14 o15 o16 o17 ∧ PenAt H' p c (n + 5 * i) ∧ We CC C p c H' t t1 b d a e S ys ps cs ((setsL S).take i) ∧ Tabs TT H' ∧ H' r = some (.lst ((setsL S).map V.str)))
    ⟨o7, o8, rfl, P1, by rw [List.take_zero]; exact W1, T1, h1⟩ (fun i σ' H' hi z => by obtain ⟨_, _, _, _, _, _, z⟩ := z; exact SqL.of z) ?_ ?_
  · rintro i x σ' H2 H2' hi ⟨o7, o8, rfl, P2, W2, T2, hr2⟩ ⟨rfl, hx⟩
    have hi : i < ((setsL S).map V.str).length := hi
    have hi32 : i < 32 := Nat.lt_of_lt_of_le hi ln
    have hi' : i < (setsL S).length := by rw [List.length_map] at hi; exact hi
    have hz : (setsL S)[i]? = some (setsL S)[i] := List.getElem?_eq_getElem hi'
    generalize (setsL S)[i] = z at hz
    obtain rfl : x = .str z := by
      have hx : ((setsL S).map V.str)[i]? = some x := hx
      rw [List.getElem?_map, hz] at hx
      exact (Option.some.inj hx).symm
    have mz := List.mem_of_getElem? hz
    obtain ⟨l, rfl, sub⟩ := setsL_mem.mp mz
    have zl : S.cps.toList.length = S.length := Array.length_toList
    have l5 : l.length ≤ 5 := by
      have := sub.length_le
      omega
    have lz : (signs (mkS l)).length = l.length := by rw [signs_len, mkS_len]
    have nx : (setsL S).take (i + 1) = (setsL S).take i ++ [mkS l] := by
      rw [List.take_add_one, hz]
      rfl
    have nw : mkS l ∉ (setsL S).take i := fun q => by
      have ndT := (setsL_nd nd).sublist (List.take_sublist (i + 1) (setsL S))
      rw [nx, List.nodup_append] at ndT
      exact ndT.2.2 _ q _ List.mem_cons_self rfl
    have rp : r ≠ p := P2.neL hr2
    refine ⟨⟨_, rfl⟩, _, rfl, _, rfl, p, c, .str (mkS l), signs (mkS l), n + 5 * i, rfl, P2, by rw [lz]; omega, .str (by rw [mkS_len]; exact Nat.le_trans l5 (by decide)), by rw [lz]; omega, fun H3 r3 vs d3 _ h3 perm => ?_⟩
    obtain ⟨m, rfl, pm⟩ := perm_signs (l := l) perm
    refine ⟨_, r3, m.map fun c => (⟨#[c]⟩ : Str), rfl, rfl, .inl (SqL.of (by rw [h3, List.map_map]; rfl)), ?_, ?_⟩
    · rw [sum_ones]
      have e0 : (PySem.Str.ofString "").length = 0 := by decide
      rw [e0, Nat.mul_zero, Nat.add_zero, pm.length_eq]
      exact Nat.le_trans l5 (by decide)
    rw [join_sg]
    rw [lz] at d3
    have W3 := W2.pen P2 d3.but
    have T3 := tabs_but P2 d3.but T2
    have hr3 := d3.but _ _ rp hr2
    have P3 := d3.pen
    have wk3 := W3.wk
    have set3 : setD S (.str (mkS m)) = true := by
      rw [setD_str]
      show (decide m.Nodup && m.all fun c => decide (c ∈ S.cps.toList)) = true
      rw [decide_eq_true (pm.nodup_iff.mpr (nd.sublist sub)), Bool.true_and, List.all_eq_true]
      exact fun c hc => decide_eq_true (sub.subset (pm.mem_iff.mp hc))
    obtain ⟨dx, fs, hins, hlk⟩ := case_ins wk3.ca
    refine ⟨_, rfl, a, dx, fs, rfl, hins, hlk, _, rfl, a, p, S, Dq S ps, cs, .str (mkS m), .str (mkS m), rfl, wk3.ca, hS10, nd, no, csok_of hpl.csb, .str _ _, by show (mkS m).length ≤ 4000; rw [mkS_len, pm.length_eq]; omega, (fun q => by rw [set3] at q; cases q), fun z' ez _ H4 s4 => ?_⟩
    injection ez with ez
    subst ez
    have W4 := W3.same s4
    have P4 := P3.same s4
    have T4 := LamX.Tabs.ext T3 s4
    have hr4 := s4 _ _ hr3
    have eB : bearN S (Dq S ps) cs (mkS m).cps.toList = bearN S (Dq S ps) cs (mkS l).cps.toList := bear_perm pm
    rw [eB]
    refine ⟨_, rfl, _, rfl, e, _, rfl, dput_toS W4.fo ?_, ?_⟩
    · unfold bearL
      rw [List.length_map, List.length_take]
      exact Nat.lt_of_le_of_lt (show min i (setsL S).length ≤ 32 by omega) (by decide)
    obtain ⟨eu, W5⟩ := W4.put nw
    rw [eu]
    have P5 : PenAt (upd H4 e (.dK (toS (bearL S (Dq S ps) cs ((setsL S).take i ++ [mkS l]))))) p c (n + 5 * i + l.length) := pen_updK P4 W4.fo
    have T5 : Tabs TT (upd H4 e (.dK (toS (bearL S (Dq S ps) cs ((setsL S).take i ++ [mkS l]))))) := tabs_upd W4.fo T4
    have hr5 : (upd H4 e (.dK (toS (bearL S (Dq S ps) cs ((setsL S).take i ++ [mkS l]))))) r = some (.lst ((setsL S).map V.str)) := by
      rw [upd_ne (ne_of hr4 W4.fo (by intro z; cases z))]
      exact hr4
    generalize upd H4 e (HO.dK (toS (bearL S (Dq S ps) cs ((setsL S).take i ++ [mkS l])))) = H5 at W5 P5 T5 hr5 ⊢
    rw [← nx] at W5
    have dg := dget_toS (mkS l) W5.fo
    rw [bearL_get (by rw [nx]; exact List.mem_append_right _ List.mem_cons_self)] at dg
    obtain ⟨b0, bb⟩ := bear_bd (Dq S ps) hpl.csb (mkS l).cps.toList
    have sh := sho_int bb
    refine ⟨_, rfl, _, rfl, e, _, rfl, dg, _, _, p, rfl, .int _ _, sh.shw, Nat.le_trans sh.len (by decide), Nat.le_trans sh.dep (by decide), ?_⟩
    refine ⟨_, rfl, _, rfl, t, t1, b, d, S, ys, ps, cs, l, rfl, W5.wk.pl, fun H6 s6 => ?_⟩
    refine ⟨_, .int _, p, rfl, .int _ _, sh.shw, Nat.le_trans sh.len (by decide), Nat.le_trans sh.dep (by decide), rfl, _, rfl, ?_⟩
    rw [decide_eq_true rfl]
    refine iteF ⟨_, _, rfl, (P5.same s6).mono (by omega), W5.same s6, LamX.Tabs.ext T5 s6, s6 _ _ hr5⟩
  · rintro σ' H2 ⟨o7, o8, rfl, P2, W2, T2, _⟩
    have P2 : PenAt H2 p c (n + 5 * ((setsL S).map V.str).length) := P2
    have W2 : We CC C p c H2 t t1 b d a e S ys ps cs ((setsL S).take ((setsL S).map V.str).length) := W2
    rw [List.length_map, List.take_length] at W2
    exact k H2 o7 o8 (P2.mono (by omega)) W2 T2
end
end My
end
section
set_option Elab.async false
set_option linter.all false
set_option maxRecDepth 100000
set_option maxHeartbeats 4000000
namespace My
open PySem PySem.Spec PyProof.Rows L2 LamX
/-- bearings of two sets and of what they share -/
theorem bs_add {pA pB pU pC : Str × Int → Bool} : ∀ {cs : List (Str × Int)}, (∀ e ∈ cs, 0 ≤ e.2) → (∀ e ∈ cs, pU e = true → pA e = true ∨ pB e = true) → (∀ e ∈ cs, pC e = true → pA e = true ∧ pB e = true) →
    ((cs.filter pU).map (·.2)).sum + ((cs.filter pC).map (·.2)).sum ≤ ((cs.filter pA).map (·.2)).sum + ((cs.filter pB).map (·.2)).sum
  | [], _, _, _ => Int.le_refl _
  | e :: cs, h, hu, hc => by
    have ih := bs_add (cs := cs) (fun x hx => h x (List.mem_cons_of_mem _ hx)) (fun x hx => hu x (List.mem_cons_of_mem _ hx)) (fun x hx => hc x (List.mem_cons_of_mem _ hx))
    have h0 := h e List.mem_cons_self
    have h1 := hu e List.mem_cons_self
    have h2 := hc e List.mem_cons_self
    simp only [List.filter_cons]
    revert h1 h2
    generalize pA e = a
    generalize pB e = b
    generalize pU e = u
    generalize pC e = c
    intro h1 h2
    cases a <;> cases b <;> cases u <;> cases c <;> simp at h1 h2 ⊢ <;> omega
theorem bs_mono {pA pU : Str × Int → Bool} : ∀ {cs : List (Str × Int)}, (∀ e ∈ cs, 0 ≤ e.2) → (∀ e ∈ cs, pA e = true → pU e = true) → ((cs.filter pA).map (·.2)).sum ≤ ((cs.filter pU).map (·.2)).sum
  | [], _, _ => Int.le_refl _
  | e :: cs, h, hu => by
    have ih := bs_mono (cs := cs) (fun x hx => h x (List.mem_cons_of_mem _ hx)) (fun x hx => hu x (List.mem_cons_of_mem _ hx))
    have h0 := h e List.mem_cons_self
    have h1 := hu e List.mem_cons_self
    simp only [List.filter_cons]
    revert h1
    generalize pA e = a
    generalize pU e = u
    intro h1
    cases a <;> cases u <;> simp at h1 ⊢ <;> omega
theorem meets_iff {x Z : List Nat} : meets x Z = true ↔ ∃ c, c ∈ x ∧ c ∈ Z := by
  unfold meets
  rw [List.any_eq_true]
  exact ⟨fun ⟨c, h, q⟩ => ⟨c, h, of_decide_eq_true q⟩, fun ⟨c, h, q⟩ => ⟨c, h, decide_eq_true q⟩⟩
/-- what is in one of two sets, and what is in both -/
abbrev unL (S : Str) (A B : List Nat) : List Nat := S.cps.toList.filter fun c => decide (c ∈ A) || decide (c ∈ B)
abbrev coL (S : Str) (A B : List Nat) : List Nat := S.cps.toList.filter fun c => decide (c ∈ A) && decide (c ∈ B)
theorem bear_two {S : Str} {cs : List (Str × Int)} (D : List (Nat × Nat)) (h : CsB S cs) (A B : List Nat) : bearN S D cs (unL S A B) + bearN S D cs (coL S A B) ≤ bearN S D cs A + bearN S D cs B ∧ bearN S D cs A ≤ bearN S D cs (unL S A B) := by
  have pos : ∀ e ∈ cs, 0 ≤ e.2 := fun e he => (h.bd e he).1
  refine ⟨bs_add pos (fun e _ q => ?_) (fun e _ q => ?_), bs_mono pos fun e _ q => ?_⟩
  · obtain ⟨c, h1, h2⟩ := meets_iff.mp q
    obtain ⟨_, h3⟩ := List.mem_filter.mp h2
    rw [Bool.or_eq_true, decide_eq_true_eq, decide_eq_true_eq] at h3
    exact h3.elim (fun z => .inl (meets_iff.mpr ⟨c, h1, z⟩)) (fun z => .inr (meets_iff.mpr ⟨c, h1, z⟩))
  · obtain ⟨c, h1, h2⟩ := meets_iff.mp q
    obtain ⟨_, h3⟩ := List.mem_filter.mp h2
    rw [Bool.and_eq_true, decide_eq_true_eq, decide_eq_true_eq] at h3
    exact ⟨meets_iff.mpr ⟨c, h1, h3.1⟩, meets_iff.mpr ⟨c, h1, h3.2⟩⟩
  · obtain ⟨c, h1, h2⟩ := meets_iff.mp q
    refine meets_iff.mpr ⟨c, h1, List.mem_filter.mpr ⟨showsZ_in c h1, ?_⟩⟩
    rw [decide_eq_true h2]
    rfl
section
variable {P : Program} {w : World} {K : PySem.W.Frag} {mg : Str → Option Value} {base : Heap} {f : Addr} {cdv : Value} {A : Around} {outer : List Env} {s : Shared} {H0 : Hp} {E : XK}
def q3 (TT : List (Addr × Str)) (CC C : Addr) : TS := fun D σ H => ∃ (o0 o2 o7 o8 o9 o10 o11 o12 o13 o14 o15 o16 o17 : Option V) (p : Addr) (c t t1 b d a e : Addr) (n : Nat) (S : Str) (ys : List V) (ps : List (Nat × Nat)) (cs : List (Str × Int)), σ = sl o0 (some (.ref p)) o2 (some (.ref t)) (some (.ref a)) (some (.str S)) (some (.ref e)) o7 o8 o9 o10 o11 o12 o13 o14 o15 o16 o17 ∧ PenAt H p c n ∧ n < 2 ^ 46 ∧ We CC C p c H t t1 b d a e S ys ps cs (setsL S) ∧ Tabs TT H ∧ ∀ H' o9 o10 o11 o12 o13, PenAt H' p c (n + 20) → We CC C p c H' t t1 b d a e S ys ps cs (setsL S) → Tabs TT H' → D.nx (sl o0 (some (.ref p)) o2 (some (.ref t)) (some (.ref a)) (some (.str S)) (some (.ref e)) o7 o8 o9 o10 o11 o12 o13 o14 o15 o16 o17) H'
theorem st3 {TT : List (Addr × Str)} {CC C fP : Addr} {fdP : FuncData} (T : TB mg) (DP : Def K mg "_law_pick" fP fdP ["_law_pen_here", "_law_options"]) (GP : FnOk P w K mg base CX0 2 fP fdP ["_law_pen_here", "_law_options"] (sp_pick K))
    (hr : LR 12 f cdv A s) : PS (LX P w K mg base f cdv A outer s H0 E) (lawSt 3) (q3 TT CC C) := by
  have r2 : Room 2 _ := hr.mono (by decide)
  have hu : (A.deeper (envOfC "law" (defScope s_law) s.heap.objs.size f cdv)).units + 1 < cLine := by have := hr.un; omega
  refine PS.weak (ps_for PassesOwn.never rfl (pi_range1 rfl T.range (pa_cons pe_int pa_nil)) (pg_name (i := 9) sc_law.nd rfl (Or.inl rfl))
    (pss_cons (ps_asg (pe_tup' (pa_cons (pe_call GP r2 rfl DP.mgf DP.kp DP.bd .nil pass0 (pa_cons (pv 1) (pa_cons (pe_callTy (call_listDn rfl) (by rfl) T.list (by decide +kernel) (pa_cons (pv 6) pa_nil)) pa_nil))) (pa_cons (pe_call GP r2 rfl DP.mgf DP.kp DP.bd .nil pass0 (pa_cons (pv 1) (pa_cons (pe_callTy (call_listDn rfl) (by rfl) T.list (by decide +kernel) (pa_cons (pv 6) pa_nil)) pa_nil))) pa_nil))) (pg_tup rfl (pgs_cons (pg_name (i := 10) sc_law.nd rfl (Or.inr rfl)) (pgs_cons (pg_name (i := 11) sc_law.nd rfl (Or.inr rfl)) pgs_nil))))
    (pss_cons (ps_set (i := 12) sc_law.nd rfl (Or.inl rfl) (pe_join pe_str (by exact (pe_lc (own := [("_law_sign", 17)]) (g := gName 17) rfl sc_law.nd (pi_str (pv 5)) (blkOk_by (own := [("_law_sign", 17)]) (N := LN) (sc := defScope s_law) (by decide +kernel)) (fun _ _ _ _ _ => pg_name (i := 17) sc_law.nd rfl (Or.inl rfl)) (fun _ _ _ _ _ => pts_one (PW.pt (pw_or (pt_cmpR op_in_sign (pv 17) (pv 10) (by rfl)) (pw_or1 (pt_cmpR op_in_sign (pv 17) (pv 11) (by rfl)))))) (fun _ _ _ _ _ => pv 17)))))
    (pss_cons (ps_set (i := 13) sc_law.nd rfl (Or.inl rfl) (pe_join pe_str (by exact (pe_lc (own := [("_law_sign", 17)]) (g := gName 17) rfl sc_law.nd (pi_str (pv 5)) (blkOk_by (own := [("_law_sign", 17)]) (N := LN) (sc := defScope s_law) (by decide +kernel)) (fun _ _ _ _ _ => pg_name (i := 17) sc_law.nd rfl (Or.inl rfl)) (fun _ _ _ _ _ => pts_one (PW.pt (pw_and (pt_cmpR op_in_sign (pv 17) (pv 10) (by rfl)) (pw_and1 (pt_cmpR op_in_sign (pv 17) (pv 11) (by rfl)))))) (fun _ _ _ _ _ => pv 17)))))
    (pss_one (ps_if (PW.pt (pw_or (pt_cmpR op_lt (pe_op op_add (pe_dget hu (pv 6) (pv 10) (fun _ _ => rfl)) (pe_dget hu (pv 6) (pv 11) (fun _ _ => rfl))) (pe_op op_add (pe_dget hu (pv 6) (pv 12) (fun _ _ => rfl)) (pe_dget hu (pv 6) (pv 13) (fun _ _ => rfl))) (nomark _))
      (pw_or1 (pt_cmpR op_gt (pe_dget hu (pv 6) (pv 10) (fun _ _ => rfl)) (pe_dget hu (pv 6) (pv 12) (fun _ _ => rfl)) (nomark _))))) (pss_one (ps_ret pe_bl)) pss_nil)))))) ?_
  rintro D σ H ⟨o0, o2, o7, o8, o9, o10, o11, o12, o13, o14, o15, o16, o17, p, c, t, t1, b, d, a, e, n, S, ys, ps, cs, rfl, hP, hn, hW, hTb, k⟩
  have S5 := hW.wk.S5
  have hpl := hW.wk.pl
  have hS10 := hpl.good.hi
  have nd := hpl.good.nd
  have zl : S.cps.toList.length = S.length := Array.length_toList
  refine ⟨8, rfl, by decide, by decide, for_it (walk_range (lo := 0) (n := (8 : Int).toNat)) (fun i σ' H' => ∃ (o9 o10 o11 o12 o13 : Option V), σ' = sl o0 (some (.ref p)) o2 (some (.ref t)) (some (.ref a)) (some (.str S)) (some (.ref e)) o7 o8 o9 o10 o11 o12 o13 o14 o15 o16 o17 ∧ PenAt H' p c (n + 2 * i) ∧ We CC C p c H' t t1 b d a e S ys ps cs (setsL S) ∧ Tabs TT H')
    ⟨o9, o10, o11, o12, o13, rfl, hP, hW, hTb⟩ (fun _ _ _ _ _ => trivial) ?_ ?_⟩
  · rintro i x σ' H1 H1' hi ⟨o9, o10, o11, o12, o13, rfl, P1, W1, T1⟩ ⟨rfl, rfl⟩
    have hi8 : i < 8 := hi
    have len2 : 0 < ((setsL S).map V.str).length ∧ ((setsL S).map V.str).length ≤ 1000000 := by
      rw [List.length_map, setsL_len]
      refine ⟨Nat.pow_pos (by decide), Nat.le_trans (Nat.pow_le_pow_right (by decide) S5) (by decide)⟩
    have keys : ((toS (bearL S (Dq S ps) cs (setsL S))).map fun kv => kV kv.1) = (setsL S).map V.str := by
      rw [toS_ks, bearL_keys]
    refine ⟨_, rfl, _, rfl, e, _, rfl, W1.fo, fun q1 H2 n2 => ?_⟩
    rw [keys] at n2
    refine ⟨p, c, q1, _, n + 2 * i, rfl, P1.same n2.same, by omega, SqL.of n2.here, fun z => P1.ne n2.free z.symm, len2.1, len2.2, fun H3 v1 d3 hv1 => ?_⟩
    have W3 := (W1.same n2.same).pen (P1.same n2.same) d3.but
    have T3 := tabs_but (P1.same n2.same) d3.but (LamX.Tabs.ext T1 n2.same)
    refine ⟨_, rfl, _, rfl, e, _, rfl, W3.fo, fun q4 H4 n4 => ?_⟩
    rw [keys] at n4
    refine ⟨p, c, q4, _, n + 2 * i + 1, rfl, d3.pen.same n4.same, by omega, SqL.of n4.here, fun z => d3.pen.ne n4.free z.symm, len2.1, len2.2, fun H5 v2 d5 hv2 => ⟨by show 2 ≤ sizeLine; decide, fun q6 H6 n6 => ?_⟩⟩
    have W6 := ((W3.same n4.same).pen (d3.pen.same n4.same) d5.but).same n6.same
    have T6 := LamX.Tabs.ext (tabs_but (d3.pen.same n4.same) d5.but (LamX.Tabs.ext T3 n4.same)) n6.same
    have P6 := d5.pen.same n6.same
    obtain ⟨z1, m1, rfl⟩ := List.mem_map.mp hv1
    obtain ⟨z2, m2, rfl⟩ := List.mem_map.mp hv2
    obtain ⟨A1, rfl, sub1⟩ := setsL_mem.mp m1
    obtain ⟨B1, rfl, sub2⟩ := setsL_mem.mp m2
    refine ⟨q6, _, rfl, SqT.of n6.here, rfl, _, _, rfl, _, _, rfl, rfl, ?_⟩
    -- the union
    have ssm : (signs S).length < sizeLine := by rw [signs_len]; exact Nat.lt_of_le_of_lt hS10 (by decide)
    have sml : ∀ (pr : Nat → Bool), ((((S.cps.toList.filter pr).map fun c => (⟨#[c]⟩ : Str)).map (·.length)).sum + ((S.cps.toList.filter pr).map fun c => (⟨#[c]⟩ : Str)).length * (PySem.Str.ofString "").length ≤ 16777216) := fun pr => by
      rw [sum_ones]
      have e0 : (PySem.Str.ofString "").length = 0 := by decide
      rw [e0, Nat.mul_zero, Nat.add_zero]
      have := List.length_filter_le pr S.cps.toList
      omega
    have fin : ∀ (pr : Nat → Bool) (zs : List V), zs = ((signs S).filter fun x => pr (ofSg x)).map (fun x => x) → zs = ((S.cps.toList.filter pr).map fun c => (⟨#[c]⟩ : Str)).map V.str := fun pr zs ez => by
      rw [ez, List.map_id', List.map_map]
      show (S.cps.toList.map sg).filter _ = _
      rw [filter_sg]
      rfl
    refine ⟨⟨_, rfl⟩, _, rfl, S, rfl, fun D1 hD1 => ?_⟩
    refine lc_ff (walk_signs (z := S)) (fun x => decide (ofSg x ∈ A1) || decide (ofSg x ∈ B1)) (fun x => x) hD1 (fun _ _ => trivial) ssm (fun x => rfl) ?_ ?_ ?_
    · intro x H' C' hx s' hC
      obtain ⟨ch, _, rfl⟩ := mem_signs hx
      refine ⟨_, rfl, _, rfl, ch, mkS A1, rfl, rfl, _, rfl, ?_⟩
      by_cases hA : ch ∈ A1
      · have e1 : decide (ch ∈ (mkS A1).cps.toList) = true := decide_eq_true hA
        rw [e1]
        have := hC H' (Same.refl _)
        rw [show (decide (ofSg (V.str ⟨#[ch]⟩) ∈ A1)) = true from decide_eq_true hA, Bool.true_or] at this
        exact iteT this
      · have e1 : decide (ch ∈ (mkS A1).cps.toList) = false := decide_eq_false hA
        rw [e1]
        have := hC H' (Same.refl _)
        rw [show (decide (ofSg (V.str ⟨#[ch]⟩) ∈ A1)) = false from decide_eq_false hA, Bool.false_or] at this
        exact iteF ⟨_, rfl, _, rfl, ch, mkS B1, rfl, rfl, _, rfl, this⟩
    · intro x H' C' hx _ s' hC
      exact ⟨_, rfl, hC H' (Same.refl _)⟩
    intro H7 s7 h7
    have h7 := (h7.trans (congrArg (fun z => some (HO.lst z)) (fin (fun c => decide (c ∈ A1) || decide (c ∈ B1)) _ rfl)))
    refine ⟨_, D1, _, rfl, rfl, .inl (SqL.of h7), sml _, ?_⟩
    rw [join_sg]
    -- the common ones
    refine ⟨⟨_, rfl⟩, _, rfl, S, rfl, fun D2 hD2 => ?_⟩
    refine lc_ff (walk_signs (z := S)) (fun x => decide (ofSg x ∈ A1) && decide (ofSg x ∈ B1)) (fun x => x) hD2 (fun _ _ => trivial) ssm (fun x => rfl) ?_ ?_ ?_
    · intro x H' C' hx s' hC
      obtain ⟨ch, _, rfl⟩ := mem_signs hx
      refine ⟨_, rfl, _, rfl, ch, mkS A1, rfl, rfl, _, rfl, ?_⟩
      by_cases hA : ch ∈ A1
      · have e1 : decide (ch ∈ (mkS A1).cps.toList) = true := decide_eq_true hA
        rw [e1]
        have := hC H' (Same.refl _)
        rw [show (decide (ofSg (V.str ⟨#[ch]⟩) ∈ A1)) = true from decide_eq_true hA, Bool.true_and] at this
        exact iteT ⟨_, rfl, _, rfl, ch, mkS B1, rfl, rfl, _, rfl, this⟩
      · have e1 : decide (ch ∈ (mkS A1).cps.toList) = false := decide_eq_false hA
        rw [e1]
        have := hC H' (Same.refl _)
        rw [show (decide (ofSg (V.str ⟨#[ch]⟩) ∈ A1)) = false from decide_eq_false hA, Bool.false_and] at this
        exact iteF this
    · intro x H' C' hx _ s' hC
      exact ⟨_, rfl, hC H' (Same.refl _)⟩
    intro H8 s8 h8
    have h8 := (h8.trans (congrArg (fun z => some (HO.lst z)) (fin (fun c => decide (c ∈ A1) && decide (c ∈ B1)) _ rfl)))
    refine ⟨_, D2, _, rfl, rfl, .inl (SqL.of h8), sml _, ?_⟩
    rw [join_sg]
    have W8 := (W6.same s7).same s8
    have g : ∀ (l : List Nat), List.Sublist l S.cps.toList → DGet H8 e (.str (mkS l)) (some (.int (bearN S (Dq S ps) cs l))) := fun l sub => by
      have dg := dget_toS (mkS l) W8.fo
      rw [bearL_get (setsL_mem.mpr ⟨l, rfl, sub⟩)] at dg
      exact dg
    have gU := g (unL S A1 B1) (List.filter_sublist)
    have gC := g (coL S A1 B1) (List.filter_sublist)
    obtain ⟨b1, b2⟩ := bear_two (Dq S ps) hpl.csb A1 B1
    refine ⟨_, rfl, _, rfl, e, _, rfl, g A1 sub1, _, rfl, _, rfl, e, _, rfl, g B1 sub2, _, _, rfl, rfl, ?_⟩
    refine ⟨_, rfl, _, rfl, e, _, rfl, gU, _, rfl, _, rfl, e, _, rfl, gC, _, _, rfl, rfl, _, _, rfl, rfl, _, rfl, ?_⟩
    rw [decide_eq_false (Int.not_lt.mpr b1)]
    refine iteF ⟨_, rfl, _, rfl, e, _, rfl, g A1 sub1, _, rfl, _, rfl, e, _, rfl, gU, _, _, rfl, rfl, _, rfl, ?_⟩
    rw [decide_eq_false (Int.not_lt.mpr b2)]
    exact iteF ⟨_, _, _, _, _, rfl, ((P6.same s7).same s8).mono (by omega), W8, (LamX.Tabs.ext (LamX.Tabs.ext T6 s7) s8)⟩
  · rintro σ' H2 ⟨o9, o10, o11, o12, o13, rfl, P2, W2, T2⟩
    have P2 : PenAt H2 p c (n + 2 * 8) := P2
    exact k H2 o9 o10 o11 o12 o13 (P2.mono (by omega)) W2 T2
end
end My
end
section
set_option Elab.async false
set_option linter.all false
set_option maxRecDepth 100000
set_option maxHeartbeats 4000000
/-! Omul: a text twice: z * 2. -/
namespace My
open PySem PySem.Spec PyProof.Rows L2
theorem op_str2 {X : Cx} : OpR X (binaryOp .Mult) (fun x y H Q => ∃ z : Str, x = .str z ∧ y = .int 2 ∧ 1 ≤ z.length ∧ z.length ≤ 4000 ∧ Q (.str ⟨z.cps ++ z.cps⟩) H) := by
  intro pins s σ H x y v u Q I rx ry h
  obtain ⟨z, rfl, rfl, h1, h2, q⟩ := h
  obtain ⟨t, rfl⟩ := rx
  obtain ⟨t', rfl⟩ := ry
  have e0 : ((2 : Int) == 1 || z.length == 0) = false := by
    have : (z.length == 0) = false := by simp; omega
    rw [this]
    rfl
  refine PySem.P.mul_str (by decide) (fun _ _ => ?_) (fun _ _ => ?_) ?_
  · have : ((2 ^ 63 - 1) / 2 : Int) = 4611686018427387903 := by decide
    omega
  · unfold PySem.Builtin.Str.tooLong
    first
      | (exact decide_eq_false (by show ¬ z.length * 2 > 16777216; omega))
      | (simp; omega)
      | skip
  · rw [if_neg (by decide), e0, if_neg (by decide)]
    have e : (⟨(List.replicate (2 : Int).toNat z.cps).foldl (· ++ ·) #[]⟩ : Str) = ⟨z.cps ++ z.cps⟩ := by
      show (⟨(#[] ++ z.cps) ++ z.cps⟩ : Str) = _
      rw [Array.empty_append]
    rw [e]
    refine ⟨?_, .str ⟨z.cps ++ z.cps⟩, H, I.tok _, ⟨_, rfl⟩, q⟩
    have : (z.cps ++ z.cps).size = z.length + z.length := Array.size_append
    first
      | exact Nat.le_trans (show (z.cps ++ z.cps).size ≤ 8000 by omega) (by decide)
      | skip
end My
end
section
set_option Elab.async false
set_option linter.all false
set_option maxRecDepth 100000
set_option maxHeartbeats 4000000
namespace My
open PySem PySem.Spec PyProof.Rows L2
abbrev s_odd : Stmt := topS 46
/-- some value of any kind -/
def sp_odd (K : PySem.W.Frag) : Sp := fun vs H Q _ => ∃ (p c : Addr) (n : Nat), vs = [.ref p] ∧ PenAt H p c n ∧ n < 2 ^ 60 ∧ ∀ H' v d, DrewP H p c (n + 1) H' → Rp K p H' true v d → fit d = true → d.depth ≤ 4 → d.showable = true → d.shown.length ≤ 200 → lenD d ≤ 100 → Q v H'
section
variable {P : Program} {w : World} {K : PySem.W.Frag} {mg : Str → Option Value} {base : Heap}
theorem sc_odd : FnScope ["_law_pen_here", "_law_some"] ["_law_pen_here"] (defScope s_odd) := ⟨rfl, rfl, rfl, by decide +kernel, rfl, by decide +kernel, by decide +kernel⟩
theorem ok_odd {f fP : Addr} {fd fdP : FuncData} (F : Fun K "_law_odd" "_law_odd" s_odd f fd) (D : Def K mg "_law_pick" fP fdP ["_law_pen_here", "_law_options"]) (G : FnOk P w K mg base CX0 2 fP fdP ["_law_pen_here", "_law_options"] (sp_pick K)) :
    FnOk P w K mg base CX0 3 f fd ["_law_pen_here"] (sp_odd K) := by
  refine F.ok sc_odd (fun vs H Q E h => ?_) (fun cdv A outer s H vs Q E hr h => ?_)
  · obtain ⟨p, c, n, rfl, _⟩ := h
    rfl
  · obtain ⟨p, c, n, rfl, hP, hn, k⟩ := h
    refine ⟨_, pss_cons (ps_set (i := 1) sc_odd.nd rfl (Or.inl rfl) (pe_lst' (pa_cons pe_non (pa_cons pe_bl (pa_cons pe_bl (pa_cons pe_int (pa_cons pe_int (pa_cons (pe_un un_neg pe_int) (pa_cons pe_int (pa_cons pe_int
        (pa_cons (pe_op op_pow pe_int pe_int) (pa_cons (pe_op op_add (pe_op op_pow pe_int pe_int) pe_int) (pa_cons (pe_op op_mulW (pe_op op_pow pe_int pe_int) (pe_op op_pow pe_int pe_int))
        (pa_cons pe_str (pa_cons pe_str (pa_cons pe_str (pa_cons pe_str (pa_cons pe_str (pa_cons pe_str pa_nil)))))))))))))))))))
      (pss_cons (ps_set (i := 1) sc_odd.nd rfl (Or.inl rfl) (pe_op op_cat' (pv 1) (pe_lst' (pa_cons pe_str (pa_cons pe_str (pa_cons pe_str (pa_cons (pe_tup' pa_nil) (pa_cons (pe_lstB pa_nil) (pa_cons pe_dnew' (pa_cons (pe_tup' (pa_cons pe_str pa_nil))
        (pa_cons (pe_lstB (pa_cons pe_str pa_nil)) (pa_cons (pe_disp (pps_cons pe_str pe_int pps_nil) (by rfl) (by rfl) (fun z => by cases z) (by decide)) (pa_cons (pe_tup' (pa_cons pe_str (pa_cons pe_str pa_nil))) (pa_cons (pe_tup' (pa_cons pe_str (pa_cons pe_int pa_nil)))
        (pa_cons (pe_lstB (pa_cons (pe_tup' (pa_cons pe_str (pa_cons pe_int pa_nil))) pa_nil)) (pa_cons pe_str pa_nil))))))))))))))))
      (pss_one (ps_ret (pe_call G hr rfl D.mgf D.kp D.bd .nil pass0 (pa_cons (pv 0) (pa_cons (pv 1) pa_nil)))))), ?_⟩
    have pw : ∀ e : Int, 0 ≤ e → e ≤ 1000000 → CPow 10 e := fun e h1 h2 => ⟨h1, h2, by decide⟩
    have mulw : CMulW ((10 : Int) ^ (49 : Int).toNat) ((10 : Int) ^ (50 : Int).toNat) := by
      refine wide_mul (a := 200) (b := 200) ?_ ?_ (by decide) (by decide) (by decide) <;> decide +kernel
    refine ⟨1, rfl, _, _, rfl, rfl, pw 30 (by decide) (by decide), _, _, rfl, rfl, pw 30 (by decide) (by decide), _, _, rfl, rfl, _, _, rfl, rfl, pw 49 (by decide) (by decide), _, _, rfl, rfl, pw 50 (by decide) (by decide), _, _, rfl, rfl, mulw, by show 17 ≤ sizeLine; decide, fun a H1 n1 => ?_⟩
    refine ⟨_, rfl, by show 0 ≤ sizeLine; decide, fun q1 H2 n2 => ⟨by show 0 ≤ sizeLine; decide, fun q2 H3 b2 n3 => fun q3 H4 n4 => ⟨by show 1 ≤ sizeLine; decide, fun q4 H5 n5 => ⟨by show 1 ≤ sizeLine; decide, fun q5 H6 b5 n6 => fun q6 hq6 => ⟨upd_same, [(.inr "a", .int 1)], rfl, by decide, ?_⟩⟩⟩⟩⟩
    have n7 : New H6 q6 (.dK [(.inr "a", .int 1)]) (upd (upd H6 q6 (.dK [])) q6 (.dK (mergeK [] [(.inr "a", .int 1)]))) := ⟨hq6, upd_same, fun b hb => by rw [upd_ne hb, upd_ne hb]⟩
    generalize upd (upd H6 q6 (HO.dK [])) q6 (HO.dK (mergeK [] [(Sum.inr (PySem.Str.ofString "a"), V.int 1)])) = H7 at n7 ⊢
    refine ⟨by show 2 ≤ sizeLine; decide, fun q7 H8 n8 => ⟨by show 2 ≤ sizeLine; decide, fun q8 H9 n9 => ⟨by show 2 ≤ sizeLine; decide, fun q9 H10 n10 => ⟨by show 1 ≤ sizeLine; decide, fun q10 H11 b10 n11 => ⟨by show 13 ≤ sizeLine; decide, fun b H12 n12 => ?_⟩⟩⟩⟩⟩
    have sB : Same H1 H12 := ((((((((((n2.same.trans n3.same).trans n4.same).trans n5.same).trans n6.same).trans n7.same).trans n8.same).trans n9.same).trans n10.same).trans n11.same).trans n12.same)
    refine ⟨a, b, _, _, rfl, rfl, sB _ _ n1.here, n12.here, by show 30 ≤ sizeLine; decide, fun e H13 n13 => ?_⟩
    have s13 : Same H H13 := (n1.same.trans sB).trans n13.same
    have nep : ∀ {q : Addr} {G : Hp}, Same H G → G q = none → q ≠ p := fun s f z => (hP.same s).ne f z.symm
    have t1 : Same H H1 := n1.same
    have t2 := t1.trans n2.same
    have t3 := t2.trans n3.same
    have t4 := t3.trans n4.same
    have t5 := t4.trans n5.same
    have t6 := t5.trans n6.same
    have t7 := t6.trans n7.same
    have t8 := t7.trans n8.same
    have t9 := t8.trans n9.same
    have t10 := t9.trans n10.same
    have t11 := t10.trans n11.same
    have t12 := t11.trans n12.same
    refine ⟨_, rfl, _, rfl, p, c, e, _, n, rfl, hP.same s13, hn, SqL.of n13.here, nep t12 n13.free, by show 0 < 30; decide, by show 30 ≤ 1000000; decide, fun H14 v d14 hv => ?_⟩
    have dr : DrewP H p c (n + 1) H14 := ⟨(But.of s13).trans d14.but, d14.pen⟩
    have back : ∀ {q : Addr} {o : HO} {G : Hp}, q ≠ p → G q = some o → Same G H13 → H14 q = some o := fun hq hg s => d14.but _ _ hq (s _ _ hg)
    have u12 : Same H12 H13 := n13.same
    have u11 := n12.same.trans u12
    have u10 := n11.same.trans u11
    have u9 := n10.same.trans u10
    have u8 := n9.same.trans u9
    have u7 := n8.same.trans u8
    have u6 := n7.same.trans u7
    have u5 := n6.same.trans u6
    have u4 := n5.same.trans u5
    have u3 := n4.same.trans u4
    have u2 := n3.same.trans u3
    have i1 := back (nep t1 n2.free) n2.here u2
    have i2 := back (nep t2 n3.free) n3.here u3
    have i3 := back (nep t3 n4.free) n4.here u4
    have i4 := back (nep t4 n5.free) n5.here u5
    have i5 := back (nep t5 n6.free) n6.here u6
    have i6 := back (nep t6 n7.free) n7.here u7
    have i7 := back (nep t7 n8.free) n8.here u8
    have i8 := back (nep t8 n9.free) n9.here u9
    have i9 := back (nep t9 n10.free) n10.here u10
    have i10 := back (nep t10 n11.free) n11.here u11
    have fine : ∀ (v : V) (d : PyData), Rp K p H14 true v d → (fit d && decide (d.depth ≤ 4) && d.showable && decide (d.shown.length ≤ 200) && decide (lenD d ≤ 100)) = true → Q v H14 := fun v d hd ho => by
      simp only [Bool.and_eq_true, decide_eq_true_eq] at ho
      exact k H14 v d dr hd ho.1.1.1.1 ho.1.1.1.2 ho.1.1.2 ho.1.2 ho.2
    rcases List.mem_cons.mp hv with rfl | hv
    · exact fine _ _ (.non _) (by decide +kernel)
    rcases List.mem_cons.mp hv with rfl | hv
    · exact fine _ _ (.bl _ _) (by decide +kernel)
    rcases List.mem_cons.mp hv with rfl | hv
    · exact fine _ _ (.bl _ _) (by decide +kernel)
    iterate 8
      rcases List.mem_cons.mp hv with rfl | hv
      · exact fine _ _ (.int _ _) (by decide +kernel)
    iterate 9
      rcases List.mem_cons.mp hv with rfl | hv
      · exact fine _ _ (.str _ _) (by decide +kernel)
    have no : ∀ {P : Prop}, false = true → P := fun z => by cases z
    rcases List.mem_cons.mp hv with rfl | hv
    · exact fine _ (.tuple []) (.tup i1 (nep t1 n2.free) (.nil _)) (by decide +kernel)
    rcases List.mem_cons.mp hv with rfl | hv
    · exact fine _ (.list []) (.lst i2 (nep t2 n3.free) (fun _ => b2) (.nil _)) (by decide +kernel)
    rcases List.mem_cons.mp hv with rfl | hv
    · exact fine _ (.dict (([] : List PyData).zip [])) (.dct i3 (nep t3 n4.free) (.nil _) (.nil _) rfl) (by decide +kernel)
    rcases List.mem_cons.mp hv with rfl | hv
    · exact fine _ (.tuple [.str "a"]) (.tup i4 (nep t4 n5.free) (.cons (.str _ _) (.nil _))) (by decide +kernel)
    rcases List.mem_cons.mp hv with rfl | hv
    · exact fine _ (.list [.str "a"]) (.lst i5 (nep t5 n6.free) (fun _ => b5) (.cons (.str _ _) (.nil _))) (by decide +kernel)
    rcases List.mem_cons.mp hv with rfl | hv
    · exact fine _ (.dict ([PyData.str "a"].zip [PyData.int 1])) (.dct i6 (nep t6 n7.free) (.cons (.str _ _) (.nil _)) (.cons (.int _ _) (.nil _)) rfl) (by decide +kernel)
    rcases List.mem_cons.mp hv with rfl | hv
    · exact fine _ (.tuple [.str "a", .str "a"]) (.tup i7 (nep t7 n8.free) (.cons (.str _ _) (.cons (.str _ _) (.nil _)))) (by decide +kernel)
    rcases List.mem_cons.mp hv with rfl | hv
    · exact fine _ (.tuple [.str "0", .int 1]) (.tup i8 (nep t8 n9.free) (.cons (.str _ _) (.cons (.int _ _) (.nil _)))) (by decide +kernel)
    rcases List.mem_cons.mp hv with rfl | hv
    · exact fine _ (.list [.tuple [.str "0", .int 1]]) (.lst i10 (nep t10 n11.free) (fun _ => b10) (.cons (.tup i9 (nep t9 n10.free) (.cons (.str _ _) (.cons (.int _ _) (.nil _)))) (.nil _))) (by decide +kernel)
    rcases List.mem_cons.mp hv with rfl | hv
    · exact fine _ _ (.str _ _) (by decide +kernel)
    cases hv
end
end My
end
section
set_option Elab.async false
set_option linter.all false
set_option maxRecDepth 100000
set_option maxHeartbeats 4000000
/-! A8T: a value of any kind, and what stands first in it. -/
namespace My
open PySem PySem.Spec PyProof.Rows L2
/-- a short text of plain characters -/
def txS (z : Str) : Bool := decide (z.length ≤ 20) && z.cps.toList.all fun c => decide (c < 128)
def txD : PyData → Bool
  | .str z => txS z
  | .tuple (.str z :: _) => txS z
  | _ => true
/-- what is told of the items of a value -/
def okI : PyData → Bool
  | .list ds => ds.all fun e => e.showable && decide (e.shown.length ≤ 200) && decide (e.depth ≤ 4)
  | .tuple ds => ds.all fun e => e.showable && decide (e.shown.length ≤ 200) && decide (e.depth ≤ 4)
  | _ => true
/-- some value of any kind -/
def sp_oddT (K : PySem.W.Frag) : Sp := fun vs H Q _ => ∃ (p c : Addr) (n : Nat), vs = [.ref p] ∧ PenAt H p c n ∧ n < 2 ^ 60 ∧ ∀ H' v d, DrewP H p c (n + 1) H' → Rp K p H' true v d → fit d = true → d.depth ≤ 4 → d.showable = true → d.shown.length ≤ 200 → lenD d ≤ 100 → txD d = true → okI d = true → Q v H'
section
variable {P : Program} {w : World} {K : PySem.W.Frag} {mg : Str → Option Value} {base : Heap}
theorem ok_oddT {f fP : Addr} {fd fdP : FuncData} (F : Fun K "_law_odd" "_law_odd" s_odd f fd) (D : Def K mg "_law_pick" fP fdP ["_law_pen_here", "_law_options"]) (G : FnOk P w K mg base CX0 2 fP fdP ["_law_pen_here", "_law_options"] (sp_pick K)) :
    FnOk P w K mg base CX0 3 f fd ["_law_pen_here"] (sp_oddT K) := by
  refine F.ok sc_odd (fun vs H Q E h => ?_) (fun cdv A outer s H vs Q E hr h => ?_)
  · obtain ⟨p, c, n, rfl, _⟩ := h
    rfl
  · obtain ⟨p, c, n, rfl, hP, hn, k⟩ := h
    refine ⟨_, pss_cons (ps_set (i := 1) sc_odd.nd rfl (Or.inl rfl) (pe_lst' (pa_cons pe_non (pa_cons pe_bl (pa_cons pe_bl (pa_cons pe_int (pa_cons pe_int (pa_cons (pe_un un_neg pe_int) (pa_cons pe_int (pa_cons pe_int
        (pa_cons (pe_op op_pow pe_int pe_int) (pa_cons (pe_op op_add (pe_op op_pow pe_int pe_int) pe_int) (pa_cons (pe_op op_mulW (pe_op op_pow pe_int pe_int) (pe_op op_pow pe_int pe_int))
        (pa_cons pe_str (pa_cons pe_str (pa_cons pe_str (pa_cons pe_str (pa_cons pe_str (pa_cons pe_str pa_nil)))))))))))))))))))
      (pss_cons (ps_set (i := 1) sc_odd.nd rfl (Or.inl rfl) (pe_op op_cat' (pv 1) (pe_lst' (pa_cons pe_str (pa_cons pe_str (pa_cons pe_str (pa_cons (pe_tup' pa_nil) (pa_cons (pe_lstB pa_nil) (pa_cons pe_dnew' (pa_cons (pe_tup' (pa_cons pe_str pa_nil))
        (pa_cons (pe_lstB (pa_cons pe_str pa_nil)) (pa_cons (pe_disp (pps_cons pe_str pe_int pps_nil) (by rfl) (by rfl) (fun z => by cases z) (by decide)) (pa_cons (pe_tup' (pa_cons pe_str (pa_cons pe_str pa_nil))) (pa_cons (pe_tup' (pa_cons pe_str (pa_cons pe_int pa_nil)))
        (pa_cons (pe_lstB (pa_cons (pe_tup' (pa_cons pe_str (pa_cons pe_int pa_nil))) pa_nil)) (pa_cons pe_str pa_nil))))))))))))))))
      (pss_one (ps_ret (pe_call G hr rfl D.mgf D.kp D.bd .nil pass0 (pa_cons (pv 0) (pa_cons (pv 1) pa_nil)))))), ?_⟩
    have pw : ∀ e : Int, 0 ≤ e → e ≤ 1000000 → CPow 10 e := fun e h1 h2 => ⟨h1, h2, by decide⟩
    have mulw : CMulW ((10 : Int) ^ (49 : Int).toNat) ((10 : Int) ^ (50 : Int).toNat) := by
      refine wide_mul (a := 200) (b := 200) ?_ ?_ (by decide) (by decide) (by decide) <;> decide +kernel
    refine ⟨1, rfl, _, _, rfl, rfl, pw 30 (by decide) (by decide), _, _, rfl, rfl, pw 30 (by decide) (by decide), _, _, rfl, rfl, _, _, rfl, rfl, pw 49 (by decide) (by decide), _, _, rfl, rfl, pw 50 (by decide) (by decide), _, _, rfl, rfl, mulw, by show 17 ≤ sizeLine; decide, fun a H1 n1 => ?_⟩
    refine ⟨_, rfl, by show 0 ≤ sizeLine; decide, fun q1 H2 n2 => ⟨by show 0 ≤ sizeLine; decide, fun q2 H3 b2 n3 => fun q3 H4 n4 => ⟨by show 1 ≤ sizeLine; decide, fun q4 H5 n5 => ⟨by show 1 ≤ sizeLine; decide, fun q5 H6 b5 n6 => fun q6 hq6 => ⟨upd_same, [(.inr "a", .int 1)], rfl, by decide, ?_⟩⟩⟩⟩⟩
    have n7 : New H6 q6 (.dK [(.inr "a", .int 1)]) (upd (upd H6 q6 (.dK [])) q6 (.dK (mergeK [] [(.inr "a", .int 1)]))) := ⟨hq6, upd_same, fun b hb => by rw [upd_ne hb, upd_ne hb]⟩
    generalize upd (upd H6 q6 (HO.dK [])) q6 (HO.dK (mergeK [] [(Sum.inr (PySem.Str.ofString "a"), V.int 1)])) = H7 at n7 ⊢
    refine ⟨by show 2 ≤ sizeLine; decide, fun q7 H8 n8 => ⟨by show 2 ≤ sizeLine; decide, fun q8 H9 n9 => ⟨by show 2 ≤ sizeLine; decide, fun q9 H10 n10 => ⟨by show 1 ≤ sizeLine; decide, fun q10 H11 b10 n11 => ⟨by show 13 ≤ sizeLine; decide, fun b H12 n12 => ?_⟩⟩⟩⟩⟩
    have sB : Same H1 H12 := ((((((((((n2.same.trans n3.same).trans n4.same).trans n5.same).trans n6.same).trans n7.same).trans n8.same).trans n9.same).trans n10.same).trans n11.same).trans n12.same)
    refine ⟨a, b, _, _, rfl, rfl, sB _ _ n1.here, n12.here, by show 30 ≤ sizeLine; decide, fun e H13 n13 => ?_⟩
    have s13 : Same H H13 := (n1.same.trans sB).trans n13.same
    have nep : ∀ {q : Addr} {G : Hp}, Same H G → G q = none → q ≠ p := fun s f z => (hP.same s).ne f z.symm
    have t1 : Same H H1 := n1.same
    have t2 := t1.trans n2.same
    have t3 := t2.trans n3.same
    have t4 := t3.trans n4.same
    have t5 := t4.trans n5.same
    have t6 := t5.trans n6.same
    have t7 := t6.trans n7.same
    have t8 := t7.trans n8.same
    have t9 := t8.trans n9.same
    have t10 := t9.trans n10.same
    have t11 := t10.trans n11.same
    have t12 := t11.trans n12.same
    refine ⟨_, rfl, _, rfl, p, c, e, _, n, rfl, hP.same s13, hn, SqL.of n13.here, nep t12 n13.free, by show 0 < 30; decide, by show 30 ≤ 1000000; decide, fun H14 v d14 hv => ?_⟩
    have dr : DrewP H p c (n + 1) H14 := ⟨(But.of s13).trans d14.but, d14.pen⟩
    have back : ∀ {q : Addr} {o : HO} {G : Hp}, q ≠ p → G q = some o → Same G H13 → H14 q = some o := fun hq hg s => d14.but _ _ hq (s _ _ hg)
    have u12 : Same H12 H13 := n13.same
    have u11 := n12.same.trans u12
    have u10 := n11.same.trans u11
    have u9 := n10.same.trans u10
    have u8 := n9.same.trans u9
    have u7 := n8.same.trans u8
    have u6 := n7.same.trans u7
    have u5 := n6.same.trans u6
    have u4 := n5.same.trans u5
    have u3 := n4.same.trans u4
    have u2 := n3.same.trans u3
    have i1 := back (nep t1 n2.free) n2.here u2
    have i2 := back (nep t2 n3.free) n3.here u3
    have i3 := back (nep t3 n4.free) n4.here u4
    have i4 := back (nep t4 n5.free) n5.here u5
    have i5 := back (nep t5 n6.free) n6.here u6
    have i6 := back (nep t6 n7.free) n7.here u7
    have i7 := back (nep t7 n8.free) n8.here u8
    have i8 := back (nep t8 n9.free) n9.here u9
    have i9 := back (nep t9 n10.free) n10.here u10
    have i10 := back (nep t10 n11.free) n11.here u11
    have fine : ∀ (v : V) (d : PyData), Rp K p H14 true v d → (fit d && decide (d.depth ≤ 4) && d.showable && decide (d.shown.length ≤ 200) && decide (lenD d ≤ 100) && txD d && okI d) = true → Q v H14 := fun v d hd ho => by
      simp only [Bool.and_eq_true, decide_eq_true_eq] at ho
      exact k H14 v d dr hd ho.1.1.1.1.1.1 ho.1.1.1.1.1.2 ho.1.1.1.1.2 ho.1.1.1.2 ho.1.1.2 ho.1.2 ho.2
    rcases List.mem_cons.mp hv with rfl | hv
    · exact fine _ _ (.non _) (by decide +kernel)
    rcases List.mem_cons.mp hv with rfl | hv
    · exact fine _ _ (.bl _ _) (by decide +kernel)
    rcases List.mem_cons.mp hv with rfl | hv
    · exact fine _ _ (.bl _ _) (by decide +kernel)
    iterate 8
      rcases List.mem_cons.mp hv with rfl | hv
      · exact fine _ _ (.int _ _) (by decide +kernel)
    iterate 9
      rcases List.mem_cons.mp hv with rfl | hv
      · exact fine _ _ (.str _ _) (by decide +kernel)
    have no : ∀ {P : Prop}, false = true → P := fun z => by cases z
    rcases List.mem_cons.mp hv with rfl | hv
    · exact fine _ (.tuple []) (.tup i1 (nep t1 n2.free) (.nil _)) (by decide +kernel)
    rcases List.mem_cons.mp hv with rfl | hv
    · exact fine _ (.list []) (.lst i2 (nep t2 n3.free) (fun _ => b2) (.nil _)) (by decide +kernel)
    rcases List.mem_cons.mp hv with rfl | hv
    · exact fine _ (.dict (([] : List PyData).zip [])) (.dct i3 (nep t3 n4.free) (.nil _) (.nil _) rfl) (by decide +kernel)
    rcases List.mem_cons.mp hv with rfl | hv
    · exact fine _ (.tuple [.str "a"]) (.tup i4 (nep t4 n5.free) (.cons (.str _ _) (.nil _))) (by decide +kernel)
    rcases List.mem_cons.mp hv with rfl | hv
    · exact fine _ (.list [.str "a"]) (.lst i5 (nep t5 n6.free) (fun _ => b5) (.cons (.str _ _) (.nil _))) (by decide +kernel)
    rcases List.mem_cons.mp hv with rfl | hv
    · exact fine _ (.dict ([PyData.str "a"].zip [PyData.int 1])) (.dct i6 (nep t6 n7.free) (.cons (.str _ _) (.nil _)) (.cons (.int _ _) (.nil _)) rfl) (by decide +kernel)
    rcases List.mem_cons.mp hv with rfl | hv
    · exact fine _ (.tuple [.str "a", .str "a"]) (.tup i7 (nep t7 n8.free) (.cons (.str _ _) (.cons (.str _ _) (.nil _)))) (by decide +kernel)
    rcases List.mem_cons.mp hv with rfl | hv
    · exact fine _ (.tuple [.str "0", .int 1]) (.tup i8 (nep t8 n9.free) (.cons (.str _ _) (.cons (.int _ _) (.nil _)))) (by decide +kernel)
    rcases List.mem_cons.mp hv with rfl | hv
    · exact fine _ (.list [.tuple [.str "0", .int 1]]) (.lst i10 (nep t10 n11.free) (fun _ => b10) (.cons (.tup i9 (nep t9 n10.free) (.cons (.str _ _) (.cons (.int _ _) (.nil _)))) (.nil _))) (by decide +kernel)
    rcases List.mem_cons.mp hv with rfl | hv
    · exact fine _ _ (.str _ _) (by decide +kernel)
    cases hv
end
end My
end
section
set_option Elab.async false
set_option linter.all false
set_option maxRecDepth 100000
set_option maxHeartbeats 4000000
namespace My
open PySem PySem.Spec PyProof.Rows L2 LamX
theorem cut_mk1 (l : List Nat) (k : Nat) : cutS (mkS l) none (some ((k : Nat) : Int)) = mkS (l.take k) := by
  show (⟨((l.drop (HT.sIx (mkS l).length 0 none)).take (HT.sIx (mkS l).length (mkS l).length (some ((k : Nat) : Int)) - HT.sIx (mkS l).length 0 none)).toArray⟩ : Str) = _
  rw [HT.sIx_none, HT.sIx_nat, List.drop_zero, Nat.sub_zero, mkS_len, ← List.take_eq_take_min]
theorem Rp.hasD' {K : PySem.W.Frag} {p : Addr} {H : Hp} {v : V} {d : PyData} (h : Rp K p H true v d) : Rp K p H d.hasDict v d := h.loose _
theorem str_len {z : Str} {k : Nat} (h : z.length ≤ k) (hc : ∀ c ∈ z.cps.toList, c < 16 ^ 8) : (PyData.str z).shown.length ≤ 10 * k + 2 := by
  refine Nat.le_trans (shown_wt _ ?_) ?_
  · simp only [chr, List.all_eq_true, decide_eq_true_eq]
    exact hc
  · show 10 * z.length + 2 ≤ 10 * k + 2
    omega
section
variable {P : Program} {w : World} {K : PySem.W.Frag} {mg : Str → Option Value} {base : Heap} {f : Addr} {cdv : Value} {A : Around} {outer : List Env} {s : Shared} {H0 : Hp} {E : XK}
def q4 (K : PySem.W.Frag) (TT : List (Addr × Str)) (CC C : Addr) : TS := fun D σ H => ∃ (o0 o2 o7 o8 o9 o10 o11 o12 o13 o14 o15 o16 o17 : Option V) (p : Addr) (c t t1 b d a e : Addr) (n : Nat) (S : Str) (ys : List V) (ps : List (Nat × Nat)) (cs : List (Str × Int)), σ = sl o0 (some (.ref p)) o2 (some (.ref t)) (some (.ref a)) (some (.str S)) (some (.ref e)) o7 o8 o9 o10 o11 o12 o13 o14 o15 o16 o17 ∧ PenAt H p c n ∧ n < 2 ^ 46 ∧ We CC C p c H t t1 b d a e S ys ps cs (setsL S) ∧ Tabs TT H ∧ ∀ H' q vs, PenAt H' p c (n + 1) → We CC C p c H' t t1 b d a e S ys ps cs (setsL S) → Tabs TT H' → H' q = some (.lst vs) → vs.length = 11 → (∀ x ∈ vs, ∃ dd, Shown K p H' x dd) → D.nx (sl o0 (some (.ref p)) o2 (some (.ref t)) (some (.ref a)) (some (.str S)) (some (.ref e)) o7 o8 o9 o10 o11 o12 o13 (some (.ref q)) o15 o16 o17) H'
theorem st4 {TT : List (Addr × Str)} {CC C fO : Addr} {fdO : FuncData} (DO : Def K mg "_law_odd" fO fdO ["_law_pen_here"]) (GO : FnOk P w K mg base CX0 3 fO fdO ["_law_pen_here"] (sp_oddT K))
    (hr : LR 12 f cdv A s) : PS (LX P w K mg base f cdv A outer s H0 E) (lawSt 4) (q4 K TT CC C) := by
  have r3 : Room 3 _ := hr.mono (by decide)
  refine PS.weak (ps_set (i := 14) sc_law.nd rfl (Or.inl rfl) (pe_lst' (pa_cons (pe_op op_add_str (pv 5) (pe_ix ix_str (pv 5) pe_int (fun _ _ => rfl))) (pa_cons (pe_op op_str2 (pe_ix ix_str (pv 5) pe_int (fun _ _ => rfl)) pe_int) (pa_cons pe_str (pa_cons pe_str
    (pa_cons (pe_op op_add_str (pe_slice sl_str (pv 5) po_none (po_some pe_int)) pe_str) (pa_cons pe_non (pa_cons pe_int (pa_cons (pe_lst' pa_nil) (pa_cons (pe_lst' (pa_cons (pv 5) pa_nil)) (pa_cons (pe_tup' (pa_cons (pe_ix ix_str (pv 5) pe_int (fun _ _ => rfl)) pa_nil))
    (pa_cons (pe_call GO r3 rfl DO.mgf DO.kp DO.bd .nil pass0 (pa_cons (pv 1) pa_nil)) pa_nil))))))))))))) ?_
  rintro D σ H ⟨o0, o2, o7, o8, o9, o10, o11, o12, o13, o14, o15, o16, o17, p, c, t, t1, b, d, a, e, n, S, ys, ps, cs, rfl, hP, hn, hW, hTb, k⟩
  have S5 := hW.wk.S5
  have hpl := hW.wk.pl
  have hG := hpl.good
  have zl : S.cps.toList.length = S.length := Array.length_toList
  have hz : S.length ≤ sizeLine := Nat.le_trans S5 (by decide)
  have abS : ∀ c ∈ S.cps.toList, c < 16 ^ 8 := fun c hc => alpha_small c (hG.ab c hc)
  have lo := hG.lo
  obtain ⟨x0, hx0⟩ : ∃ a, S.cps.toList[0]? = some a := ⟨S.cps.toList[0]'(by omega), by simp [show 0 < S.cps.toList.length by omega]⟩
  have a0 : atI S.cps.toList (0 : Int) = some x0 := atI_nat (j := 0) hx0
  have sx := abS x0 (List.mem_of_getElem? hx0)
  have cut1 : (cutS S none (some (1 : Int))).length ≤ 1 ∧ ∀ c ∈ (cutS S none (some (1 : Int))).cps.toList, c < 16 ^ 8 := by
    have e := cut_mk1 S.cps.toList 1
    rw [mkS_self] at e
    have e : cutS S none (some (1 : Int)) = mkS (S.cps.toList.take 1) := e
    rw [e]
    refine ⟨by rw [mkS_len, List.length_take]; omega, fun c hc => abS c (List.mem_of_mem_take (by simpa using hc))⟩
  refine ⟨_, rfl, _, rfl, _, _, _, rfl, rfl, hz, a0, _, _, rfl, rfl, ?_, ?_⟩
  · show S.length + 1 ≤ sizeLine
    exact Nat.le_trans (show S.length + 1 ≤ 6 by omega) (by decide)
  refine ⟨_, rfl, _, _, _, rfl, rfl, hz, a0, _, rfl, rfl, by show 1 ≤ 1; decide, by show 1 ≤ 4000; decide, ?_⟩
  refine ⟨_, rfl, 1, rfl, S, rfl, hz, _, _, rfl, rfl, ?_, ?_⟩
  · show (cutS S none (some (1 : Int))).length + 1 ≤ sizeLine
    exact Nat.le_trans (show _ ≤ 2 by omega) (by decide)
  refine ⟨by show 0 ≤ sizeLine; decide, fun q1 H1 n1 => ⟨_, rfl, by show 1 ≤ sizeLine; decide, fun q2 H2 n2 => ⟨_, rfl, _, _, _, rfl, rfl, hz, a0, by show 1 ≤ sizeLine; decide, fun q3 H3 n3 => ?_⟩⟩⟩
  have s3 := (n1.same.trans n2.same).trans n3.same
  have P3 := hP.same s3
  refine ⟨_, rfl, p, c, n, rfl, P3, by omega, fun H4 v1 d1 dr1 rp1 fit1 dep1 shw1 len1 _ _ _ => ⟨by show 11 ≤ sizeLine; decide, fun q H5 n5 => ?_⟩⟩
  have q1p : q1 ≠ p := fun z => hP.ne n1.free z.symm
  have q2p : q2 ≠ p := fun z => (hP.same n1.same).ne n2.free z.symm
  have q3p : q3 ≠ p := fun z => ((hP.same n1.same).same n2.same).ne n3.free z.symm
  have s5 := n5.same
  have i1 : H5 q1 = some (.lst []) := s5 _ _ (dr1.but _ _ q1p (n3.same _ _ (n2.same _ _ n1.here)))
  have i2 : H5 q2 = some (.lst [V.str S]) := s5 _ _ (dr1.but _ _ q2p (n3.same _ _ n2.here))
  have i3 : H5 q3 = some (.tup [V.str ⟨#[x0]⟩]) := s5 _ _ (dr1.but _ _ q3p n3.here)
  have no : ∀ {P : Prop}, false = true → P := fun z => by cases z
  refine k H5 q _ (dr1.pen.same s5) (((hW.same s3).pen P3 dr1.but).same s5) (LamX.Tabs.ext (tabs_but P3 dr1.but (LamX.Tabs.ext hTb s3)) s5) n5.here rfl fun x hx => ?_
  rcases List.mem_cons.mp hx with rfl | hx
  · refine ⟨_, shown_str ?_ fun c hc => ?_⟩
    · show (S.cps ++ #[x0]).size ≤ 10
      rw [Array.size_append]
      show S.length + 1 ≤ 10
      omega
    · have hc : c ∈ (S.cps ++ #[x0]).toList := hc
      rw [Array.toList_append] at hc
      rcases List.mem_append.mp hc with hc | hc
      · exact abS c hc
      · rw [List.mem_singleton.mp hc]
        exact sx
  rcases List.mem_cons.mp hx with rfl | hx
  · refine ⟨_, shown_str (by show 2 ≤ 10; decide) fun c hc => ?_⟩
    have hc : c ∈ [x0, x0] := hc
    have : c = x0 := by simpa using hc
    rw [this]
    exact sx
  rcases List.mem_cons.mp hx with rfl | hx
  · exact ⟨_, shown_str (by decide) (by decide)⟩
  rcases List.mem_cons.mp hx with rfl | hx
  · exact ⟨_, shown_str (by decide) (by decide)⟩
  rcases List.mem_cons.mp hx with rfl | hx
  · refine ⟨_, shown_str ?_ fun c hc => ?_⟩
    · show ((cutS S none (some (1 : Int))).cps ++ #[32]).size ≤ 10
      rw [Array.size_append]
      show (cutS S none (some (1 : Int))).length + 1 ≤ 10
      omega
    · have hc : c ∈ ((cutS S none (some (1 : Int))).cps ++ #[32]).toList := hc
      rw [Array.toList_append] at hc
      rcases List.mem_append.mp hc with hc | hc
      · exact cut1.2 c hc
      · rw [List.mem_singleton.mp hc]
        decide
  rcases List.mem_cons.mp hx with rfl | hx
  · exact ⟨.none, .non _, rfl, by decide, rfl, by decide⟩
  rcases List.mem_cons.mp hx with rfl | hx
  · exact ⟨.int 0, .int _ _, rfl, by decide, by decide +kernel, by decide +kernel⟩
  rcases List.mem_cons.mp hx with rfl | hx
  · exact ⟨.list [], .lst i1 q1p no (.nil _), rfl, by decide, by decide +kernel, by decide +kernel⟩
  rcases List.mem_cons.mp hx with rfl | hx
  · refine ⟨.list [.str S], .lst i2 q2p no (.cons (.str _ _) (.nil _)), ?_, (show 1 ≤ 4 by decide), rfl, ?_⟩
    · show (decide (1 ≤ 4000) && (decide (S.length ≤ 4000) && true)) = true
      rw [decide_eq_true (show S.length ≤ 4000 by omega)]
      rfl
    · have h1 := list_le [(PyData.str S).shown]
      have h2 := str_len (k := 5) S5 abS
      have h3 : ([(PyData.str S).shown].map (·.length)).sum = (PyData.str S).shown.length := by simp
      have h4 : [(PyData.str S).shown].length = 1 := rfl
      show (listText [(PyData.str S).shown]).length ≤ 200
      omega
  rcases List.mem_cons.mp hx with rfl | hx
  · refine ⟨.tuple [.str ⟨#[x0]⟩], .tup i3 q3p (.cons (.str _ _) (.nil _)), rfl, (show 1 ≤ 4 by decide), rfl, ?_⟩
    have h1 := tuple_le [(PyData.str ⟨#[x0]⟩).shown]
    have h2 := str_len (z := ⟨#[x0]⟩) (k := 5) (by show 1 ≤ 5; decide) fun c hc => by
      have : c = x0 := by simpa using hc
      rw [this]
      exact sx
    have h3 : ([(PyData.str ⟨#[x0]⟩).shown].map (·.length)).sum = (PyData.str ⟨#[x0]⟩).shown.length := by simp
    have h4 : [(PyData.str ⟨#[x0]⟩).shown].length = 1 := rfl
    show (tupleText [(PyData.str ⟨#[x0]⟩).shown]).length ≤ 200
    omega
  rcases List.mem_cons.mp hx with rfl | hx
  · exact ⟨d1, (Rp.hasD' rp1).but (.of s5), fit1, dep1, shw1, len1⟩
  cases hx
end
end My
end
section
set_option Elab.async false
set_option linter.all false
set_option maxRecDepth 100000
set_option maxHeartbeats 4000000
namespace My
open PySem PySem.Spec PyProof.Rows L2
/-! ### try with several clauses, each «except C as n», one name n in slot i -/
abbrev Cl : Type := Value × (Addr → Value → Option Addr → TS)
inductive Clauses (X : Cx) (n : Str) : List ExceptHandler → List Cl → Prop
  | done : Clauses X n [] []
  | more {x : Str} {c : Value} {ts : Addr → Value → Option Addr → TS} {s0 : Stmt} {rest : List Stmt} {px py : Pos} {hs : List ExceptHandler} {l : List Cl} (named : Names X x c)
      (suite : ∀ (a : Addr) (oe : Obj) (cls : Value) (d : Option Addr) (pn : List (Addr × Obj)), Zc cls d oe → (∃ vs, oe.data = .fields vs) → PSs (X.suite a ((a, oe) :: pn)) (s0 :: rest) (ts a cls d)) (tl : Clauses X n hs l) :
      Clauses X n (.ExceptHandler (some (.Name x px)) (some n) (s0 :: rest) py :: hs) ((c, ts) :: l)
/-- where the suite of a clause goes on: its name is gone -/
def bare (i : Nat) (D : Ends) : Ends := { nx := fun σ H => D.nx (σ.set i none) H, rt := D.rt, bk := fun σ H => D.bk (σ.set i none) H, ct := fun σ H => D.ct (σ.set i none) H }
def wCl (K : PySem.W.Frag) (i : Nat) (out : WX) (D : Ends) : List Cl → WX
  | [] => out
  | q :: l => fun cls d σ H => ∃ hit, PySem.W.exmOne K cls q.1 = some hit ∧ (hit = true → ∀ a, H a = none → q.2 a cls d (bare i D) (σ.set i (some (.ref a))) H) ∧ (hit = false → wCl K i out D l cls d σ H)
theorem ps_try_cl {X : Cx} {n : Str} {i : Nat} {body : List Stmt} {h1 : ExceptHandler} {hs : List ExceptHandler} {l : List Cl} {pos : Pos} {tb : WX → TS} {out : WX}
    (st : X.stack = X.env :: X.outer) (fr : X.env.frame = some X.env.locals) (nd : X.N.Nodup) (at_ : X.N[i]? = some n) (kn : X.env.kindOf n = some .local) (tk : Takes X out)
    (hb : ∀ (W : WX) (pn : List (Addr × Obj)) (xe : Value → Shared → Prop), Takes (X.tr pn xe) W → PassesOwn (model X.prog X.w) X.A X.env xe → PSs (X.tr pn xe) body (tb W)) (hc : Clauses X n (h1 :: hs) l) :
    PS X (.Try body (h1 :: hs) [] [] pos) (fun D σ H => tb (wCl X.K i out D l) D σ H) := by
  constructor
  intro pins s σ H D I want
  have okX := I.ok
  have frs_ : X.A.frames = some (X.env :: X.outer) := okX.frames.trans (congrArg some st)
  apply wpAny_Try_except
  let caught : Value → Shared → Prop := fun e t => wpAny (model X.prog X.w) X.A (noteFrame e X.env) (fun _ t2 => wpAny (model X.prog X.w) X.A (setFlight e none) (fun _ t3 => wpAny (model X.prog X.w) X.A (handleBy e X.env (h1 :: hs)) (SP X pins D) X.xe t3) X.xe t2) X.xe t
  have takes : Takes (X.tr (X.pn ++ pins) caught) (wCl X.K i out D l) := by
    intro u sU fly
    obtain ⟨a, B, sI, pins2, σ2, H2, cls, d, rfl, Jt, fresh, ups, sk, an, eos, gs, wish⟩ := fly
    have J := Jt.ofTry okX
    rw [st] at sk
    have notF : ∀ {hp : Heap} {ob : Obj} {fv : Array Value}, hp.FunFrames B (X.env :: X.outer) → hp.get? a = some ob → ob.data = .fields fv → a ∉ frs (X.env :: X.outer) := by
      intro hp ob fv ff ea ed mem
      obtain ⟨_, ob2, eb, no⟩ := ff.mem mem
      rw [Option.some.inj (ea.symm.trans eb)] at ed
      exact no _ ed
    show wpAny _ _ (noteFrame (.ref a) X.env) _ _ _
    apply Sky.land Zc.steady frs_ fr sk
    intro ha fa ua
    have Ja : Inv X pins σ2 H2 { sU with heap := ha } := J.landed fresh fa.1 (ups.trans ua) eos gs
    obtain ⟨oa, va, ea, za, da⟩ := fa.there
    have nof := notF fa.2.2.1 ea da
    have noL : a ≠ X.env.locals := by
      intro z
      apply nof
      rw [frs, List.mem_filterMap]
      exact ⟨X.env, List.mem_cons_self, fr.trans (congrArg some z.symm)⟩
    have noS : a ∉ X.fs := by
      intro mem
      obtain ⟨e, me, q⟩ := List.mem_filterMap.mp mem
      apply nof
      rw [frs, List.mem_filterMap]
      exact ⟨e, List.mem_cons_of_mem _ me, q⟩
    have Sa := Ja.suite ea da an noL noS
    suffices look : ∀ (hs' : List ExceptHandler) (l' : List Cl), Clauses X n hs' l' → wCl X.K i out D l' cls d σ2 H2 → wpAny (model X.prog X.w) X.A (handleBy (.ref a) X.env hs') (SP X pins D) X.xe { sU with heap := ha } from look _ _ hc wish
    intro hs' l' cc
    induction cc with
    | done =>
      intro wo
      apply wpAny_handleBy_nil
      obtain ⟨_, _, _, ob, fv, Tt, _, _, e1, _, e3, e4, _⟩ := id fa
      unfold PySem.passOn
      apply wpAny_bind
      apply wpAny_field e1 e3 e4
      rw [if_neg (fun z => by simp at z)]
      have leave : wpAny (model X.prog X.w) X.A (setFlight (.ref a) X.env.frame) (fun _ t => wpAny (model X.prog X.w) X.A (throw (.ref a) : Sem Flow) (SP X pins D) X.xe t) X.xe { sU with heap := ha } := by
        rw [fr]
        apply HandSPX.setFlight_upZ fa
        intro hz held uz
        apply wpAny_throw
        apply tk
        refine ⟨a, B, sI, pins, σ2, H2, cls, d, rfl, J, fresh, (ups.trans ua).trans uz, ?_, an, eos, gs, wo⟩
        rw [st]
        exact Or.inr (Or.inr held)
      first
        | exact wpAny_bind leave
        | exact wpAny_bind (wpAny_pure (wpAny_bind leave))
    | @more x c ts s0 rest px py hs2 l2 named suite tl ih =>
      intro wo
      obtain ⟨hit, e1, yes, no⟩ := wo
      refine wpAny_handleBy_cons (codeAny_handlers_test ?_) (fun q => by cases q)
      have isC : PySem.W.Looks (model X.prog X.w) ha (typeOf (.ref a)) cls := by
        intro A' Q' E' t kp q
        apply wpAny_typeOf_ref (kp _ _ ea)
        rw [za.1]
        exact q
      have ask := PySem.W.exm_one (M := model X.prog X.w) Ja.kIn isC e1
      have name_ : ∀ (Q' : Value → Shared → Prop) (E' : Value → Shared → Prop), Q' c { sU with heap := ha } → wpAny (model X.prog X.w) (X.A.mark (some (.ref a))) (eval (.Name x px) X.env) Q' E' { sU with heap := ha } := by
        intro Q' E' q
        obtain ⟨gl, nodbg, known⟩ := named
        rcases known with m1 | ⟨m1, m2, m3⟩
        · exact ld_glob (X := X.suite a ((a, oa) :: (X.pn ++ pins))) Sa gl m1 q nodbg
        · exact ld_blt (X := X.suite a ((a, oa) :: (X.pn ++ pins))) Sa gl m1 m2 q m3 nodbg
      apply name_
      apply ask.here
      cases hit with
      | false => exact ih (no rfl)
      | true =>
        apply codeAny_handlers_suite_as
        apply HandSPX.lands_againZ fa
        intro hq fq uq
        have Jq : Inv X pins σ2 H2 { sU with heap := hq } := J.landed fresh fq.1 ((ups.trans ua).trans uq) eos gs
        obtain ⟨oq, vq, eq, zq, dq⟩ := fq.there
        have Sq := Jq.suite eq dq an noL noS
        apply store_ok (X := X.suite a ((a, oq) :: (X.pn ++ pins))) (v := .ref a) Sq nd at_ (Or.inl kn) rfl ?_ (Or.inr kn)
        intro t5 S5
        have gone : ∀ {σ6 : L2.St} {H6 : Hp} {t6 : Shared} {R : Shared → Prop}, Inv (X.suite a ((a, oq) :: (X.pn ++ pins))) [] σ6 H6 t6 → (∀ t7, Inv X pins (σ6.set i none) H6 t7 → R t7) → wpAny (model X.prog X.w) X.A (do bindName X.env n .none; unbindBehindTheSuite X.env n py) (fun _ t7 => R t7) X.xe t6 := by
          intro σ6 H6 t6 R S6 q
          exact gone_ok (S6.unsuite okX) nd at_ kn q
        apply wpAny_mono ((suite a oq cls d (X.pn ++ pins) zq ⟨_, dq⟩).run [] t5 _ H2 _ S5 (yes rfl a an)) ?_ (fun _ _ z => False.elim z)
        intro fl t6 ends
        match fl, ends with
        | .next, ⟨σ6, H6, S6, q⟩ => exact gone S6 fun t7 J7 => ⟨_, _, J7, q⟩
        | .brk, ⟨σ6, H6, S6, q⟩ => exact gone S6 fun t7 J7 => ⟨_, _, J7, q⟩
        | .cont, ⟨σ6, H6, S6, q⟩ => exact gone S6 fun t7 J7 => ⟨_, _, J7, q⟩
        | .ret u, ⟨v6, σ6, H6, S6, r6, q⟩ => exact gone S6 fun t7 J7 => ⟨_, _, _, J7, r6, q⟩
  refine wpAny_mono ((hb _ (X.pn ++ pins) caught takes PassesOwn.looking).run [] s σ H D (I.toTry _) want) (fun fl t ends => ?_) (fun _ _ z => z)
  match fl, ends with
  | .next, ⟨σ', H', J', q⟩ => exact wpAny_execs_nil ⟨σ', H', J'.ofTry okX, q⟩
  | .brk, ⟨σ', H', J', q⟩ => exact ⟨σ', H', J'.ofTry okX, q⟩
  | .cont, ⟨σ', H', J', q⟩ => exact ⟨σ', H', J'.ofTry okX, q⟩
  | .ret u, ⟨v, σ', H', J', r, q⟩ => exact ⟨v, σ', H', J'.ofTry okX, r, q⟩
end My
end
section
set_option Elab.async false
set_option linter.all false
set_option maxRecDepth 100000
set_option maxHeartbeats 4000000
/-! Qtold6: what a law tells of a call that is asked with what is no set. -/
namespace My
open PySem PySem.Spec PyProof.Rows L2 LamX
abbrev s_told6 : Stmt := topS 58
def TT6 (IS : Addr) : (XK → Hp → VK → Prop) → Hp → VK → Prop := fun tl H Q => tl (fun cls d H' => cls = .ref IS ∧ ∃ (dd : Addr) (v : V), d = some dd ∧ H' dd = some (.xd [("value", v)]) ∧ ∀ p H2, New H' p (.tup [.str "signs", v]) H2 → Q (.ref p) H2) H (fun v H' => 2 ≤ sizeLine ∧ ∀ p H2, New H' p (.tup [.str "ok", v]) H2 → Q (.ref p) H2)
/-- what is known of the errors -/
structure Told6 (K : PySem.W.Frag) (mg : Str → Option Value) (IS fIS : Addr) : Prop where
  is_ : ErrC K mg "InvalidSigns" "value" "InvalidSigns.__init__" "ValueError" "ValueError.__new__" "ValueError.__init__" bmValue bmValue IS fIS
  hk : mg "ValueError" = none
  up : PySem.W.kitOne K (.ref IS) (.type "ValueError") = some true
  no : ∀ x ∈ (["InvalidKind", "InvalidNumber", "TooFew", "TooMany", "OtherFont"] : List Str), ∃ U, mg x = some (.ref U) ∧ PySem.W.exmOne K (.ref IS) (.ref U) = some false
theorem sc_told6 : FnScope ["_law_call", "e"] ["_law_call"] (defScope s_told6) := ⟨rfl, rfl, rfl, by decide +kernel, rfl, by decide +kernel, by decide +kernel⟩
theorem at1_2 {σ : L2.St} {x : Option V} (h : σ.length = 2) : (σ.set 1 x)[1]? = some x := by
  rw [List.getElem?_set_self (by omega)]
theorem takes_two {X : Cx} {W : WX} (t : Takes X W) : Takes X (fun c d σ H => σ.length = X.N.length → W c d σ H) := fun u s' ⟨a, B, sI, pins, σ, H, cls, d, e, I, nb, up, sky, na, os, ag, w⟩ =>
  t u s' ⟨a, B, sI, pins, σ, H, cls, d, e, I, nb, up, sky, na, os, ag, w I.len⟩
theorem told6_gives {X : Cx} {g IS fIS : Addr} {cdg : Value} {q : Str} (L : Told6 X.K X.mg IS fIS) (hi : X.mg "isinstance" = none) :
    GivesTo X ["_law_call", "e"] "_law_told" (defScope s_told6) g cdg (defBody s_told6) "_law_call" q (TT6 IS) := by
  obtain ⟨IK, gK, k1⟩ := L.no "InvalidKind" (by simp)
  obtain ⟨IN, gN, k2⟩ := L.no "InvalidNumber" (by simp)
  obtain ⟨TF, gF, k3⟩ := L.no "TooFew" (by simp)
  obtain ⟨TM, gM, k4⟩ := L.no "TooMany" (by simp)
  obtain ⟨OF, gO, k5⟩ := L.no "OtherFont" (by simp)
  intro f c' s H Q tl act hc h
  refine ⟨_, pss_one (ps_try_cl (X := (cxOf C8.CX0 X.prog X.w X.K X.mg X.base ["_law_call", "e"] "_law_told" (defScope s_told6) g cdg X.A X.stack s H C8.E0).nox) (n := "e") (i := 1) (out := fun _ _ _ _ => False)
      (tb := fun W D σ H => ∃ Ech : XK, (∀ cls d σ' H', Ech cls d H' → σ'.length = 2 → W cls d σ' H') ∧ σ[0]? = some (some (.ref f)) ∧ H c' = some (CodeO c' q) ∧ tl Ech H (fun v H' => 2 ≤ sizeLine ∧ ∀ p H2, New H' p (.tup [.str "ok", v]) H2 → D.rt (.ref p) H2))
      rfl rfl sc_told6.nd rfl rfl L2.takes0 (fun W pn xe tk _ => ?B)
      (.more (c := .ref IK) ⟨(by rfl), (by decide), .inl gK⟩ (fun a oe cls d pn hz hf => pss_one ps_never)
      (.more (c := .ref IN) ⟨(by rfl), (by decide), .inl gN⟩ (fun a oe cls d pn hz hf => pss_one ps_never)
      (.more (c := .ref TF) ⟨(by rfl), (by decide), .inl gF⟩ (fun a oe cls d pn hz hf => pss_one ps_never)
      (.more (c := .ref TM) ⟨(by rfl), (by decide), .inl gM⟩ (fun a oe cls d pn hz hf => pss_one ps_never)
      (.more (c := .ref OF) ⟨(by rfl), (by decide), .inl gO⟩ (fun a oe cls d pn hz hf => pss_one ps_never)
      (.more (c := .ref IS) ⟨(by rfl), (by decide), .inl L.is_.gC⟩ (fun a oe cls d pn hz hf => pss_one (ps_ret (pe_tup' (pa_cons (pe_ifExp (pt_val (pe_callB (id := "isinstance") (call_isUp hz) (by rfl) hi (by decide +kernel) (pa_cons (pv 1) (pa_cons (pe_bltn (v := .ty "ValueError") (by rfl) L.hk (by decide +kernel) rfl) pa_nil))))
        pe_str pe_str) (pa_cons (pe_errF L.is_ hz hf (pv 1)) pa_nil))))) .done))))))), ?_⟩
  case B =>
    refine ⟨fun pins s' σ H' D I h' => ?_⟩
    obtain ⟨Ech, hW, h1, h2, h3⟩ := h'
    exact (pss_one (ps_ret (pe_tup' (pa_cons pe_str (pa_cons (act _ pn xe Ech _ _ (takes_two tk) hW) pa_nil))))).run pins s' σ H' D I ⟨h1, h2, h3⟩
  · refine ⟨fun cls d H' => cls = .ref IS ∧ ∃ (dd : Addr) (v : V), d = some dd ∧ H' dd = some (.xd [("value", v)]) ∧ ∀ p H2, New H' p (.tup [.str "signs", v]) H2 → Q (.ref p) H2, fun cls d σ' H' told hl => ?_, rfl, hc, h⟩
    obtain ⟨rfl, dd, v, rfl, hv, k⟩ := told
    refine ⟨false, k1, fun z => Bool.noConfusion z, fun _ => ⟨false, k2, fun z => Bool.noConfusion z, fun _ => ⟨false, k3, fun z => Bool.noConfusion z, fun _ => ⟨false, k4, fun z => Bool.noConfusion z, fun _ => ⟨false, k5, fun z => Bool.noConfusion z, fun _ => ⟨true, L.is_.te, fun _ a0 _ => ?_, fun z => Bool.noConfusion z⟩⟩⟩⟩⟩⟩
    refine ⟨.ref a0, at1_2 hl, .ty "ValueError", .type "ValueError", rfl, fun u hu => hu, L.up, rfl, _, rfl, iteT ?_⟩
    exact ⟨.ref a0, at1_2 hl, rfl, rfl, dd, v, rfl, hv, by show 2 ≤ sizeLine; decide, fun p H2 n2 => k p H2 n2⟩
end My
end
section
set_option Elab.async false
set_option linter.all false
set_option maxRecDepth 100000
set_option maxHeartbeats 4000000
namespace My
open PySem PySem.Spec PyProof.Rows L2
/-- xs == [], xs a list of anything -/
def qEqNil (K : PySem.W.Frag) : R2 := fun x y H Q => ∃ a b xs, x = .ref a ∧ y = .ref b ∧ SqL K H a xs ∧ H b = some (.lst []) ∧ Q (.bl xs.isEmpty) H
theorem op_eqNil {X : Cx} (hu : X.A.units < cLine) : OpR X (compareOp .Eq) (qEqNil X.K) := by
  intro pins s σ H x y v u Q I rx ry h
  obtain ⟨a, b, xs, rfl, rfl, ha, hb, q⟩ := h
  cases rx
  cases ry
  obtain ⟨its, r1, p1, _⟩ := I.list ha
  obtain ⟨its2, r2, p2, _⟩ := I.list (SqL.of hb : SqL X.K H b [])
  cases r2
  cases r1 with
  | nil => exact SeqAt.RcAt.lists (e := fun _ => true) p1.isList p2.isList rfl hu (fun j h1 _ => absurd h1 (by simp)) X.prog X.w X.xe _ ⟨.bl _, H, I, rfl, q⟩
  | cons _ _ => exact SeqAt.RcAt.lists_lengths p1.isList p2.isList (by simp) hu X.prog X.w X.xe _ ⟨.bl _, H, I, rfl, q⟩
end My
end
section
set_option Elab.async false
set_option linter.all false
set_option maxRecDepth 100000
set_option maxHeartbeats 4000000
namespace My
open PySem PySem.Spec PyProof.Rows L2 LamX
theorem op_notin_sign {X : Cx} : OpR X (compareOp .NotIn) (fun x y H Q => ∃ (c : Nat) (z : Str), x = .str ⟨#[c]⟩ ∧ y = .str z ∧ Q (.bl (!decide (c ∈ z.cps.toList))) H) := by
  intro pins s σ H x y v u Q I rx ry h
  obtain ⟨c, z, rfl, rfl, q⟩ := h
  refine op_notin_str pins s σ H _ _ v u Q I rx ry ⟨_, _, rfl, rfl, ?_⟩
  rw [PySem.StrLaws.found_one]
  exact q
/-- ("signs", v) -/
theorem Shown.signsT {K : PySem.W.Frag} {p : Addr} {H : Hp} {v : V} {d : PyData} {r : Addr} (h : Shown K p H v d) (hr : H r = some (.tup [.str "signs", v])) (n : r ≠ p) : Rp K p H false (.ref r) (.tuple [.str "signs", d]) := by
  refine .tup hr n (.cons (.str _ _) (.cons ?_ (.nil _)))
  show Rp K p H (d.hasDict || false) v d
  rw [Bool.or_false]
  exact h.rp
theorem signs_data {d : PyData} (h1 : d.showable = true) (h2 : d.shown.length ≤ 200) (h3 : d.depth ≤ 4) : (PyData.tuple [.str "signs", d]).showable = true ∧ (PyData.tuple [.str "signs", d]).shown.length ≤ sizeLine ∧ (PyData.tuple [.str "signs", d]).depth ≤ 60 := by
  refine ⟨?_, ?_, ?_⟩
  · show (true && (d.showable && true)) = true
    rw [h1]; rfl
  · have e : (PyData.tuple [.str "signs", d]).shown.length ≤ d.shown.length + 100 := by
      have := tuple_le [(PyData.str "signs").shown, d.shown]
      have e1 : (PyData.str "signs").shown.length = 7 := by decide +kernel
      have e2 : ([(PyData.str "signs").shown, d.shown].map (·.length)).sum = 7 + d.shown.length := by simp [e1]
      rw [e2] at this
      show (tupleText [(PyData.str "signs").shown, d.shown]).length ≤ _
      simp only [List.length_cons, List.length_nil] at this
      omega
    have : (1000 : Nat) ≤ sizeLine := by decide
    omega
  · show max 0 (max d.depth 0) + 1 ≤ 60
    omega
abbrev TQ (PL PZ : Addr) : List (Addr × Str) := [(PL, lamQ), (PZ, qSets)]
theorem set_two {S z : Str} : setD S (.str z) = (decide z.cps.toList.Nodup && (z.cps.toList.filter fun c => !decide (c ∈ S.cps.toList)).isEmpty) := by
  rw [setD_str]
  congr 1
  generalize z.cps.toList = l
  induction l with
  | nil => rfl
  | cons a l ih =>
    rw [List.all_cons, List.filter_cons]
    cases h : decide (a ∈ S.cps.toList) with
    | true =>
      rw [Bool.true_and, ih]
      rfl
    | false =>
      rw [Bool.false_and]
      rfl
section
variable {P : Program} {w : World} {K : PySem.W.Frag} {mg : Str → Option Value} {base : Heap} {f : Addr} {A : Around} {outer : List Env} {s : Shared} {H0 : Hp} {E : XK}
/-- the rest of a turn of the inner loop, for a value that is no set -/
theorem st5b {CC C IS fIS fM fB PL PZ cL : Addr} {fdM fdB : FuncData}
    (T : TB mg) (L6 : Told6 K mg IS fIS) (FM : Fun K "_law_told" "_law_told" s_told6 fM fdM) (DM : Def K mg "_law_told" fM fdM ["_law_call"])
    (cl : Cls K CC) (MB : Meth K CC "bearing" fB) (GB : FnOk P w K mg base (L2.CX P w) 5 fB fdB ["self", "signs"] (sp_bear K CC C IS)) (bB : Binds K fdB ["self", "signs"] [])
    (tb : TabB base mg cL PL) (ne : PL ≠ PZ) (g : (A.deeper (envOfC "law" (defScope s_law) s.heap.objs.size f (.ref cL))).guards = some []) (hr : LR 12 f (.ref cL) A s) :
    ∃ t, PS (LX P w K mg base f (.ref cL) A outer s H0 E) (nth (forBody (lawSt 5)) 2) t ∧ ∀ (D : Ends) (H : Hp) (o0 o2 o7 o8 o9 o10 o11 o12 o13 o17 : Option V) (rs : Bool) (q : Addr) (v : V) (dd : PyData) (p c t1' t1 b d a e : Addr) (n : Nat) (S : Str) (ys : List V) (ps : List (Nat × Nat)) (cs : List (Str × Int)),
      PenAt H p c n → We CC C p c H t1' t1 b d a e S ys ps cs (setsL S) → Tabs (TQ PL PZ) H → Shown K p H v dd → setD S dd = false →
      (∀ H', ExtN H H' → Tabs (TQ PL PZ) H' → D.nx (sl o0 (some (.ref p)) o2 (some (.ref t1')) (some (.ref a)) (some (.str S)) (some (.ref e)) o7 o8 o9 o10 o11 o12 o13 (some (.ref q)) (some v) (some (.bl rs)) o17) H') → t D (sl o0 (some (.ref p)) o2 (some (.ref t1')) (some (.ref a)) (some (.str S)) (some (.ref e)) o7 o8 o9 o10 o11 o12 o13 (some (.ref q)) (some v) (some (.bl rs)) o17) H := by
  have hu64 : (A.deeper (envOfC "law" (defScope s_law) s.heap.objs.size f (.ref cL))).units + 64 < cLine := by have := hr.un; omega
  have r7 : Room 7 _ := hr.mono (by decide)
  obtain ⟨ocM, odM, kVM, docM, pmM, anM, cdM, ctM, oslM, rfl, lkM, hcM⟩ := FM.ex
  have hu : ∀ e ∈ TQ PL PZ, e.1 = PL → e.2 = lamQ := fun e he h => by
    rcases List.mem_cons.mp he with rfl | he
    · rfl
    · rw [List.mem_singleton.mp he] at h
      exact absurd h.symm ne
  refine ⟨_, ps_if (pt_cmpR op_ne
      (pe_callB (id := "repr") (call_reprD g hu64) (by rfl) T.repr (by decide +kernel) (pa_cons (pe_lamcall (T := TQ PL PZ) (k := 5) (by rfl) DM.mgf DM.kp lkM hcM DM.bd sc_told6 rfl (Or.inl rfl) (told6_gives L6 T.isi) tb rfl List.mem_cons_self
          hu r7 (lamS_by (by show lamSB (defScope s_law) _ = true; decide +kernel)) rfl (fun _ _ _ _ _ => rfl) (fun A' outer' s' H' E' f' c' hr' => pe_meth (C := CC) (E := E') (pv 4) cl MB GB hr' bB .nil (passes_call (takes_of rfl rfl rfl rfl) (fun _ _ _ _ h => h)) (pa_cons (pv 15) pa_nil))) pa_nil))
      (pe_callB (id := "repr") (call_reprD g hu64) (by rfl) T.repr (by decide +kernel) (pa_cons (pe_tup' (pa_cons pe_str (pa_cons (pv 15) pa_nil))) pa_nil)) (nomark _)) (pss_one (ps_ret pe_bl)) pss_nil, ?_⟩
  intro D H o0 o2 o7 o8 o9 o10 o11 o12 o13 o17 rs q v dd p c t1' t1 b d a e n S ys ps cs hP hW hT hd hs k
  have t4 : textFits 4000 dd := fit.text hd.fit
  obtain ⟨q1, q2, q3⟩ := signs_data hd.shw hd.len hd.dep
  refine ⟨hT, fun H1 e1 T1 => ?_⟩
  have hd1 := hd.ext e1
  have W1 := hW.ext e1
  have P1 := pen_ext e1 hP
  have wk1 := W1.wk
  have hpl := wk1.pl
  obtain ⟨dx, fs, hins, hlk⟩ := case_ins wk1.ca
  refine ⟨_, rfl, a, dx, fs, rfl, hins, hlk, _, rfl, a, p, S, Dq S ps, cs, v, dd, rfl, wk1.ca, hpl.good.hi, hpl.good.nd, hpl.no, csok_of hpl.csb, hd1.rp.loose2, t4, fun _ => fun Hc de sc hde hx => ⟨rfl, de, v, rfl, hx, fun r2 H2 n2 => ?_⟩, fun z ez hz => by rw [hs] at hz; cases hz⟩
  have s12 : Same H1 H2 := sc.trans n2.same
  have np2 : r2 ≠ p := fun e => (P1.same sc).ne n2.free e.symm
  refine ⟨_, _, p, rfl, (hd1.same s12).signsT n2.here np2, q1, q2, q3, ?_⟩
  refine ⟨_, rfl, by show 2 ≤ sizeLine; decide, fun r3 H3 n3 => ?_⟩
  have s13 := s12.trans n3.same
  have np3 : r3 ≠ p := fun e => (P1.same s12).ne n3.free e.symm
  refine ⟨_, _, p, rfl, (hd1.same s13).signsT n3.here np3, q1, q2, q3, rfl, _, rfl, ?_⟩
  rw [decide_eq_true rfl]
  exact iteF (k H3 (e1.trans (.of s13)) (LamX.Tabs.ext T1 s13))
def q5 (K : PySem.W.Frag) (CC C PL PZ : Addr) : TS := fun D σ H => ∃ (o0 o2 o7 o8 o9 o10 o11 o12 o13 o15 o16 o17 : Option V) (p : Addr) (c t t1 b d a e : Addr) (n : Nat) (S : Str) (ys : List V) (ps : List (Nat × Nat)) (cs : List (Str × Int)) (q : Addr) (vs : List V), σ = sl o0 (some (.ref p)) o2 (some (.ref t)) (some (.ref a)) (some (.str S)) (some (.ref e)) o7 o8 o9 o10 o11 o12 o13 (some (.ref q)) o15 o16 o17 ∧ PenAt H p c n ∧ We CC C p c H t t1 b d a e S ys ps cs (setsL S) ∧ Tabs (TQ PL PZ) H ∧ H q = some (.lst vs) ∧ vs.length = 11 ∧ (∀ x ∈ vs, ∃ dd, Shown K p H x dd) ∧ ∀ H' o15 o16, ExtN H H' → Tabs (TQ PL PZ) H' → D.nx (sl o0 (some (.ref p)) o2 (some (.ref t)) (some (.ref a)) (some (.str S)) (some (.ref e)) o7 o8 o9 o10 o11 o12 o13 (some (.ref q)) o15 o16 o17) H'
theorem st5 {CC C IS fIS fM fB PL PZ cL : Addr} {fdM fdB : FuncData}
    (T : TB mg) (L6 : Told6 K mg IS fIS) (FM : Fun K "_law_told" "_law_told" s_told6 fM fdM) (DM : Def K mg "_law_told" fM fdM ["_law_call"])
    (cl : Cls K CC) (MB : Meth K CC "bearing" fB) (GB : FnOk P w K mg base (L2.CX P w) 5 fB fdB ["self", "signs"] (sp_bear K CC C IS)) (bB : Binds K fdB ["self", "signs"] [])
    (tb : TabB base mg cL PL) (ne : PL ≠ PZ) (g : (A.deeper (envOfC "law" (defScope s_law) s.heap.objs.size f (.ref cL))).guards = some []) (hr : LR 12 f (.ref cL) A s) :
    PS (LX P w K mg base f (.ref cL) A outer s H0 E) (lawSt 5) (q5 K CC C PL PZ) := by
  obtain ⟨tb3, hb3, hk3⟩ := st5b (A := A) (outer := outer) (s := s) (H0 := H0) (E := E) (f := f) T L6 FM DM cl MB GB bB tb ne g hr
  refine PS.weak (ps_for PassesOwn.never rfl (pi_list (pv 14)) (pg_name (i := 15) sc_law.nd rfl (Or.inr rfl))
    (pss_cons (ps_set (i := 16) sc_law.nd rfl (Or.inl rfl) (pe_and (pe_callB call_isi (by rfl) T.isi (by decide +kernel) (pa_cons (pv 15) (pa_cons (pe_bltn (v := .ty "str") (by rfl) T.str (by decide +kernel) rfl) pa_nil)))
      (pe_one (pe_cmpR op_eq (pe_lenSet (by rfl) T.len (by rfl) T.set (pv 15)) (pe_callB call_len (by rfl) T.len PySem.boot_len (pa_cons (pv 15) pa_nil)) (nomark _)))))
    (pss_cons (ps_if (PW.pt (pw_and (pt_val (pv 16)) (pw_and1 (pt_cmpR (op_eqNil hr.units0) (by exact (pe_lc (own := [("_law_sign", 17)]) (g := gName 17) rfl sc_law.nd (pi_str (pv 15)) (blkOk_by (own := [("_law_sign", 17)]) (N := LN) (sc := defScope s_law) (by decide +kernel)) (fun _ _ _ _ _ => pg_name (i := 17) sc_law.nd rfl (Or.inl rfl)) (fun _ _ _ _ _ => pts_one (pt_cmpR op_notin_sign (pv 17) (pv 5) (by rfl))) (fun _ _ _ _ _ => pv 17))) (pe_lst' pa_nil) (nomark _))))) (pss_one ps_continue) pss_nil)
    (pss_one hb3)))) ?_
  rintro D σ H ⟨o0, o2, o7, o8, o9, o10, o11, o12, o13, o15, o16, o17, p, c, t, t1, b, d, a, e, n, S, ys, ps, cs, q, vs, rfl, hP, hW, hTb, hq, hl, all, k⟩
  refine ⟨_, rfl, q, rfl, ⟨_, SqL.of hq⟩, ?_⟩
  refine for_it (walk_list (xs := vs)) (fun i σ' H' => ∃ o15 o16 : Option V, σ' = sl o0 (some (.ref p)) o2 (some (.ref t)) (some (.ref a)) (some (.str S)) (some (.ref e)) o7 o8 o9 o10 o11 o12 o13 (some (.ref q)) o15 o16 o17 ∧ ExtN H H' ∧ Tabs (TQ PL PZ) H') ⟨o15, o16, rfl, ExtN.refl H, hTb⟩ (fun i σ' H' _ z => by obtain ⟨_, _, _, x7, _⟩ := z; exact SqL.of (x7 _ _ hq fun _ z => by cases z)) ?_ ?_
  · rintro i x σ' H1' H1 hi ⟨o15, o16, rfl, x1, T1⟩ ⟨rfl, hx⟩
    obtain ⟨dd, hd0⟩ := all x (List.mem_of_getElem? hx)
    have hd := hd0.ext x1
    have W1 := hW.ext x1
    have P1 := pen_ext x1 hP
    have end3 : ∀ (DD : Ends) (rs : Bool) (H2 : Hp), Same H1 H2 → setD S dd = false → (∀ H3, ExtN H H3 → Tabs (TQ PL PZ) H3 → DD.nx (sl o0 (some (.ref p)) o2 (some (.ref t)) (some (.ref a)) (some (.str S)) (some (.ref e)) o7 o8 o9 o10 o11 o12 o13 (some (.ref q)) (some x) (some (.bl rs)) o17) H3) → tb3 DD (sl o0 (some (.ref p)) o2 (some (.ref t)) (some (.ref a)) (some (.str S)) (some (.ref e)) o7 o8 o9 o10 o11 o12 o13 (some (.ref q)) (some x) (some (.bl rs)) o17) H2 := fun DD rs H2 s2 hs kk =>
      hk3 DD H2 o0 o2 o7 o8 o9 o10 o11 o12 o13 o17 rs q x dd p c t t1 b d a e n S ys ps cs (P1.same s2) (W1.same s2) (LamX.Tabs.ext T1 s2) (hd.same s2) hs fun H3 e3 T3 => kk H3 (x1.trans ((ExtN.of s2).trans e3)) T3
    refine ⟨_, rfl, _, _, _, _, _, rfl, .ty "str", hd.rp.ty, kit_str dd, _, rfl, ?_⟩
    cases dd with
    | str z =>
      cases hd.rp
      have hz : z.length ≤ 4000 := by
        have := fit.text hd.fit
        exact this
      refine iteT ⟨_, rfl, z, rfl, hz, _, rfl, _, z.length, rfl, ⟨Nat.le_trans hz (by decide), rfl⟩, rfl, _, rfl, ?_⟩
      have ol := once_eq z.cps.toList
      have zl : z.cps.toList.length = z.length := Array.length_toList
      rw [zl] at ol
      have e1 : decide (V.int ((once z.cps.toList).length : Nat) = V.int z.length) = decide z.cps.toList.Nodup := by
        by_cases h1 : z.cps.toList.Nodup
        · rw [decide_eq_true h1, ol.mpr h1]
          exact decide_eq_true rfl
        · rw [decide_eq_false h1]
          refine decide_eq_false fun h => h1 (ol.mp ?_)
          injection h with e
          omega
      rw [e1]
      by_cases h1 : z.cps.toList.Nodup
      · rw [decide_eq_true h1]
        refine ⟨_, rfl, iteT ⟨_, rfl, z, rfl, fun D1 hD1 => ?_⟩⟩
        refine lc_ff (walk_signs (z := z)) (fun x => !decide (ofSg x ∈ S.cps.toList)) (fun x => x) hD1 (fun _ _ => trivial) (by rw [signs_len]; exact Nat.lt_of_le_of_lt hz (by decide)) (fun x => rfl) ?_ ?_ ?_
        · intro x H' C' hx s' hC
          obtain ⟨ch, _, rfl⟩ := mem_signs hx
          exact ⟨_, rfl, _, rfl, ch, S, rfl, rfl, _, rfl, hC H' (Same.refl _)⟩
        · intro x H' C' hx _ s' hC
          exact ⟨_, rfl, hC H' (Same.refl _)⟩
        intro H2 s2 h2
        have ez : ((signs z).filter fun x => !decide (ofSg x ∈ S.cps.toList)).map (fun x => x) = (z.cps.toList.filter fun c => !decide (c ∈ S.cps.toList)).map sg := by
          rw [List.map_id']
          show (z.cps.toList.map sg).filter _ = _
          rw [filter_sg]
          rfl
        rw [ez] at h2
        refine ⟨by show 0 ≤ sizeLine; decide, fun q4 H4 n4 => ⟨D1, q4, _, rfl, rfl, SqL.of (n4.same _ _ h2), n4.here, _, rfl, ?_⟩⟩
        have s4 := s2.trans n4.same
        rw [List.isEmpty_map]
        have hset : setD S (.str z) = (z.cps.toList.filter fun c => !decide (c ∈ S.cps.toList)).isEmpty := by
          rw [set_two, decide_eq_true h1, Bool.true_and]
        cases he : (z.cps.toList.filter fun c => !decide (c ∈ S.cps.toList)).isEmpty with
        | true => exact iteT ⟨_, _, rfl, x1.trans (.of s4), LamX.Tabs.ext T1 s4⟩
        | false => exact iteF (end3 _ true H4 s4 (hset.trans he) fun H3 e3 T3 => ⟨_, _, rfl, e3, T3⟩)
      · rw [decide_eq_false h1]
        refine ⟨_, rfl, iteF (iteF (end3 _ false H1 (Same.refl _) ?_ (fun H3 e3 T3 => ⟨_, _, rfl, e3, T3⟩)))⟩
        rw [set_two, decide_eq_false h1, Bool.false_and]
    | _ => exact iteF ⟨_, rfl, _, rfl, iteF (iteF (end3 _ false H1 (Same.refl _) rfl (fun H3 e3 T3 => ⟨_, _, rfl, e3, T3⟩)))⟩
  · rintro σ' H' ⟨o15, o16, rfl, x7, tT⟩
    exact k H' o15 o16 x7 tT
end
end My
end
section
set_option Elab.async false
set_option linter.all false
set_option maxRecDepth 100000
set_option maxHeartbeats 4000000
namespace My
open PySem PySem.Spec PyProof.Rows L2 LamX
def sp_law2 (K : PySem.W.Frag) (PL PZ : Addr) : Sp := fun vs H Q _ => ∃ (a : Addr) (ns : List Int), vs = [.ref a] ∧ SqL K H a (ns.map V.int) ∧ ns.length ≤ 63 ∧ Tabs (TQ PL PZ) H ∧ ∀ H', Q (.bl true) H'
theorem ok_law {f CC C IS fIS PL PZ cL : Addr} {fN : Addr} {fdN : FuncData} {fB : Addr} {fdB : FuncData} {fM : Addr} {fdM : FuncData} {fT : Addr} {fdT : FuncData} {fS : Addr} {fdS : FuncData} {fBe : Addr} {fdBe : FuncData} {fL : Addr} {fdL : FuncData} {fP : Addr} {fdP : FuncData} {fO : Addr} {fdO : FuncData} {fTo : Addr} {fdTo : FuncData} {oc kV doc pm ct : Value} {od an : Option Addr} {osl : Array (Option Value)}
    {P : Program} {w : World} {K : PySem.W.Frag} {mg : Str → Option Value} {base : Heap}
    (lk : K.lookup f = some ⟨oc, od, .func (PySem.W.fnOf "law" "law" (defArgs s_law) (defBody s_law) (defScope s_law) .none kV doc pm an (.ref cL) ct), osl⟩) (hcd : PySem.W.codeIn K (.ref cL) "law" = true)
    (T : TB mg) (tb : TabB base mg cL PL) (ne : PL ≠ PZ) (L6 : Told6 K mg IS fIS)
    (DN : Def K mg "_law_pen" fN fdN ["_law_script"]) (GN : FnOk P w K mg base CX0 1 fN fdN ["_law_script"] (sp_pen K))
    (DB : Def K mg "_law_plain" fB fdB ["_law_pen_here", "_law_signs", "_law_most", "_law_bound"]) (GB : FnOk P w K mg base CX0 5 fB fdB ["_law_pen_here", "_law_signs", "_law_most", "_law_bound"] sp_plain)
    (DM : Def K mg "_law_made" fM fdM ["_law_pen_here", "_law_plain_here"]) (GM : FnOk P w K mg base CX0 8 fM fdM ["_law_pen_here", "_law_plain_here"] (sp_cmade CC C))
    (DT : Def K mg "_law_sets" fT fdT ["_law_signs"]) (GT : FnOk P w K mg base CX0 3 fT fdT ["_law_signs"] (sp_sets (TQ PL PZ)))
    (DS : Def K mg "_law_shuffled" fS fdS ["_law_pen_here", "_law_items"]) (GS : FnOk P w K mg base CX0 2 fS fdS ["_law_pen_here", "_law_items"] (sp_shuf K))
    (cl : Cls K CC) (MB : Meth K CC "bearing" fBe) (GBe : FnOk P w K mg base (L2.CX P w) 5 fBe fdBe ["self", "signs"] (sp_bear K CC C IS)) (bB : Binds K fdBe ["self", "signs"] [])
    (DL : Def K mg "_law_bearing" fL fdL ["_law_plain_here", "_law_some"]) (GL : FnOk P w K mg base CX0 3 fL fdL ["_law_plain_here", "_law_some"] sp_lbear)
    (DP : Def K mg "_law_pick" fP fdP ["_law_pen_here", "_law_options"]) (GP : FnOk P w K mg base CX0 2 fP fdP ["_law_pen_here", "_law_options"] (sp_pick K))
    (DO : Def K mg "_law_odd" fO fdO ["_law_pen_here"]) (GO : FnOk P w K mg base CX0 3 fO fdO ["_law_pen_here"] (sp_oddT K))
    (FTo : Fun K "_law_told" "_law_told" s_told6 fTo fdTo) (DTo : Def K mg "_law_told" fTo fdTo ["_law_call"]) :
    FnG P w K mg base 13 f (PySem.W.fnOf "law" "law" (defArgs s_law) (defBody s_law) (defScope s_law) .none kV doc pm an (.ref cL) ct) ["_law_script"] (sp_law2 K PL PZ) := by
  refine okGc lk hcd sc_law (fun vs H Q E h => ?_) (fun A outer s H vs Q E g hr h => ?_)
  · obtain ⟨a, ns, rfl, _⟩ := h
    rfl
  · obtain ⟨a, ns, rfl, hS, hlen, hT, k⟩ := h
    have r1 : Room 1 _ := hr.mono (by decide)
    refine ⟨_, pss_cons (ps_set (i := 1) sc_law.nd rfl (Or.inl rfl) (pe_call GN r1 rfl DN.mgf DN.kp DN.bd .nil pass0 (pa_cons (pv 0) pa_nil)))
      (pss_cons (ps_for PassesOwn.never rfl (pi_range1 rfl T.range (pa_cons pe_int pa_nil)) (pg_name (i := 2) sc_law.nd rfl (Or.inl rfl))
        (pss_cons (st0 DB GB hr) (pss_cons (st1 DM GM hr) (pss_cons (st2 (TT := TQ PL PZ) T DT GT DS GS cl MB GBe bB DL GL g hr) (pss_cons (st3 (TT := TQ PL PZ) (CC := CC) (C := C) T DP GP hr)
        (pss_cons (st4 (TT := TQ PL PZ) (CC := CC) (C := C) DO GO hr) (pss_one (st5 T L6 FTo DTo cl MB GBe bB tb ne g hr)))))))) (pss_one (ps_ret pe_bl))), ?_⟩
    refine ⟨_, rfl, a, ns, rfl, hS, hlen, fun H1 p c s1 fp hP => ?_⟩
    have T1 : Tabs (TQ PL PZ) H1 := LamX.Tabs.ext hT s1
    refine ⟨5, rfl, by decide, by decide, for_it (walk_range (lo := 0) (n := (5 : Int).toNat)) (fun i σ' H' => ∃ (o0 o2 o3 o4 o5 o6 o7 o8 o9 o10 o11 o12 o13 o14 o15 o16 o17 : Option V) (n : Nat), σ' = sl o0 (some (.ref p)) o2 o3 o4 o5 o6 o7 o8 o9 o10 o11 o12 o13 o14 o15 o16 o17 ∧ PenAt H' p c n ∧ n ≤ 3000 * i ∧ Tabs (TQ PL PZ) H')
      ⟨_, _, _, _, _, _, _, _, _, _, _, _, _, _, _, _, _, 0, rfl, hP, Nat.le_refl _, T1⟩ (fun _ _ _ _ _ => trivial) ?_ ?_⟩
    · rintro i x' σ' Ha Hb hi ⟨o0, o2, o3, o4, o5, o6, o7, o8, o9, o10, o11, o12, o13, o14, o15, o16, o17, n, rfl, hP, hn, hT⟩ ⟨rfl, rfl⟩
      have hi5 : i < 5 := hi
      have small : ∀ m : Nat, m ≤ 100000 → m < 2 ^ 46 := fun m hm => Nat.lt_of_le_of_lt hm (by decide)
      refine ⟨_, _, _, _, _, _, _, _, _, _, _, _, _, _, _, _, _, p, c, n, rfl, hP, small n (by omega), fun H1 t t1 b d S ys ps cs d1 hpl h5 => ?_⟩
      have T1 := tabs_but hP d1.but hT
      refine ⟨_, _, _, _, _, _, _, _, _, _, _, _, _, _, _, _, p, c, t, t1, b, d, n + 1000, S, ys, ps, cs, rfl, d1.pen, small _ (by omega), hpl, h5, fun H2 a e d2 W2 => ?_⟩
      have T2 := tabs_but d1.pen d2.but T1
      refine ⟨_, _, _, _, _, _, _, _, _, _, _, _, _, p, c, t, t1, b, d, a, e, n + 1000 + 400, S, ys, ps, cs, rfl, d2.pen, small _ (by omega), W2, T2, fun H3 o7 o8 P3 W3 T3 => ?_⟩
      refine ⟨_, _, _, _, _, _, _, _, _, _, _, _, _, p, c, t, t1, b, d, a, e, n + 1000 + 400 + 400, S, ys, ps, cs, rfl, P3, small _ (by omega), W3, T3, fun H4 o9 o10 o11 o12 o13 P4 W4 T4 => ?_⟩
      refine ⟨_, _, _, _, _, _, _, _, _, _, _, _, _, p, c, t, t1, b, d, a, e, n + 1000 + 400 + 400 + 20, S, ys, ps, cs, rfl, P4, small _ (by omega), W4, T4, fun H5 q vs P5 W5 T5 hq hl all => ?_⟩
      refine ⟨_, _, _, _, _, _, _, _, _, _, _, _, p, c, t, t1, b, d, a, e, n + 1000 + 400 + 400 + 20 + 1, S, ys, ps, cs, q, vs, rfl, P5, W5, T5, hq, hl, all, fun H6 o15 o16 x6 T6 => ?_⟩
      exact ⟨_, _, _, _, _, _, _, _, _, _, _, _, _, _, _, _, _, _, rfl, pen_ext x6 P5, by omega, T6⟩
    · rintro σ' H2 ⟨o0, o2, o3, o4, o5, o6, o7, o8, o9, o10, o11, o12, o13, o14, o15, o16, o17, n, rfl, hP, hn, hT⟩
      exact k H2
end My
end
section
set_option Elab.async false
set_option linter.all false
set_option maxRecDepth 100000
set_option maxHeartbeats 4000000
/-! B17: which class an error's class stands below. -/
namespace My
open PySem PySem.Spec PyProof.Rows L2 LamX
/-- a class below a built-in one is told so -/
theorem kit_sub {K : PySem.W.Frag} {U : Addr} {T : String} (h : PySem.W.subIn K (.ref U) (.type T) = some true) (m : PySem.W.kitMeta T = true) : PySem.W.kitOne K (.ref U) (.type T) = some true := by
  show (if (Value.ref U == Value.type T) = true then some true else (if PySem.W.kitMeta T = true then PySem.W.subIn K (.ref U) (.type T) else none)) = some true
  rw [if_pos m, h]
  split <;> rfl
/-- an error of a class is caught by the class's name -/
theorem caught_self {K : PySem.W.Frag} {S : Addr} (h1 : PySem.W.subIn K (.ref S) (.type "BaseException") = some true) (h2 : PySem.W.isClsIn K S = true) (h3 : PySem.W.typeIn K (.ref S) = some (.type "type")) (h4 : PySem.W.subIn K (.ref S) (.ref S) = some true) : PySem.W.exmOne K (.ref S) (.ref S) = some true := by
  have h2 : (PySem.W.clsIn K S).isSome = true := h2
  show (if (PySem.W.subIn K (.ref S) (.type "BaseException") == some true) = true then (if ((PySem.W.clsIn K S).isSome && (PySem.W.typeIn K (.ref S) == some (.type "type"))) = true then PySem.W.subIn K (.ref S) (.ref S) else none) else none) = some true
  rw [h1, h2, h3, h4]
  rfl
theorem kit_no {K : PySem.W.Frag} {U S : Addr} (h : PySem.W.subIn K (.ref U) (.ref S) = some false) (h0 : PySem.W.subIn K (.ref U) (.ref U) = some true) (h2 : PySem.W.isClsIn K S = true) (h3 : PySem.W.typeIn K (.ref S) = some (.type "type")) : PySem.W.kitOne K (.ref U) (.ref S) = some false := by
  have ne : U ≠ S := fun e => by
    subst e
    rw [h] at h0
    cases h0
  have h2 : (PySem.W.clsIn K S).isSome = true := h2
  show (if (Value.ref U == Value.ref S) = true then some true else (if ((PySem.W.clsIn K S).isSome && (PySem.W.typeIn K (.ref S) == some (.type "type"))) = true then PySem.W.subIn K (.ref U) (.ref S) else none)) = some false
  rw [if_neg (by simpa using ne), h2, h3, h]
  rfl
theorem exm_no {K : PySem.W.Frag} {U S : Addr} (h1 : PySem.W.subIn K (.ref S) (.type "BaseException") = some true) (h2 : PySem.W.isClsIn K S = true) (h3 : PySem.W.typeIn K (.ref S) = some (.type "type")) (h4 : PySem.W.subIn K (.ref U) (.ref S) = some false) : PySem.W.exmOne K (.ref U) (.ref S) = some false := by
  have h2 : (PySem.W.clsIn K S).isSome = true := h2
  show (if (PySem.W.subIn K (.ref S) (.type "BaseException") == some true) = true then (if ((PySem.W.clsIn K S).isSome && (PySem.W.typeIn K (.ref S) == some (.type "type"))) = true then PySem.W.subIn K (.ref U) (.ref S) else none) else none) = some false
  rw [h1, h2, h3, h4]
  rfl
end My
end
section
set_option Elab.async false
set_option linter.all false
set_option maxRecDepth 100000
set_option maxHeartbeats 2000000
/-! H0: a head by one kernel run, its facts told by names: K is what the heap holds at given addresses. -/
namespace My
open PySem PySem.Spec PyProof.Rows L2
def oOf (K : PySem.W.Frag) (a : Addr) : Obj := match K.lookup a with
  | some o => o
  | none => default
def fnD (K : PySem.W.Frag) (f : Addr) : FuncData := match (oOf K f).data with
  | .func fd => fd
  | _ => default
theorem oOf_eq {K : PySem.W.Frag} {a : Addr} {o : Obj} (h : K.lookup a = some o) : oOf K a = o := by
  unfold oOf
  rw [h]
theorem fnD_eq {K : PySem.W.Frag} {f : Addr} {oc : Value} {od : Option Addr} {fd : FuncData} {sl : Array (Option Value)} (h : K.lookup f = some ⟨oc, od, .func fd, sl⟩) : fnD K f = fd := by
  unfold fnD
  rw [oOf_eq h]
abbrev FnV : Type := Option (Str × Str × Arguments × FuncBody × Scope × Addr × List (Str × Addr) × Addr)
def fnV (K : PySem.W.Frag) (f : Addr) : FnV := match K.lookup f with
  | some ⟨_, _, .func fd, _⟩ => some (fd.name, fd.qualname, fd.params, fd.body, fd.scope, fd.globals, fd.closure, fd.builtins)
  | _ => none
abbrev fnW (nm q : Str) (ps : Arguments) (body : List Stmt) (sc : Scope) : FnV := some (nm, q, ps, .stmts body, sc, mainGlobals, [], builtinsNs)
theorem look_fn {K : PySem.W.Frag} {f : Addr} {nm q : Str} {ps : Arguments} {body : List Stmt} {sc : Scope} {dV kV cd : Value} (e : fnV K f = fnW nm q ps body sc) (hd : (fnD K f).defaults = dV) (hk : (fnD K f).kwdefaults = kV) (hc : (fnD K f).code = cd) :
    K.lookup f = some ⟨(oOf K f).cls, (oOf K f).dict, .func (PySem.W.fnOf nm q ps body sc dV kV (fnD K f).doc (fnD K f).pyModule (fnD K f).annotations cd (fnD K f).closureTuple), (oOf K f).slots⟩ := by
  unfold fnV at e
  cases h : K.lookup f with
  | none =>
    rw [h] at e
    cases e
  | some o =>
    obtain ⟨oc, od, dt, sl⟩ := o
    rw [h] at e
    cases dt with
    | func fd =>
      rw [fnD_eq h] at hd hk hc
      rw [oOf_eq h, fnD_eq h]
      obtain ⟨n1, n2, n3, n4, n5, n6, n7, n8, n9, n10, n11, n12, n13, n14, n15⟩ := fd
      have e2 : (some (n1, n2, n3, n4, n5, n6, n7, n15) : FnV) = some (nm, q, ps, .stmts body, sc, mainGlobals, [], builtinsNs) := e
      simp only [Option.some.injEq, Prod.mk.injEq] at e2
      obtain ⟨h1, h2, h3, h4, h5, h6, h7, h8⟩ := e2
      have hd : n8 = dV := hd
      have hk : n9 = kV := hk
      have hc : n13 = cd := hc
      subst h1 h2 h3 h4 h5 h6 h7 h8 hd hk hc
      rfl
    | _ => cases e
def refOf (v : Value) : Addr := match v with
  | .ref a => a
  | _ => 0
def seqV (K : PySem.W.Frag) (t : Addr) : Option (List Value) := match K.lookup t with
  | some ⟨_, _, .seq its _, _⟩ => some its.toList
  | _ => none
def seqN (K : PySem.W.Frag) (t : Addr) : Nat := match (oOf K t).data with
  | .seq _ n => n
  | _ => 0
/-- the i-th item of the tuple at t, if it is an object -/
def itA (K : PySem.W.Frag) (t : Addr) (i : Nat) : Addr := match seqV K t with
  | some l => refOf (l.getD i .none)
  | none => 0
theorem look_seq {K : PySem.W.Frag} {t : Addr} {vs : List Value} (e : seqV K t = some vs) : K.lookup t = some ⟨(oOf K t).cls, (oOf K t).dict, .seq vs.toArray (seqN K t), (oOf K t).slots⟩ := by
  unfold seqV at e
  cases h : K.lookup t with
  | none =>
    rw [h] at e
    cases e
  | some o =>
    obtain ⟨oc, od, dt, sl⟩ := o
    rw [h] at e
    cases dt with
    | seq its n =>
      have e2 : its.toList = vs := Option.some.inj e
      unfold seqN
      rw [oOf_eq h, ← e2]
    | _ => cases e
theorem look_seqT {K : PySem.W.Frag} {t : Addr} {vs : List Value} {c : Value} (e : seqV K t = some vs) (hc : (oOf K t).cls = c) : K.lookup t = some ⟨c, (oOf K t).dict, .seq vs.toArray (seqN K t), (oOf K t).slots⟩ := hc ▸ look_seq e
def excB (K : PySem.W.Frag) (c : Addr) (bm : List Value) (id : String) : Bool := match K.lookup c with
  | some ⟨.type t, _, .cls cd, sl⟩ => (match cd.mro, sl.toList with
    | .ref C :: b, [_, _, _, _, some (.builtin n), _] => decide (t = "type") && (decide (C = c) && (decide (b = bm) && (decide (n = id) && (cd.hasDict && !cd.hasDel))))
    | _, _ => false)
  | _ => false
theorem look_exc {K : PySem.W.Frag} {c : Addr} {bm : List Value} {id : String} (e : excB K c bm id = true) : ∃ nm q N bs sn sub ab col dd k0 k1 k2 k3 k5, K.lookup c = some (excClassObj nm q c N bs bm true sn sub ab col dd k0 k1 k2 k3 k5 id) := by
  unfold excB at e
  split at e
  · rename_i t dd cd sl ho
    split at e
    · rename_i C b k0 k1 k2 k3 n k5 hm hs
      obtain ⟨e1, e⟩ := Bool.and_eq_true_iff.mp e
      obtain ⟨e2, e⟩ := Bool.and_eq_true_iff.mp e
      obtain ⟨e3, e⟩ := Bool.and_eq_true_iff.mp e
      obtain ⟨e4, e⟩ := Bool.and_eq_true_iff.mp e
      obtain ⟨e5, e6⟩ := Bool.and_eq_true_iff.mp e
      have e1 := of_decide_eq_true e1
      have e2 := of_decide_eq_true e2
      have e3 := of_decide_eq_true e3
      have e4 := of_decide_eq_true e4
      obtain ⟨nm, bs, mro, ns, qn, hd, sn, sub, ab, col, del⟩ := cd
      dsimp only at hm e5 e6
      have e6 : del = false := by simpa using e6
      subst e1 e2 e3 e4 hm e5 e6
      have hsl : sl = #[k0, k1, k2, k3, some (.builtin n), k5] := by
        obtain ⟨l⟩ := sl
        simp only at hs
        rw [hs]
      subst hsl
      exact ⟨nm, qn, ns, bs, sn, sub, ab, col, dd, k0, k1, k2, k3, k5, ho⟩
    · cases e
  · cases e
def valB (K : PySem.W.Frag) (C : Addr) (n : Str) (i : Int) : Bool := match PySem.W.findCls K (.ref C) (.type "type") n with
  | some (.val (.int j _)) => decide (j = i)
  | _ => false
theorem look_val {K : PySem.W.Frag} {C : Addr} {n : Str} {i : Int} (e : valB K C n i = true) : ∃ t, PySem.W.findCls K (.ref C) (.type "type") n = some (.val (.int i t)) := by
  unfold valB at e
  split at e
  · rename_i j t h
    exact ⟨t, by rw [h, of_decide_eq_true e]⟩
  · cases e
def cmA (K : PySem.W.Frag) (C : Addr) (n : Str) : Addr := match PySem.W.findCls K (.ref C) (.type "type") n with
  | some (.get _ a _ _) => refOf a
  | _ => 0
def cmB (K : PySem.W.Frag) (C : Addr) (n : Str) : Bool := match PySem.W.findCls K (.ref C) (.type "type") n with
  | some (.get g (.ref _) o t) => decide (g = .builtin "classmethod.__get__") && (decide (o = .none) && decide (t = .ref C))
  | _ => false
theorem look_cm {K : PySem.W.Frag} {C : Addr} {n : Str} (e : cmB K C n = true) : PySem.W.findCls K (.ref C) (.type "type") n = some (.get (.builtin "classmethod.__get__") (.ref (cmA K C n)) .none (.ref C)) := by
  unfold cmB at e
  split at e
  · rename_i g p o t h
    obtain ⟨e1, e⟩ := Bool.and_eq_true_iff.mp e
    obtain ⟨e2, e3⟩ := Bool.and_eq_true_iff.mp e
    have e1 := of_decide_eq_true e1
    have e2 := of_decide_eq_true e2
    have e3 := of_decide_eq_true e3
    subst e1 e2 e3
    have : cmA K C n = p := by
      unfold cmA
      rw [h]
      rfl
    rw [this, h]
  · cases e
def recF (K : PySem.W.Frag) (p : Addr) (T : String) : Addr := match PySem.W.recIn K p T with
  | some (v :: _) => refOf v
  | _ => 0
def recR (K : PySem.W.Frag) (p : Addr) (T : String) : List Value := match PySem.W.recIn K p T with
  | some (_ :: r) => r
  | _ => []
def recB (K : PySem.W.Frag) (p : Addr) (T : String) : Bool := match PySem.W.recIn K p T with
  | some (.ref _ :: _) => true
  | _ => false
theorem look_rec {K : PySem.W.Frag} {p : Addr} {T : String} (e : recB K p T = true) : PySem.W.recIn K p T = some (.ref (recF K p T) :: recR K p T) := by
  unfold recB at e
  split at e
  · rename_i a r h
    have h1 : recF K p T = a := by
      unfold recF
      rw [h]
      rfl
    have h2 : recR K p T = r := by
      unfold recR
      rw [h]
    rw [h1, h2, h]
  · cases e
/-- the token of a module's number or text -/
def tokB (K : PySem.W.Frag) (x : Str) (v : V) : Bool := match v, PySem.W.nsIn K mainGlobals x with
  | .int i, some (some (.int j _)) => decide (i = j)
  | .str z, some (some (.str y _)) => decide (z = y)
  | _, _ => false
theorem look_int {K : PySem.W.Frag} {x : Str} {i : Int} (e : tokB K x (.int i) = true) : ∃ t, PySem.W.nsIn K mainGlobals x = some (some (.int i t)) := by
  unfold tokB at e
  split at e
  · rename_i z j t hz h
    cases hz
    exact ⟨t, by rw [h, of_decide_eq_true e]⟩
  · rename_i hz _
    cases hz
  · cases e
theorem look_str {K : PySem.W.Frag} {x : Str} {z : Str} (e : tokB K x (.str z) = true) : ∃ t, PySem.W.nsIn K mainGlobals x = some (some (.str z t)) := by
  unfold tokB at e
  split at e
  · rename_i hz _
    cases hz
  · rename_i z y t hz h
    cases hz
    exact ⟨t, by rw [h, of_decide_eq_true e]⟩
  · cases e
theorem look_some {α : Type} {o : Option α} (e : o.isSome = true) : ∃ x, o = some x := Option.isSome_iff_exists.mp e
/-- the table of a code object -/
def tabA (K : PySem.W.Frag) (c : Addr) : Addr := match (oOf K c).data with
  | .fields vs => refOf (vs.getD 11 .none)
  | _ => 0
def emptyB : Obj → Bool
  | ⟨.none, none, .fields vs, sl⟩ => vs.isEmpty && sl.isEmpty
  | _ => false
theorem emptyB_eq {o : Obj} (h : emptyB o = true) : o = emptyTab := by
  obtain ⟨oc, od, dt, sl⟩ := o
  cases oc with
  | none =>
    cases od with
    | none =>
      cases dt with
      | fields vs =>
        obtain ⟨h1, h2⟩ := Bool.and_eq_true_iff.mp (show (vs.isEmpty && sl.isEmpty) = true from h)
        rw [Array.isEmpty_iff.mp h1, Array.isEmpty_iff.mp h2]
      | _ => cases h
    | some d => cases dt <;> cases h
  | _ => cases od <;> cases dt <;> cases h
theorem frG_out {g : Addr → Option Obj} {a : Addr} : ∀ {as : List Addr}, a ∉ as → (He.frG g as).lookup a = none
  | [], _ => rfl
  | b :: r, h => by
    have hr : a ∉ r := fun z => h (List.mem_cons_of_mem _ z)
    have hb : a ≠ b := fun z => h (z ▸ List.mem_cons_self)
    have ih := frG_out (g := g) hr
    unfold He.frG at ih ⊢
    rw [List.filterMap_cons]
    cases q : g b with
    | none => exact ih
    | some o =>
      show (match a == b with | true => some o | false => _) = none
      rw [beq_eq_false_iff_ne.mpr hb]
      exact ih
/-- what is looked at: the facts, the defs, the tables -/
def obX (as : List Addr) (ts : PySem.W.Frag → List Addr) (chk : PySem.W.Frag → Bool) (fn : PySem.W.Frag → List FnV) (g : Addr → Option Obj) : Bool × List FnV :=
  (chk (He.frG g as) && (ts (He.frG g as)).all fun P => (match g P with
    | some o => emptyB o
    | none => false) && !as.contains P, fn (He.frG g as))
structure SaysH (ts : PySem.W.Frag → List Addr) (chk : PySem.W.Frag → Bool) (fn : PySem.W.Frag → List FnV) (fv : List FnV) (h : Heap) (K : PySem.W.Frag) : Prop where
  chk : chk K = true
  fn : fn K = fv
  tab : ∀ P ∈ ts K, h.get? P = some emptyTab
  out : ∀ P ∈ ts K, K.lookup P = none
def hkX (as : List Addr) (ts : PySem.W.Frag → List Addr) (chk : PySem.W.Frag → Bool) (fn : PySem.W.Frag → List FnV) (fv : List FnV) : PySem.W.Hook where
  α := Bool × List FnV
  obs := fun s => obX as ts chk fn s.heap.get?
  val := fun _ => (true, fv)
  says := fun _ h => ∃ K : PySem.W.Frag, K.In h ∧ SaysH ts chk fn fv h K
  of := fun _ s e => by
    obtain ⟨e1, e2⟩ := Prod.mk.inj e
    obtain ⟨h1, h2⟩ := Bool.and_eq_true_iff.mp e1
    have key : ∀ P ∈ ts (He.frG s.heap.get? as), (∃ o, s.heap.get? P = some o ∧ emptyB o = true) ∧ P ∉ as := fun P hP => by
      obtain ⟨a1, a2⟩ := Bool.and_eq_true_iff.mp (List.all_eq_true.mp h2 P hP)
      refine ⟨?_, ?_⟩
      · cases q : s.heap.get? P with
        | none =>
          rw [q] at a1
          cases a1
        | some o =>
          rw [q] at a1
          exact ⟨o, rfl, a1⟩
      · intro z
        rw [List.contains_iff_mem.mpr z] at a2
        cases a2
    exact ⟨_, He.frG_in, h1, e2, fun P hP => by
      obtain ⟨⟨o, q, z⟩, _⟩ := key P hP
      rw [q, emptyB_eq z], fun P hP => frG_out (key P hP).2⟩
  keeps := fun _ _ _ ⟨K, hK, c⟩ k => ⟨K, PySem.W.Frag.In.keeps hK k, c.chk, c.fn, fun P hP => k _ _ (c.tab P hP), c.out⟩
theorem obX_eq {as : List Addr} {ts : PySem.W.Frag → List Addr} {chk : PySem.W.Frag → Bool} {fn : PySem.W.Frag → List FnV} {fv : List FnV} (s : PySem.W.SharedT) : obX as ts chk fn (HandSHeadRun.getT s) = (hkX as ts chk fn fv).obs s.abs := by
  have e : HandSHeadRun.getT s = s.abs.heap.get? := funext (HandSHeadRun.getT_eq s)
  rw [e] <;> rfl
/-- as walkG, K told by the head's facts -/
theorem walkE {l : PySem.W.OpenLaw} {n k : Nat} {q : Program} {loose : List Str} {XP : (Str → Option Value) → Heap → Prop} {YP : World → Heap → Prop} {d : DefRec} {x : Str}
    (hn : l.most = some n) (hn2 : n ≤ sizeLine) (hdf : d.params.defaults = []) (hr : Room k callerA)
    (F : ∀ (w : World) (mg : Str → Option Value) (fa : Addr) (h : Heap), YP w h → h.Ns mainGlobals mg → mg d.name = some (.ref fa) → ∃ K : PySem.W.Frag, K.In h ∧ LawG l w K k n x mg fa h) :
    PySem.W.WalkO q loose XP YP l.row.toRowW d [] (fun f vs => PySem.call f vs) := by
  apply Att.attach_callB hn hdf
  intro w s0 s1 mg mb fa o pm cd doc a vs ns G Y ho hd hcd hmg hobj hints hlen hbits hg
  obtain ⟨K, KX, fd, cs, sp, hT, nT, C, hb, hsp, hF⟩ := F w mg fa _ Y G.T.g hmg
  exact law_callG KX G.T.g G.T.b G.T.builtins G.T.nolimit hg hT nT C G.T.bmain hobj hints (Nat.le_trans hlen hn2) hr hF hb fun H hH hS => hsp H a ns hlen hbits hH hS
end My
end
section
set_option Elab.async false
set_option linter.all false
set_option maxRecDepth 100000
set_option maxHeartbeats 4000000
namespace My
open PySem PySem.Spec PyProof.Rows L2 LamX
abbrev LErr (K : PySem.W.Frag) (mg : Str → Option Value) (x qi : Str) (U fI : Addr) : Prop := ErrC K mg x "value" qi "LookupError" "LookupError.__new__" "LookupError.__init__" bmLookup bmKey U fI
theorem all_mk {l : PySem.W.OpenLaw} {w : World} {K : PySem.W.Frag} {h : Heap} {mg : Str → Option Value} {fa : Addr}
    {tA tB tm tq : Tok}
    {C : Addr}
    {CC : Addr}
    {ocLi kVLi dcLi pmLi cdLi ctLi : Value} {odLi anLi : Option Addr} {slLi : Array (Option Value)} {fLi : Addr}
    {ocFs kVFs dcFs pmFs cdFs ctFs : Value} {odFs anFs : Option Addr} {slFs : Array (Option Value)} {fFs : Addr}
    {ocSi kVSi dcSi pmSi cdSi ctSi : Value} {odSi anSi : Option Addr} {slSi : Array (Option Value)} {fSi : Addr}
    {ocSe kVSe dcSe pmSe cdSe ctSe : Value} {odSe anSe : Option Addr} {slSe : Array (Option Value)} {fSe : Addr}
    {ocIk kVIk dcIk pmIk cdIk ctIk : Value} {odIk anIk : Option Addr} {slIk : Array (Option Value)} {fIk : Addr}
    {ocKt kVKt dcKt pmKt cdKt ctKt : Value} {odKt anKt : Option Addr} {slKt : Array (Option Value)} {fKt : Addr}
    {ocPa kVPa dcPa pmPa cdPa ctPa : Value} {odPa anPa : Option Addr} {slPa : Array (Option Value)} {fPa : Addr}
    {ocIt kVIt dcIt pmIt cdIt ctIt : Value} {odIt anIt : Option Addr} {slIt : Array (Option Value)} {fIt : Addr}
    {ocNu kVNu dcNu pmNu cdNu ctNu : Value} {odNu anNu : Option Addr} {slNu : Array (Option Value)} {fNu : Addr}
    {tDNu : Addr} {oDNu : Value} {aDNu : Option Addr} {nDNu : Nat} {sDNu : Array (Option Value)}
    {ocAk kVAk dcAk pmAk cdAk ctAk : Value} {odAk anAk : Option Addr} {slAk : Array (Option Value)} {fAk : Addr}
    {ocEn kVEn dcEn pmEn cdEn ctEn : Value} {odEn anEn : Option Addr} {slEn : Array (Option Value)} {fEn : Addr}
    {ocCo kVCo dcCo pmCo cdCo ctCo : Value} {odCo anCo : Option Addr} {slCo : Array (Option Value)} {fCo : Addr}
    {ocWs kVWs dcWs pmWs cdWs ctWs : Value} {odWs anWs : Option Addr} {slWs : Array (Option Value)} {fWs : Addr}
    {ocMe kVMe dcMe pmMe cdMe ctMe : Value} {odMe anMe : Option Addr} {slMe : Array (Option Value)} {fMe : Addr}
    {ocPe kVPe dcPe pmPe cdPe ctPe : Value} {odPe anPe : Option Addr} {slPe : Array (Option Value)} {fPe : Addr}
    {ocDr kVDr dcDr pmDr cdDr ctDr : Value} {odDr anDr : Option Addr} {slDr : Array (Option Value)} {fDr : Addr}
    {ocPi kVPi dcPi pmPi cdPi ctPi : Value} {odPi anPi : Option Addr} {slPi : Array (Option Value)} {fPi : Addr}
    {ocSh kVSh dcSh pmSh cdSh ctSh : Value} {odSh anSh : Option Addr} {slSh : Array (Option Value)} {fSh : Addr}
    {ocOd kVOd dcOd pmOd cdOd ctOd : Value} {odOd anOd : Option Addr} {slOd : Array (Option Value)} {fOd : Addr}
    {ocFo kVFo dcFo pmFo cdFo ctFo : Value} {odFo anFo : Option Addr} {slFo : Array (Option Value)} {fFo : Addr}
    {ocHe kVHe dcHe pmHe cdHe ctHe : Value} {odHe anHe : Option Addr} {slHe : Array (Option Value)} {fHe : Addr}
    {ocKs kVKs dcKs pmKs cdKs ctKs : Value} {odKs anKs : Option Addr} {slKs : Array (Option Value)} {fKs : Addr}
    {ocOr kVOr dcOr pmOr cdOr ctOr : Value} {odOr anOr : Option Addr} {slOr : Array (Option Value)} {fOr : Addr}
    {ocPl kVPl dcPl pmPl cdPl ctPl : Value} {odPl anPl : Option Addr} {slPl : Array (Option Value)} {fPl : Addr}
    {ocFl kVFl dcFl pmFl cdFl ctFl : Value} {odFl anFl : Option Addr} {slFl : Array (Option Value)} {fFl : Addr}
    {ocFm kVFm dcFm pmFm cdFm ctFm : Value} {odFm anFm : Option Addr} {slFm : Array (Option Value)} {fFm : Addr}
    {ocMa kVMa dcMa pmMa cdMa ctMa : Value} {odMa anMa : Option Addr} {slMa : Array (Option Value)} {fMa : Addr}
    {ocSn kVSn dcSn pmSn cdSn ctSn : Value} {odSn anSn : Option Addr} {slSn : Array (Option Value)} {fSn : Addr}
    {ocLb kVLb dcLb pmLb cdLb ctLb : Value} {odLb anLb : Option Addr} {slLb : Array (Option Value)} {fLb : Addr}
    {ocTo kVTo dcTo pmTo cdTo ctTo : Value} {odTo anTo : Option Addr} {slTo : Array (Option Value)} {fTo : Addr}
    {ocLt kVLt dcLt pmLt ctLt : Value} {odLt anLt : Option Addr} {slLt : Array (Option Value)} {fLt cS : Addr}
    {ocInC kVInC dcInC pmInC cdInC ctInC : Value} {odInC anInC : Option Addr} {slInC : Array (Option Value)} {fInC : Addr}
    {tDInC : Addr} {oDInC : Value} {aDInC : Option Addr} {nDInC : Nat} {sDInC : Array (Option Value)}
    {tEInC0 : Addr} {aEInC0 : Option Addr} {nEInC0 : Nat} {sEInC0 : Array (Option Value)}
    {ocFc kVFc dcFc pmFc cdFc ctFc : Value} {odFc anFc : Option Addr} {slFc : Array (Option Value)} {fFc : Addr}
    {ocTn kVTn dcTn pmTn cdTn ctTn : Value} {odTn anTn : Option Addr} {slTn : Array (Option Value)} {fTn : Addr}
    {ocKm kVKm dcKm pmKm cdKm ctKm : Value} {odKm anKm : Option Addr} {slKm : Array (Option Value)} {fKm : Addr}
    {ocSm kVSm dcSm pmSm cdSm ctSm : Value} {odSm anSm : Option Addr} {slSm : Array (Option Value)} {fSm : Addr}
    {ocPs kVPs dcPs pmPs cdPs ctPs : Value} {odPs anPs : Option Addr} {slPs : Array (Option Value)} {fPs : Addr}
    {pPs : Addr} {rrPs : List Value}
    {ocInCC kVInCC dcInCC pmInCC cdInCC ctInCC : Value} {odInCC anInCC : Option Addr} {slInCC : Array (Option Value)} {fInCC : Addr}
    {tDInCC : Addr} {oDInCC : Value} {aDInCC : Option Addr} {nDInCC : Nat} {sDInCC : Array (Option Value)}
    {tEInCC0 : Addr} {aEInCC0 : Option Addr} {nEInCC0 : Nat} {sEInCC0 : Array (Option Value)}
    {ocBr kVBr dcBr pmBr cdBr ctBr : Value} {odBr anBr : Option Addr} {slBr : Array (Option Value)} {fBr : Addr}
    {IK fIK : Addr} {nmIK qIK : Str} {NIK : Addr} {bsIK : List Value} {snIK : List Str} {subIK : List Value} {abIK : Bool} {colIK : Option Bool} {ddIK : Option Addr} {m0IK m1IK m2IK m3IK m5IK : Option Value} {ocIK dcIK pmIK cdIK ctIK : Value} {odIK anIK : Option Addr} {slIK : Array (Option Value)}
    {IS fIS : Addr} {nmIS qIS : Str} {NIS : Addr} {bsIS : List Value} {snIS : List Str} {subIS : List Value} {abIS : Bool} {colIS : Option Bool} {ddIS : Option Addr} {m0IS m1IS m2IS m3IS m5IS : Option Value} {ocIS dcIS pmIS cdIS ctIS : Value} {odIS anIS : Option Addr} {slIS : Array (Option Value)}
    {US fUS : Addr} {nmUS qUS : Str} {NUS : Addr} {bsUS : List Value} {snUS : List Str} {subUS : List Value} {abUS : Bool} {colUS : Option Bool} {ddUS : Option Addr} {m0US m1US m2US m3US m5US : Option Value} {ocUS dcUS pmUS cdUS ctUS : Value} {odUS anUS : Option Addr} {slUS : Array (Option Value)}
    {IN TF TM OF : Addr}
    {ocLa kVLa dcLa pmLa ctLa : Value} {odLa anLa : Option Addr} {slLa : Array (Option Value)} {fLa cL : Addr} {PL : Addr} {PS : Addr}
    (X : K.In h) (G : h.Ns mainGlobals mg) (hfa : mg "law" = some (.ref fa))
    (z_int : PySem.W.nsIn K mainGlobals "int" = some none)
    (z_len : PySem.W.nsIn K mainGlobals "len" = some none)
    (z_abs : PySem.W.nsIn K mainGlobals "abs" = some none)
    (z_list : PySem.W.nsIn K mainGlobals "list" = some none)
    (z_tuple : PySem.W.nsIn K mainGlobals "tuple" = some none)
    (z_str : PySem.W.nsIn K mainGlobals "str" = some none)
    (z_set : PySem.W.nsIn K mainGlobals "set" = some none)
    (z_all : PySem.W.nsIn K mainGlobals "all" = some none)
    (z_isinstance : PySem.W.nsIn K mainGlobals "isinstance" = some none)
    (z_repr : PySem.W.nsIn K mainGlobals "repr" = some none)
    (z_range : PySem.W.nsIn K mainGlobals "range" = some none)
    (z_ValueError : PySem.W.nsIn K mainGlobals "ValueError" = some none)
    (z_LookupError : PySem.W.nsIn K mainGlobals "LookupError" = some none)
    (z_bool : PySem.W.nsIn K mainGlobals "bool" = some none)
    (z_dict : PySem.W.nsIn K mainGlobals "dict" = some none)
    (z_sum : PySem.W.nsIn K mainGlobals "sum" = some none)
    (z_enumerate : PySem.W.nsIn K mainGlobals "enumerate" = some none)
    (z_any : PySem.W.nsIn K mainGlobals "any" = some none)
    (z_sorted : PySem.W.nsIn K mainGlobals "sorted" = some none)
    (aA : PySem.W.nsIn K mainGlobals "ALPHABET" = some (some (.str alphabet tA)))
    (aB : PySem.W.nsIn K mainGlobals "BLANK" = some (some (.str "-" tB)))
    (aC : PySem.W.nsIn K mainGlobals "Font" = some (some (.ref C)))
    (pgC : PySem.W.plainGet K C Str.empty = true)
    (hdC : PySem.W.hasDictIn K C = true)
    (poC : PySem.W.plainOver K C = true)
    (saC : PySem.W.findIn K (.ref C) "__setattr__" = some (some (.builtin "object.__setattr__")))
    (nC_signs : PySem.W.findIn K (.ref C) "_signs" = some none)
    (nC_turns : PySem.W.findIn K (.ref C) "_turns" = some none)
    (rdC : PySem.W.readsIn K C (.type "type") = true)
    (gaC : PySem.W.specialIn K (.ref C) "__getattribute__" = some (some (.builtin "type.__getattribute__")))
    (caC : PySem.W.findIn K (.ref C) "__class__" = some (some (.builtin "object.__class__")))
    (obG : PySem.W.specialIn K (.builtin "object.__class__") "__get__" = some (some (.builtin "getset_descriptor.__get__")))
    (obT : PySem.W.takesIn K (.builtin "object.__class__") = some true)
    (moC : PySem.W.mroIn K C (.type "object") = some true)
    (mv : PySem.W.findCls K (.ref C) (.type "type") "MAX_SIGNS" = some (.val (.int 10 tm)))
    (aCC : PySem.W.nsIn K mainGlobals "Case" = some (some (.ref CC)))
    (pgCC : PySem.W.plainGet K CC Str.empty = true)
    (hdCC : PySem.W.hasDictIn K CC = true)
    (poCC : PySem.W.plainOver K CC = true)
    (saCC : PySem.W.findIn K (.ref CC) "__setattr__" = some (some (.builtin "object.__setattr__")))
    (nCC_font : PySem.W.findIn K (.ref CC) "_font" = some none)
    (nCC_counts : PySem.W.findIn K (.ref CC) "_counts" = some none)
    (nCC_plates : PySem.W.findIn K (.ref CC) "_plates" = some none)
    (rdCC : PySem.W.readsIn K CC (.type "type") = true)
    (gaCC : PySem.W.specialIn K (.ref CC) "__getattribute__" = some (some (.builtin "type.__getattribute__")))
    (caCC : PySem.W.findIn K (.ref CC) "__class__" = some (some (.builtin "object.__class__")))
    (moCC : PySem.W.mroIn K CC (.type "object") = some true)
    (mvQ : PySem.W.findCls K (.ref CC) (.type "type") "MAX_COUNT" = some (.val (.int 1000000000000000000000000000000 tq)))
    (aLi : PySem.W.nsIn K mainGlobals "is_listed" = some (some (.ref fLi)))
    (lLi : K.lookup fLi = some ⟨ocLi, odLi, .func (PySem.W.fnOf "is_listed" "is_listed" (defArgs s_isListed) (defBody s_isListed) (defScope s_isListed) .none kVLi dcLi pmLi anLi cdLi ctLi), slLi⟩)
    (cLi : PySem.W.codeIn K cdLi "is_listed" = true)
    (kLi : PySem.W.keepIn K (.ref fLi) = true)
    (aFs : PySem.W.nsIn K mainGlobals "is_font_signs" = some (some (.ref fFs)))
    (lFs : K.lookup fFs = some ⟨ocFs, odFs, .func (PySem.W.fnOf "is_font_signs" "is_font_signs" (defArgs s_isFont) (defBody s_isFont) (defScope s_isFont) .none kVFs dcFs pmFs anFs cdFs ctFs), slFs⟩)
    (cFs : PySem.W.codeIn K cdFs "is_font_signs" = true)
    (kFs : PySem.W.keepIn K (.ref fFs) = true)
    (aSi : PySem.W.nsIn K mainGlobals "is_sign" = some (some (.ref fSi)))
    (lSi : K.lookup fSi = some ⟨ocSi, odSi, .func (PySem.W.fnOf "is_sign" "is_sign" (defArgs s_isSign) (defBody s_isSign) (defScope s_isSign) .none kVSi dcSi pmSi anSi cdSi ctSi), slSi⟩)
    (cSi : PySem.W.codeIn K cdSi "is_sign" = true)
    (kSi : PySem.W.keepIn K (.ref fSi) = true)
    (aSe : PySem.W.nsIn K mainGlobals "is_set" = some (some (.ref fSe)))
    (lSe : K.lookup fSe = some ⟨ocSe, odSe, .func (PySem.W.fnOf "is_set" "is_set" (defArgs s_isSet) (defBody s_isSet) (defScope s_isSet) .none kVSe dcSe pmSe anSe cdSe ctSe), slSe⟩)
    (cSe : PySem.W.codeIn K cdSe "is_set" = true)
    (kSe : PySem.W.keepIn K (.ref fSe) = true)
    (aIk : PySem.W.nsIn K mainGlobals "is_kind" = some (some (.ref fIk)))
    (lIk : K.lookup fIk = some ⟨ocIk, odIk, .func (PySem.W.fnOf "is_kind" "is_kind" (defArgs s_isKind) (defBody s_isKind) (defScope s_isKind) .none kVIk dcIk pmIk anIk cdIk ctIk), slIk⟩)
    (cIk : PySem.W.codeIn K cdIk "is_kind" = true)
    (kIk : PySem.W.keepIn K (.ref fIk) = true)
    (aKt : PySem.W.nsIn K mainGlobals "kept_turns" = some (some (.ref fKt)))
    (lKt : K.lookup fKt = some ⟨ocKt, odKt, .func (PySem.W.fnOf "kept_turns" "kept_turns" (defArgs s_kept) (defBody s_kept) (defScope s_kept) .none kVKt dcKt pmKt anKt cdKt ctKt), slKt⟩)
    (cKt : PySem.W.codeIn K cdKt "kept_turns" = true)
    (kKt : PySem.W.keepIn K (.ref fKt) = true)
    (aPa : PySem.W.nsIn K mainGlobals "_is_pair" = some (some (.ref fPa)))
    (lPa : K.lookup fPa = some ⟨ocPa, odPa, .func (PySem.W.fnOf "_is_pair" "_is_pair" (defArgs s_isPair) (defBody s_isPair) (defScope s_isPair) .none kVPa dcPa pmPa anPa cdPa ctPa), slPa⟩)
    (cPa : PySem.W.codeIn K cdPa "_is_pair" = true)
    (kPa : PySem.W.keepIn K (.ref fPa) = true)
    (aIt : PySem.W.nsIn K mainGlobals "is_integer" = some (some (.ref fIt)))
    (lIt : K.lookup fIt = some ⟨ocIt, odIt, .func (PySem.W.fnOf "is_integer" "is_integer" (defArgs s_isInt) (defBody s_isInt) (defScope s_isInt) .none kVIt dcIt pmIt anIt cdIt ctIt), slIt⟩)
    (cIt : PySem.W.codeIn K cdIt "is_integer" = true)
    (kIt : PySem.W.keepIn K (.ref fIt) = true)
    (aNu : PySem.W.nsIn K mainGlobals "is_number" = some (some (.ref fNu)))
    (lNu : K.lookup fNu = some ⟨ocNu, odNu, .func (PySem.W.fnOf "is_number" "is_number" (defArgs s_isNum) (defBody s_isNum) (defScope s_isNum) (.ref tDNu) kVNu dcNu pmNu anNu cdNu ctNu), slNu⟩)
    (dNu : K.lookup tDNu = some ⟨oDNu, aDNu, .seq #[Value.none] nDNu, sDNu⟩)
    (cNu : PySem.W.codeIn K cdNu "is_number" = true)
    (kNu : PySem.W.keepIn K (.ref fNu) = true)
    (aAk : PySem.W.nsIn K mainGlobals "all_kinds" = some (some (.ref fAk)))
    (lAk : K.lookup fAk = some ⟨ocAk, odAk, .func (PySem.W.fnOf "all_kinds" "all_kinds" (defArgs s_allKinds) (defBody s_allKinds) (defScope s_allKinds) .none kVAk dcAk pmAk anAk cdAk ctAk), slAk⟩)
    (cAk : PySem.W.codeIn K cdAk "all_kinds" = true)
    (kAk : PySem.W.keepIn K (.ref fAk) = true)
    (aEn : PySem.W.nsIn K mainGlobals "_is_entry" = some (some (.ref fEn)))
    (lEn : K.lookup fEn = some ⟨ocEn, odEn, .func (PySem.W.fnOf "_is_entry" "_is_entry" (defArgs s_isEntry) (defBody s_isEntry) (defScope s_isEntry) .none kVEn dcEn pmEn anEn cdEn ctEn), slEn⟩)
    (cEn : PySem.W.codeIn K cdEn "_is_entry" = true)
    (kEn : PySem.W.keepIn K (.ref fEn) = true)
    (aCo : PySem.W.nsIn K mainGlobals "_counted" = some (some (.ref fCo)))
    (lCo : K.lookup fCo = some ⟨ocCo, odCo, .func (PySem.W.fnOf "_counted" "_counted" (defArgs s_counted) (defBody s_counted) (defScope s_counted) .none kVCo dcCo pmCo anCo cdCo ctCo), slCo⟩)
    (cCo : PySem.W.codeIn K cdCo "_counted" = true)
    (kCo : PySem.W.keepIn K (.ref fCo) = true)
    (aWs : PySem.W.nsIn K mainGlobals "written_set" = some (some (.ref fWs)))
    (lWs : K.lookup fWs = some ⟨ocWs, odWs, .func (PySem.W.fnOf "written_set" "written_set" (defArgs s_written) (defBody s_written) (defScope s_written) .none kVWs dcWs pmWs anWs cdWs ctWs), slWs⟩)
    (cWs : PySem.W.codeIn K cdWs "written_set" = true)
    (kWs : PySem.W.keepIn K (.ref fWs) = true)
    (aMe : PySem.W.nsIn K mainGlobals "_meet" = some (some (.ref fMe)))
    (lMe : K.lookup fMe = some ⟨ocMe, odMe, .func (PySem.W.fnOf "_meet" "_meet" (defArgs s_meet) (defBody s_meet) (defScope s_meet) .none kVMe dcMe pmMe anMe cdMe ctMe), slMe⟩)
    (cMe : PySem.W.codeIn K cdMe "_meet" = true)
    (kMe : PySem.W.keepIn K (.ref fMe) = true)
    (aPe : PySem.W.nsIn K mainGlobals "_law_pen" = some (some (.ref fPe)))
    (lPe : K.lookup fPe = some ⟨ocPe, odPe, .func (PySem.W.fnOf "_law_pen" "_law_pen" (defArgs s_pen) (defBody s_pen) (defScope s_pen) .none kVPe dcPe pmPe anPe cdPe ctPe), slPe⟩)
    (cPe : PySem.W.codeIn K cdPe "_law_pen" = true)
    (kPe : PySem.W.keepIn K (.ref fPe) = true)
    (aDr : PySem.W.nsIn K mainGlobals "_law_draw" = some (some (.ref fDr)))
    (lDr : K.lookup fDr = some ⟨ocDr, odDr, .func (PySem.W.fnOf "_law_draw" "_law_draw" (defArgs s_draw) (defBody s_draw) (defScope s_draw) .none kVDr dcDr pmDr anDr cdDr ctDr), slDr⟩)
    (cDr : PySem.W.codeIn K cdDr "_law_draw" = true)
    (kDr : PySem.W.keepIn K (.ref fDr) = true)
    (aPi : PySem.W.nsIn K mainGlobals "_law_pick" = some (some (.ref fPi)))
    (lPi : K.lookup fPi = some ⟨ocPi, odPi, .func (PySem.W.fnOf "_law_pick" "_law_pick" (defArgs s_pick) (defBody s_pick) (defScope s_pick) .none kVPi dcPi pmPi anPi cdPi ctPi), slPi⟩)
    (cPi : PySem.W.codeIn K cdPi "_law_pick" = true)
    (kPi : PySem.W.keepIn K (.ref fPi) = true)
    (aSh : PySem.W.nsIn K mainGlobals "_law_shuffled" = some (some (.ref fSh)))
    (lSh : K.lookup fSh = some ⟨ocSh, odSh, .func (PySem.W.fnOf "_law_shuffled" "_law_shuffled" (defArgs s_shuf) (defBody s_shuf) (defScope s_shuf) .none kVSh dcSh pmSh anSh cdSh ctSh), slSh⟩)
    (cSh : PySem.W.codeIn K cdSh "_law_shuffled" = true)
    (kSh : PySem.W.keepIn K (.ref fSh) = true)
    (aOd : PySem.W.nsIn K mainGlobals "_law_odd" = some (some (.ref fOd)))
    (lOd : K.lookup fOd = some ⟨ocOd, odOd, .func (PySem.W.fnOf "_law_odd" "_law_odd" (defArgs s_odd) (defBody s_odd) (defScope s_odd) .none kVOd dcOd pmOd anOd cdOd ctOd), slOd⟩)
    (cOd : PySem.W.codeIn K cdOd "_law_odd" = true)
    (kOd : PySem.W.keepIn K (.ref fOd) = true)
    (aFo : PySem.W.nsIn K mainGlobals "_law_font" = some (some (.ref fFo)))
    (lFo : K.lookup fFo = some ⟨ocFo, odFo, .func (PySem.W.fnOf "_law_font" "_law_font" (defArgs s_font) (defBody s_font) (defScope s_font) .none kVFo dcFo pmFo anFo cdFo ctFo), slFo⟩)
    (cFo : PySem.W.codeIn K cdFo "_law_font" = true)
    (kFo : PySem.W.keepIn K (.ref fFo) = true)
    (aHe : PySem.W.nsIn K mainGlobals "_law_heads" = some (some (.ref fHe)))
    (lHe : K.lookup fHe = some ⟨ocHe, odHe, .func (PySem.W.fnOf "_law_heads" "_law_heads" (defArgs s_heads) (defBody s_heads) (defScope s_heads) .none kVHe dcHe pmHe anHe cdHe ctHe), slHe⟩)
    (cHe : PySem.W.codeIn K cdHe "_law_heads" = true)
    (kHe : PySem.W.keepIn K (.ref fHe) = true)
    (aKs : PySem.W.nsIn K mainGlobals "_law_kinds" = some (some (.ref fKs)))
    (lKs : K.lookup fKs = some ⟨ocKs, odKs, .func (PySem.W.fnOf "_law_kinds" "_law_kinds" (defArgs s_kinds) (defBody s_kinds) (defScope s_kinds) .none kVKs dcKs pmKs anKs cdKs ctKs), slKs⟩)
    (cKs : PySem.W.codeIn K cdKs "_law_kinds" = true)
    (kKs : PySem.W.keepIn K (.ref fKs) = true)
    (aOr : PySem.W.nsIn K mainGlobals "_law_ordered" = some (some (.ref fOr)))
    (lOr : K.lookup fOr = some ⟨ocOr, odOr, .func (PySem.W.fnOf "_law_ordered" "_law_ordered" (defArgs s_ordered) (defBody s_ordered) (defScope s_ordered) .none kVOr dcOr pmOr anOr cdOr ctOr), slOr⟩)
    (cOr : PySem.W.codeIn K cdOr "_law_ordered" = true)
    (kOr : PySem.W.keepIn K (.ref fOr) = true)
    (aPl : PySem.W.nsIn K mainGlobals "_law_plain" = some (some (.ref fPl)))
    (lPl : K.lookup fPl = some ⟨ocPl, odPl, .func (PySem.W.fnOf "_law_plain" "_law_plain" (defArgs s_plain) (defBody s_plain) (defScope s_plain) .none kVPl dcPl pmPl anPl cdPl ctPl), slPl⟩)
    (cPl : PySem.W.codeIn K cdPl "_law_plain" = true)
    (kPl : PySem.W.keepIn K (.ref fPl) = true)
    (aFl : PySem.W.nsIn K mainGlobals "_law_flipped" = some (some (.ref fFl)))
    (lFl : K.lookup fFl = some ⟨ocFl, odFl, .func (PySem.W.fnOf "_law_flipped" "_law_flipped" (defArgs s_flip) (defBody s_flip) (defScope s_flip) .none kVFl dcFl pmFl anFl cdFl ctFl), slFl⟩)
    (cFl : PySem.W.codeIn K cdFl "_law_flipped" = true)
    (kFl : PySem.W.keepIn K (.ref fFl) = true)
    (aFm : PySem.W.nsIn K mainGlobals "_law_font_made" = some (some (.ref fFm)))
    (lFm : K.lookup fFm = some ⟨ocFm, odFm, .func (PySem.W.fnOf "_law_font_made" "_law_font_made" (defArgs s_fmade) (defBody s_fmade) (defScope s_fmade) .none kVFm dcFm pmFm anFm cdFm ctFm), slFm⟩)
    (cFm : PySem.W.codeIn K cdFm "_law_font_made" = true)
    (kFm : PySem.W.keepIn K (.ref fFm) = true)
    (aMa : PySem.W.nsIn K mainGlobals "_law_made" = some (some (.ref fMa)))
    (lMa : K.lookup fMa = some ⟨ocMa, odMa, .func (PySem.W.fnOf "_law_made" "_law_made" (defArgs s_cmade) (defBody s_cmade) (defScope s_cmade) .none kVMa dcMa pmMa anMa cdMa ctMa), slMa⟩)
    (cMa : PySem.W.codeIn K cdMa "_law_made" = true)
    (kMa : PySem.W.keepIn K (.ref fMa) = true)
    (aSn : PySem.W.nsIn K mainGlobals "_law_seen" = some (some (.ref fSn)))
    (lSn : K.lookup fSn = some ⟨ocSn, odSn, .func (PySem.W.fnOf "_law_seen" "_law_seen" (defArgs s_seen) (defBody s_seen) (defScope s_seen) .none kVSn dcSn pmSn anSn cdSn ctSn), slSn⟩)
    (cSn : PySem.W.codeIn K cdSn "_law_seen" = true)
    (kSn : PySem.W.keepIn K (.ref fSn) = true)
    (aLb : PySem.W.nsIn K mainGlobals "_law_bearing" = some (some (.ref fLb)))
    (lLb : K.lookup fLb = some ⟨ocLb, odLb, .func (PySem.W.fnOf "_law_bearing" "_law_bearing" (defArgs s_lbear) (defBody s_lbear) (defScope s_lbear) .none kVLb dcLb pmLb anLb cdLb ctLb), slLb⟩)
    (cLb : PySem.W.codeIn K cdLb "_law_bearing" = true)
    (kLb : PySem.W.keepIn K (.ref fLb) = true)
    (aTo : PySem.W.nsIn K mainGlobals "_law_told" = some (some (.ref fTo)))
    (lTo : K.lookup fTo = some ⟨ocTo, odTo, .func (PySem.W.fnOf "_law_told" "_law_told" (defArgs s_told6) (defBody s_told6) (defScope s_told6) .none kVTo dcTo pmTo anTo cdTo ctTo), slTo⟩)
    (cTo : PySem.W.codeIn K cdTo "_law_told" = true)
    (kTo : PySem.W.keepIn K (.ref fTo) = true)
    (aLt : PySem.W.nsIn K mainGlobals "_law_sets" = some (some (.ref fLt)))
    (lLt : K.lookup fLt = some ⟨ocLt, odLt, .func (PySem.W.fnOf "_law_sets" "_law_sets" (defArgs s_sets) (defBody s_sets) (defScope s_sets) .none kVLt dcLt pmLt anLt (.ref cS) ctLt), slLt⟩)
    (cLt : PySem.W.codeIn K (.ref cS) "_law_sets" = true)
    (kLt : PySem.W.keepIn K (.ref fLt) = true)
    (aInC : PySem.W.findIn K (.ref C) "__init__" = some (some (.ref fInC)))
    (iInC : PySem.W.isFn K (.ref fInC) = true)
    (lInC : K.lookup fInC = some ⟨ocInC, odInC, .func (PySem.W.fnOf "__init__" "Font.__init__" (defArgs s_init) (defBody s_init) (defScope s_init) (.ref tDInC) kVInC dcInC pmInC anInC cdInC ctInC), slInC⟩)
    (dInC : K.lookup tDInC = some ⟨oDInC, aDInC, .seq #[Value.ref tEInC0] nDInC, sDInC⟩)
    (eInC0 : K.lookup tEInC0 = some ⟨.type "tuple", aEInC0, .seq #[] nEInC0, sEInC0⟩)
    (cInC : PySem.W.codeIn K cdInC "Font.__init__" = true)
    (kInC : PySem.W.keepIn K (.ref fInC) = true)
    (mkC : PySem.W.makesIn K C = true)
    (kCC : PySem.W.keepIn K (.ref C) = true)
    (aFc : PySem.W.findIn K (.ref C) "__contains__" = some (some (.ref fFc)))
    (iFc : PySem.W.isFn K (.ref fFc) = true)
    (lFc : K.lookup fFc = some ⟨ocFc, odFc, .func (PySem.W.fnOf "__contains__" "Font.__contains__" (defArgs s_fcont) (defBody s_fcont) (defScope s_fcont) .none kVFc dcFc pmFc anFc cdFc ctFc), slFc⟩)
    (cFc : PySem.W.codeIn K cdFc "Font.__contains__" = true)
    (kFc : PySem.W.keepIn K (.ref fFc) = true)
    (aTn : PySem.W.findIn K (.ref C) "turned" = some (some (.ref fTn)))
    (iTn : PySem.W.isFn K (.ref fTn) = true)
    (lTn : K.lookup fTn = some ⟨ocTn, odTn, .func (PySem.W.fnOf "turned" "Font.turned" (defArgs s_turned) (defBody s_turned) (defScope s_turned) .none kVTn dcTn pmTn anTn cdTn ctTn), slTn⟩)
    (cTn : PySem.W.codeIn K cdTn "Font.turned" = true)
    (kTn : PySem.W.keepIn K (.ref fTn) = true)
    (aKm : PySem.W.findIn K (.ref C) "kept" = some (some (.ref fKm)))
    (iKm : PySem.W.isFn K (.ref fKm) = true)
    (lKm : K.lookup fKm = some ⟨ocKm, odKm, .func (PySem.W.fnOf "kept" "Font.kept" (defArgs s_keptM) (defBody s_keptM) (defScope s_keptM) .none kVKm dcKm pmKm anKm cdKm ctKm), slKm⟩)
    (cKm : PySem.W.codeIn K cdKm "Font.kept" = true)
    (kKm : PySem.W.keepIn K (.ref fKm) = true)
    (aSm : PySem.W.findIn K (.ref C) "shown" = some (some (.ref fSm)))
    (iSm : PySem.W.isFn K (.ref fSm) = true)
    (lSm : K.lookup fSm = some ⟨ocSm, odSm, .func (PySem.W.fnOf "shown" "Font.shown" (defArgs s_shownM) (defBody s_shownM) (defScope s_shownM) .none kVSm dcSm pmSm anSm cdSm ctSm), slSm⟩)
    (cSm : PySem.W.codeIn K cdSm "Font.shown" = true)
    (kSm : PySem.W.keepIn K (.ref fSm) = true)
    (aPs : PySem.W.findIn K (.ref C) "signs" = some (some (.ref pPs)))
    (gPs : PySem.W.specialIn K (.ref pPs) "__get__" = some (some (.builtin "property.__get__")))
    (tPs : PySem.W.takesIn K (.ref pPs) = some true)
    (rPs : PySem.W.recIn K pPs "property" = some (.ref fPs :: rrPs))
    (lPs : K.lookup fPs = some ⟨ocPs, odPs, .func (PySem.W.fnOf "signs" "Font.signs" (defArgs (inCls s_cls 4)) (defBody (inCls s_cls 4)) (defScope (inCls s_cls 4)) .none kVPs dcPs pmPs anPs cdPs ctPs), slPs⟩)
    (cPs : PySem.W.codeIn K cdPs "Font.signs" = true)
    (aInCC : PySem.W.findIn K (.ref CC) "__init__" = some (some (.ref fInCC)))
    (iInCC : PySem.W.isFn K (.ref fInCC) = true)
    (lInCC : K.lookup fInCC = some ⟨ocInCC, odInCC, .func (PySem.W.fnOf "__init__" "Case.__init__" (defArgs c_init) (defBody c_init) (defScope c_init) (.ref tDInCC) kVInCC dcInCC pmInCC anInCC cdInCC ctInCC), slInCC⟩)
    (dInCC : K.lookup tDInCC = some ⟨oDInCC, aDInCC, .seq #[Value.ref tEInCC0] nDInCC, sDInCC⟩)
    (eInCC0 : K.lookup tEInCC0 = some ⟨.type "tuple", aEInCC0, .seq #[] nEInCC0, sEInCC0⟩)
    (cInCC : PySem.W.codeIn K cdInCC "Case.__init__" = true)
    (kInCC : PySem.W.keepIn K (.ref fInCC) = true)
    (mkCC : PySem.W.makesIn K CC = true)
    (kCCC : PySem.W.keepIn K (.ref CC) = true)
    (aBr : PySem.W.findIn K (.ref CC) "bearing" = some (some (.ref fBr)))
    (iBr : PySem.W.isFn K (.ref fBr) = true)
    (lBr : K.lookup fBr = some ⟨ocBr, odBr, .func (PySem.W.fnOf "bearing" "Case.bearing" (defArgs c_bear) (defBody c_bear) (defScope c_bear) .none kVBr dcBr pmBr anBr cdBr ctBr), slBr⟩)
    (cBr : PySem.W.codeIn K cdBr "Case.bearing" = true)
    (kBr : PySem.W.keepIn K (.ref fBr) = true)
    (aIK : PySem.W.nsIn K mainGlobals "InvalidKind" = some (some (.ref IK)))
    (xIK : K.lookup IK = some (excClassObj nmIK qIK IK NIK bsIK bmValue true snIK subIK abIK colIK ddIK m0IK m1IK m2IK m3IK m5IK "ValueError.__new__"))
    (sIK : PySem.W.findIn K (.ref IK) "__setattr__" = some (some (.builtin "object.__setattr__")))
    (gIK : PySem.W.findIn K (.ref IK) "__getattribute__" = some (some (.builtin "BaseException.__getattribute__")))
    (hIK : PySem.W.findIn K (.ref IK) "__getattr__" = some none)
    (nIK : PySem.W.findIn K (.ref IK) "value" = some none)
    (iIK : PySem.W.findIn K (.ref IK) "__init__" = some (some (.ref fIK)))
    (tIK : PySem.W.typeIn K (.ref fIK) = some (.type "function"))
    (lIK : K.lookup fIK = some ⟨ocIK, odIK, .func (PySem.W.fnOf "__init__" "InvalidKind.__init__" (eArgs "value" ⟨29, 17, 29, 21⟩ ⟨29, 23, 29, 28⟩) (eBody "value" ⟨30, 8, 30, 12⟩ ⟨30, 8, 30, 18⟩ ⟨30, 21, 30, 26⟩ ⟨30, 8, 30, 26⟩) (eScope "value") .none .none dcIK pmIK anIK cdIK ctIK), slIK⟩)
    (cIK : PySem.W.codeIn K cdIK "InvalidKind.__init__" = true)
    (kIK : PySem.W.keepIn K (.ref IK) = true)
    (eIK : PySem.W.subIn K (.ref IK) (.type "BaseException") = some true)
    (yIK : PySem.W.typeIn K (.ref IK) = some (.type "type"))
    (dIK : PySem.W.hasDictIn K IK = true)
    (bIK : PySem.W.isClsIn K IK = true)
    (zIK : PySem.W.subIn K (.ref IK) (.ref IK) = some true)
    (aIS : PySem.W.nsIn K mainGlobals "InvalidSigns" = some (some (.ref IS)))
    (xIS : K.lookup IS = some (excClassObj nmIS qIS IS NIS bsIS bmValue true snIS subIS abIS colIS ddIS m0IS m1IS m2IS m3IS m5IS "ValueError.__new__"))
    (sIS : PySem.W.findIn K (.ref IS) "__setattr__" = some (some (.builtin "object.__setattr__")))
    (gIS : PySem.W.findIn K (.ref IS) "__getattribute__" = some (some (.builtin "BaseException.__getattribute__")))
    (hIS : PySem.W.findIn K (.ref IS) "__getattr__" = some none)
    (nIS : PySem.W.findIn K (.ref IS) "value" = some none)
    (iIS : PySem.W.findIn K (.ref IS) "__init__" = some (some (.ref fIS)))
    (tIS : PySem.W.typeIn K (.ref fIS) = some (.type "function"))
    (lIS : K.lookup fIS = some ⟨ocIS, odIS, .func (PySem.W.fnOf "__init__" "InvalidSigns.__init__" (eArgs "value" ⟨37, 17, 37, 21⟩ ⟨37, 23, 37, 28⟩) (eBody "value" ⟨38, 8, 38, 12⟩ ⟨38, 8, 38, 18⟩ ⟨38, 21, 38, 26⟩ ⟨38, 8, 38, 26⟩) (eScope "value") .none .none dcIS pmIS anIS cdIS ctIS), slIS⟩)
    (cIS : PySem.W.codeIn K cdIS "InvalidSigns.__init__" = true)
    (kIS : PySem.W.keepIn K (.ref IS) = true)
    (eIS : PySem.W.subIn K (.ref IS) (.type "BaseException") = some true)
    (yIS : PySem.W.typeIn K (.ref IS) = some (.type "type"))
    (dIS : PySem.W.hasDictIn K IS = true)
    (bIS : PySem.W.isClsIn K IS = true)
    (zIS : PySem.W.subIn K (.ref IS) (.ref IS) = some true)
    (vIS : PySem.W.subIn K (.ref IS) (.type "ValueError") = some true)
    (aUS : PySem.W.nsIn K mainGlobals "UnknownSign" = some (some (.ref US)))
    (xUS : K.lookup US = some (excClassObj nmUS qUS US NUS bsUS bmKey true snUS subUS abUS colUS ddUS m0US m1US m2US m3US m5US "LookupError.__new__"))
    (sUS : PySem.W.findIn K (.ref US) "__setattr__" = some (some (.builtin "object.__setattr__")))
    (gUS : PySem.W.findIn K (.ref US) "__getattribute__" = some (some (.builtin "BaseException.__getattribute__")))
    (hUS : PySem.W.findIn K (.ref US) "__getattr__" = some none)
    (nUS : PySem.W.findIn K (.ref US) "value" = some none)
    (iUS : PySem.W.findIn K (.ref US) "__init__" = some (some (.ref fUS)))
    (tUS : PySem.W.typeIn K (.ref fUS) = some (.type "function"))
    (lUS : K.lookup fUS = some ⟨ocUS, odUS, .func (PySem.W.fnOf "__init__" "UnknownSign.__init__" (eArgs "value" ⟨51, 17, 51, 21⟩ ⟨51, 23, 51, 28⟩) (eBody "value" ⟨52, 8, 52, 12⟩ ⟨52, 8, 52, 18⟩ ⟨52, 21, 52, 26⟩ ⟨52, 8, 52, 26⟩) (eScope "value") .none .none dcUS pmUS anUS cdUS ctUS), slUS⟩)
    (cUS : PySem.W.codeIn K cdUS "UnknownSign.__init__" = true)
    (kUS : PySem.W.keepIn K (.ref US) = true)
    (eUS : PySem.W.subIn K (.ref US) (.type "BaseException") = some true)
    (yUS : PySem.W.typeIn K (.ref US) = some (.type "type"))
    (dUS : PySem.W.hasDictIn K US = true)
    (bUS : PySem.W.isClsIn K US = true)
    (zUS : PySem.W.subIn K (.ref US) (.ref US) = some true)
    (aIN : PySem.W.nsIn K mainGlobals "InvalidNumber" = some (some (.ref IN)))
    (eIN : PySem.W.subIn K (.ref IN) (.type "BaseException") = some true)
    (yIN : PySem.W.typeIn K (.ref IN) = some (.type "type"))
    (bIN : PySem.W.isClsIn K IN = true)
    (aTF : PySem.W.nsIn K mainGlobals "TooFew" = some (some (.ref TF)))
    (eTF : PySem.W.subIn K (.ref TF) (.type "BaseException") = some true)
    (yTF : PySem.W.typeIn K (.ref TF) = some (.type "type"))
    (bTF : PySem.W.isClsIn K TF = true)
    (aTM : PySem.W.nsIn K mainGlobals "TooMany" = some (some (.ref TM)))
    (eTM : PySem.W.subIn K (.ref TM) (.type "BaseException") = some true)
    (yTM : PySem.W.typeIn K (.ref TM) = some (.type "type"))
    (bTM : PySem.W.isClsIn K TM = true)
    (aOF : PySem.W.nsIn K mainGlobals "OtherFont" = some (some (.ref OF)))
    (eOF : PySem.W.subIn K (.ref OF) (.type "BaseException") = some true)
    (yOF : PySem.W.typeIn K (.ref OF) = some (.type "type"))
    (bOF : PySem.W.isClsIn K OF = true)
    (wISIK : PySem.W.subIn K (.ref IS) (.ref IK) = some false)
    (wISIN : PySem.W.subIn K (.ref IS) (.ref IN) = some false)
    (wISTF : PySem.W.subIn K (.ref IS) (.ref TF) = some false)
    (wISTM : PySem.W.subIn K (.ref IS) (.ref TM) = some false)
    (wISOF : PySem.W.subIn K (.ref IS) (.ref OF) = some false)
    (aLa : PySem.W.nsIn K mainGlobals "law" = some (some (.ref fLa)))
    (lLa : K.lookup fLa = some ⟨ocLa, odLa, .func (PySem.W.fnOf "law" "law" (defArgs s_law) (defBody s_law) (defScope s_law) .none kVLa dcLa pmLa anLa (.ref cL) ctLa), slLa⟩)
    (cLa : PySem.W.codeIn K (.ref cL) "law" = true)
    (tbL : h.get? PL = some emptyTab)
    (tbS : h.get? PS = some emptyTab)
    (chL : PySem.W.codeHdIn K cL PL = true)
    (nPL : K.lookup PL = none)
    (chS : PySem.W.codeHdIn K cS PS = true)
    (nPS : K.lookup PS = none)
    (neLS : PL ≠ PS) :
    LawG l w K 13 63 "_law_script" mg fa h := by
  have e := hfa.symm.trans (PySem.W.mg_of X G aLa)
  cases e
  have T : TB mg := ⟨PySem.W.mg_none_of X G z_int, PySem.W.mg_none_of X G z_len, PySem.W.mg_none_of X G z_abs, PySem.W.mg_none_of X G z_list, PySem.W.mg_none_of X G z_tuple, PySem.W.mg_none_of X G z_str, PySem.W.mg_none_of X G z_set, PySem.W.mg_none_of X G z_all, PySem.W.mg_none_of X G z_isinstance, PySem.W.mg_none_of X G z_repr, PySem.W.mg_none_of X G z_range⟩
  have TD : TDraw mg := ⟨T.int, T.len, T.abs⟩
  have gA := PySem.W.mg_of X G aA
  have gB := PySem.W.mg_of X G aB
  have clC : Cls K C := ⟨pgC, hdC, poC, saC⟩
  have gC := PySem.W.mg_of X G aC
  have rCC : ClX.CRead K C (.type "type") := ⟨rdC, gaC⟩
  have IC : InsT K C := ⟨clC, caC, obG, obT, moC⟩
  have cM : ClX.CVal K C (.type "type") "MAX_SIGNS" (.int 10) (.int 10 tm) := ⟨mv, ⟨_, rfl⟩⟩
  have clCC : Cls K CC := ⟨pgCC, hdCC, poCC, saCC⟩
  have gCC := PySem.W.mg_of X G aCC
  have rCCC : ClX.CRead K CC (.type "type") := ⟨rdCC, gaCC⟩
  have ICC : InsT K CC := ⟨clCC, caCC, obG, obT, moCC⟩
  have cQ : ClX.CVal K CC (.type "type") "MAX_COUNT" (.int big30) (.int 1000000000000000000000000000000 tq) := ⟨mvQ, ⟨_, rfl⟩⟩
  have cc : CCls K CC := ⟨clCC, nCC_font, nCC_counts, nCC_plates⟩
  have FLi := fun_mk (st := s_isListed) lLi cLi kLi
  have DLi : Def K mg "is_listed" fLi _ ["value"] := ⟨PySem.W.mg_of X G aLi, kLi, FLi.binds (ps := ["value"]) fun _ _ _ _ _ _ us hl => match us, hl with | [_], _ => rfl⟩
  have FFs := fun_mk (st := s_isFont) lFs cFs kFs
  have DFs : Def K mg "is_font_signs" fFs _ ["value"] := ⟨PySem.W.mg_of X G aFs, kFs, FFs.binds (ps := ["value"]) fun _ _ _ _ _ _ us hl => match us, hl with | [_], _ => rfl⟩
  have FSi := fun_mk (st := s_isSign) lSi cSi kSi
  have DSi : Def K mg "is_sign" fSi _ ["signs", "value"] := ⟨PySem.W.mg_of X G aSi, kSi, FSi.binds (ps := ["signs", "value"]) fun _ _ _ _ _ _ us hl => match us, hl with | [_, _], _ => rfl⟩
  have FSe := fun_mk (st := s_isSet) lSe cSe kSe
  have DSe : Def K mg "is_set" fSe _ ["signs", "value"] := ⟨PySem.W.mg_of X G aSe, kSe, FSe.binds (ps := ["signs", "value"]) fun _ _ _ _ _ _ us hl => match us, hl with | [_, _], _ => rfl⟩
  have FIk := fun_mk (st := s_isKind) lIk cIk kIk
  have DIk : Def K mg "is_kind" fIk _ ["signs", "value"] := ⟨PySem.W.mg_of X G aIk, kIk, FIk.binds (ps := ["signs", "value"]) fun _ _ _ _ _ _ us hl => match us, hl with | [_, _], _ => rfl⟩
  have FKt := fun_mk (st := s_kept) lKt cKt kKt
  have DKt : Def K mg "kept_turns" fKt _ ["signs", "turns"] := ⟨PySem.W.mg_of X G aKt, kKt, FKt.binds (ps := ["signs", "turns"]) fun _ _ _ _ _ _ us hl => match us, hl with | [_, _], _ => rfl⟩
  have FPa := fun_mk (st := s_isPair) lPa cPa kPa
  have DPa : Def K mg "_is_pair" fPa _ ["signs", "value"] := ⟨PySem.W.mg_of X G aPa, kPa, FPa.binds (ps := ["signs", "value"]) fun _ _ _ _ _ _ us hl => match us, hl with | [_, _], _ => rfl⟩
  have FIt := fun_mk (st := s_isInt) lIt cIt kIt
  have DIt : Def K mg "is_integer" fIt _ ["value"] := ⟨PySem.W.mg_of X G aIt, kIt, FIt.binds (ps := ["value"]) fun _ _ _ _ _ _ us hl => match us, hl with | [_], _ => rfl⟩
  have FNu : FunD K "is_number" "is_number" (defArgs s_isNum) (defBody s_isNum) (defScope s_isNum) [V.non] [] fNu (PySem.W.fnOf "is_number" "is_number" (defArgs s_isNum) (defBody s_isNum) (defScope s_isNum) (.ref tDNu) kVNu dcNu pmNu anNu cdNu ctNu) := ⟨⟨_, _, .ref tDNu, _, _, _, _, _, _, _, rfl, lNu, cNu, .inr ⟨(fun z => by cases z), tDNu, _, [Value.none], nDNu, rfl, dNu, rfl, .cons rfl .nil⟩, .inl rfl⟩, kNu⟩
  have bNu3 : Binds K (PySem.W.fnOf "is_number" "is_number" (defArgs s_isNum) (defBody s_isNum) (defScope s_isNum) (.ref tDNu) kVNu dcNu pmNu anNu cdNu ctNu) ["value", "least", "greatest"] [] := by
    obtain ⟨ds, hds, b⟩ := FNu.binds1 (ps := ["value", "least", "greatest"]) 3 1 (fun z => by cases z) rfl (fun _ _ _ _ _ _ _ us its hl hi => match us, its, hl, hi with | [_, _, _], [_], _, _ => ⟨_, rfl, rfl⟩)
    cases hds
    exact b
  have DNu : Def K mg "is_number" fNu _ ["value", "least", "greatest"] := ⟨PySem.W.mg_of X G aNu, kNu, bNu3⟩
  have FAk := fun_mk (st := s_allKinds) lAk cAk kAk
  have DAk : Def K mg "all_kinds" fAk _ ["font"] := ⟨PySem.W.mg_of X G aAk, kAk, FAk.binds (ps := ["font"]) fun _ _ _ _ _ _ us hl => match us, hl with | [_], _ => rfl⟩
  have FEn := fun_mk (st := s_isEntry) lEn cEn kEn
  have DEn : Def K mg "_is_entry" fEn _ ["font", "value"] := ⟨PySem.W.mg_of X G aEn, kEn, FEn.binds (ps := ["font", "value"]) fun _ _ _ _ _ _ us hl => match us, hl with | [_, _], _ => rfl⟩
  have FCo := fun_mk (st := s_counted) lCo cCo kCo
  have DCo : Def K mg "_counted" fCo _ ["font", "plates"] := ⟨PySem.W.mg_of X G aCo, kCo, FCo.binds (ps := ["font", "plates"]) fun _ _ _ _ _ _ us hl => match us, hl with | [_, _], _ => rfl⟩
  have FWs := fun_mk (st := s_written) lWs cWs kWs
  have DWs : Def K mg "written_set" fWs _ ["font", "signs"] := ⟨PySem.W.mg_of X G aWs, kWs, FWs.binds (ps := ["font", "signs"]) fun _ _ _ _ _ _ us hl => match us, hl with | [_, _], _ => rfl⟩
  have FMe := fun_mk (st := s_meet) lMe cMe kMe
  have DMe : Def K mg "_meet" fMe _ ["signs", "others"] := ⟨PySem.W.mg_of X G aMe, kMe, FMe.binds (ps := ["signs", "others"]) fun _ _ _ _ _ _ us hl => match us, hl with | [_, _], _ => rfl⟩
  have FPe := fun_mk (st := s_pen) lPe cPe kPe
  have DPe : Def K mg "_law_pen" fPe _ ["_law_script"] := ⟨PySem.W.mg_of X G aPe, kPe, FPe.binds (ps := ["_law_script"]) fun _ _ _ _ _ _ us hl => match us, hl with | [_], _ => rfl⟩
  have FDr := fun_mk (st := s_draw) lDr cDr kDr
  have DDr : Def K mg "_law_draw" fDr _ ["_law_pen_here", "_law_many"] := ⟨PySem.W.mg_of X G aDr, kDr, FDr.binds (ps := ["_law_pen_here", "_law_many"]) fun _ _ _ _ _ _ us hl => match us, hl with | [_, _], _ => rfl⟩
  have FPi := fun_mk (st := s_pick) lPi cPi kPi
  have DPi : Def K mg "_law_pick" fPi _ ["_law_pen_here", "_law_options"] := ⟨PySem.W.mg_of X G aPi, kPi, FPi.binds (ps := ["_law_pen_here", "_law_options"]) fun _ _ _ _ _ _ us hl => match us, hl with | [_, _], _ => rfl⟩
  have FSh := fun_mk (st := s_shuf) lSh cSh kSh
  have DSh : Def K mg "_law_shuffled" fSh _ ["_law_pen_here", "_law_items"] := ⟨PySem.W.mg_of X G aSh, kSh, FSh.binds (ps := ["_law_pen_here", "_law_items"]) fun _ _ _ _ _ _ us hl => match us, hl with | [_, _], _ => rfl⟩
  have FOd := fun_mk (st := s_odd) lOd cOd kOd
  have DOd : Def K mg "_law_odd" fOd _ ["_law_pen_here"] := ⟨PySem.W.mg_of X G aOd, kOd, FOd.binds (ps := ["_law_pen_here"]) fun _ _ _ _ _ _ us hl => match us, hl with | [_], _ => rfl⟩
  have FFo := fun_mk (st := s_font) lFo cFo kFo
  have DFo : Def K mg "_law_font" fFo _ ["_law_pen_here", "_law_most"] := ⟨PySem.W.mg_of X G aFo, kFo, FFo.binds (ps := ["_law_pen_here", "_law_most"]) fun _ _ _ _ _ _ us hl => match us, hl with | [_, _], _ => rfl⟩
  have FHe := fun_mk (st := s_heads) lHe cHe kHe
  have DHe : Def K mg "_law_heads" fHe _ ["_law_turns"] := ⟨PySem.W.mg_of X G aHe, kHe, FHe.binds (ps := ["_law_turns"]) fun _ _ _ _ _ _ us hl => match us, hl with | [_], _ => rfl⟩
  have FKs := fun_mk (st := s_kinds) lKs cKs kKs
  have DKs : Def K mg "_law_kinds" fKs _ ["_law_signs"] := ⟨PySem.W.mg_of X G aKs, kKs, FKs.binds (ps := ["_law_signs"]) fun _ _ _ _ _ _ us hl => match us, hl with | [_], _ => rfl⟩
  have FOr := fun_mk (st := s_ordered) lOr cOr kOr
  have DOr : Def K mg "_law_ordered" fOr _ ["_law_font_here", "_law_counts"] := ⟨PySem.W.mg_of X G aOr, kOr, FOr.binds (ps := ["_law_font_here", "_law_counts"]) fun _ _ _ _ _ _ us hl => match us, hl with | [_, _], _ => rfl⟩
  have FPl := fun_mk (st := s_plain) lPl cPl kPl
  have DPl : Def K mg "_law_plain" fPl _ ["_law_pen_here", "_law_signs", "_law_most", "_law_bound"] := ⟨PySem.W.mg_of X G aPl, kPl, FPl.binds (ps := ["_law_pen_here", "_law_signs", "_law_most", "_law_bound"]) fun _ _ _ _ _ _ us hl => match us, hl with | [_, _, _, _], _ => rfl⟩
  have FFl := fun_mk (st := s_flip) lFl cFl kFl
  have DFl : Def K mg "_law_flipped" fFl _ ["_law_pen_here", "_law_pair"] := ⟨PySem.W.mg_of X G aFl, kFl, FFl.binds (ps := ["_law_pen_here", "_law_pair"]) fun _ _ _ _ _ _ us hl => match us, hl with | [_, _], _ => rfl⟩
  have FFm := fun_mk (st := s_fmade) lFm cFm kFm
  have DFm : Def K mg "_law_font_made" fFm _ ["_law_pen_here", "_law_font_here"] := ⟨PySem.W.mg_of X G aFm, kFm, FFm.binds (ps := ["_law_pen_here", "_law_font_here"]) fun _ _ _ _ _ _ us hl => match us, hl with | [_, _], _ => rfl⟩
  have FMa := fun_mk (st := s_cmade) lMa cMa kMa
  have DMa : Def K mg "_law_made" fMa _ ["_law_pen_here", "_law_plain_here"] := ⟨PySem.W.mg_of X G aMa, kMa, FMa.binds (ps := ["_law_pen_here", "_law_plain_here"]) fun _ _ _ _ _ _ us hl => match us, hl with | [_, _], _ => rfl⟩
  have FSn := fun_mk (st := s_seen) lSn cSn kSn
  have DSn : Def K mg "_law_seen" fSn _ ["_law_font_here", "_law_kind"] := ⟨PySem.W.mg_of X G aSn, kSn, FSn.binds (ps := ["_law_font_here", "_law_kind"]) fun _ _ _ _ _ _ us hl => match us, hl with | [_, _], _ => rfl⟩
  have FLb := fun_mk (st := s_lbear) lLb cLb kLb
  have DLb : Def K mg "_law_bearing" fLb _ ["_law_plain_here", "_law_some"] := ⟨PySem.W.mg_of X G aLb, kLb, FLb.binds (ps := ["_law_plain_here", "_law_some"]) fun _ _ _ _ _ _ us hl => match us, hl with | [_, _], _ => rfl⟩
  have FTo := fun_mk (st := s_told6) lTo cTo kTo
  have DTo : Def K mg "_law_told" fTo _ ["_law_call"] := ⟨PySem.W.mg_of X G aTo, kTo, FTo.binds (ps := ["_law_call"]) fun _ _ _ _ _ _ us hl => match us, hl with | [_], _ => rfl⟩
  have FLt := fun_mk (st := s_sets) lLt cLt kLt
  have bLt := FLt.binds (ps := ["_law_signs"]) fun _ _ _ _ _ _ us hl => match us, hl with | [_], _ => rfl
  have FInC : FunD K "__init__" "Font.__init__" (defArgs s_init) (defBody s_init) (defScope s_init) [V.ref tEInC0] [] fInC (PySem.W.fnOf "__init__" "Font.__init__" (defArgs s_init) (defBody s_init) (defScope s_init) (.ref tDInC) kVInC dcInC pmInC anInC cdInC ctInC) := ⟨⟨_, _, .ref tDInC, _, _, _, _, _, _, _, rfl, lInC, cInC, .inr ⟨(fun z => by cases z), tDInC, _, [Value.ref tEInC0], nDInC, rfl, dInC, rfl, .cons rfl .nil⟩, .inl rfl⟩, kInC⟩
  have bInC3 : Binds K (PySem.W.fnOf "__init__" "Font.__init__" (defArgs s_init) (defBody s_init) (defScope s_init) (.ref tDInC) kVInC dcInC pmInC anInC cdInC ctInC) ["self", "signs", "turns"] [] := by
    obtain ⟨ds, hds, b⟩ := FInC.binds1 (ps := ["self", "signs", "turns"]) 3 1 (fun z => by cases z) rfl (fun _ _ _ _ _ _ _ us its hl hi => match us, its, hl, hi with | [_, _, _], [_], _, _ => ⟨_, rfl, rfl⟩)
    cases hds
    exact b
  have MC : Mk K C fInC := ⟨mkC, aInC, iInC, kCC⟩
  have FFc := fun_mk (st := s_fcont) lFc cFc kFc
  have bFc : Binds K _ ["self", "x"] [] := FFc.binds (ps := ["self", "x"]) fun _ _ _ _ _ _ us hl => match us, hl with | [_, _], _ => rfl
  have FTn := fun_mk (st := s_turned) lTn cTn kTn
  have bTn : Binds K _ ["self", "sign"] [] := FTn.binds (ps := ["self", "sign"]) fun _ _ _ _ _ _ us hl => match us, hl with | [_, _], _ => rfl
  have FKm := fun_mk (st := s_keptM) lKm cKm kKm
  have bKm : Binds K _ ["self", "kind"] [] := FKm.binds (ps := ["self", "kind"]) fun _ _ _ _ _ _ us hl => match us, hl with | [_, _], _ => rfl
  have FSm := fun_mk (st := s_shownM) lSm cSm kSm
  have bSm : Binds K _ ["self", "kind"] [] := FSm.binds (ps := ["self", "kind"]) fun _ _ _ _ _ _ us hl => match us, hl with | [_, _], _ => rfl
  have pPs_ : PropOf K C "signs" pPs fPs := ⟨aPs, gPs, tPs, ⟨_, rPs⟩⟩
  have bPs : Binds K _ ["self"] [] := Binds.all (fd := PySem.W.fnOf "signs" "Font.signs" (defArgs (inCls s_cls 4)) (defBody (inCls s_cls 4)) (defScope (inCls s_cls 4)) .none kVPs dcPs pmPs anPs cdPs ctPs) fun us hl => match us, hl with | [_], _ => rfl
  have FInCC : FunD K "__init__" "Case.__init__" (defArgs c_init) (defBody c_init) (defScope c_init) [V.ref tEInCC0] [] fInCC (PySem.W.fnOf "__init__" "Case.__init__" (defArgs c_init) (defBody c_init) (defScope c_init) (.ref tDInCC) kVInCC dcInCC pmInCC anInCC cdInCC ctInCC) := ⟨⟨_, _, .ref tDInCC, _, _, _, _, _, _, _, rfl, lInCC, cInCC, .inr ⟨(fun z => by cases z), tDInCC, _, [Value.ref tEInCC0], nDInCC, rfl, dInCC, rfl, .cons rfl .nil⟩, .inl rfl⟩, kInCC⟩
  have bInCC3 : Binds K (PySem.W.fnOf "__init__" "Case.__init__" (defArgs c_init) (defBody c_init) (defScope c_init) (.ref tDInCC) kVInCC dcInCC pmInCC anInCC cdInCC ctInCC) ["self", "font", "plates"] [] := by
    obtain ⟨ds, hds, b⟩ := FInCC.binds1 (ps := ["self", "font", "plates"]) 3 1 (fun z => by cases z) rfl (fun _ _ _ _ _ _ _ us its hl hi => match us, its, hl, hi with | [_, _, _], [_], _, _ => ⟨_, rfl, rfl⟩)
    cases hds
    exact b
  have MCC : Mk K CC fInCC := ⟨mkCC, aInCC, iInCC, kCCC⟩
  have FBr := fun_mk (st := c_bear) lBr cBr kBr
  have bBr : Binds K _ ["self", "signs"] [] := FBr.binds (ps := ["self", "signs"]) fun _ _ _ _ _ _ us hl => match us, hl with | [_, _], _ => rfl
  have TIK : VErr K mg "InvalidKind" "InvalidKind.__init__" IK fIK :=
    { facts := PySem.F.excBase_ValueError, chain := chain_Value, gC := PySem.W.mg_of X G aIK, cls := ⟨nmIK, qIK, NIK, bsIK, snIK, subIK, abIK, colIK, ddIK, m0IK, m1IK, m2IK, m3IK, m5IK, xIK⟩, sa := sIK, ga := gIK, gg := hIK, noN := nIK, iC := iIK, tC := tIK, kC := kIK, exC := eIK, tyC := yIK, hdC := dIK, te := caught_self eIK bIK yIK zIK,
      fn := ⟨_, _, _, _, _, _, _, _, _, _, _, _, _, _, lIK, cIK⟩ }
  have TIS : VErr K mg "InvalidSigns" "InvalidSigns.__init__" IS fIS :=
    { facts := PySem.F.excBase_ValueError, chain := chain_Value, gC := PySem.W.mg_of X G aIS, cls := ⟨nmIS, qIS, NIS, bsIS, snIS, subIS, abIS, colIS, ddIS, m0IS, m1IS, m2IS, m3IS, m5IS, xIS⟩, sa := sIS, ga := gIS, gg := hIS, noN := nIS, iC := iIS, tC := tIS, kC := kIS, exC := eIS, tyC := yIS, hdC := dIS, te := caught_self eIS bIS yIS zIS,
      fn := ⟨_, _, _, _, _, _, _, _, _, _, _, _, _, _, lIS, cIS⟩ }
  have upIS : PySem.W.kitOne K (.ref IS) (.type "ValueError") = some true := kit_sub vIS (by decide +kernel)
  have TUS : LErr K mg "UnknownSign" "UnknownSign.__init__" US fUS :=
    { facts := PySem.F.excBase_LookupError, chain := chain_Key, gC := PySem.W.mg_of X G aUS, cls := ⟨nmUS, qUS, NUS, bsUS, snUS, subUS, abUS, colUS, ddUS, m0US, m1US, m2US, m3US, m5US, xUS⟩, sa := sUS, ga := gUS, gg := hUS, noN := nUS, iC := iUS, tC := tUS, kC := kUS, exC := eUS, tyC := yUS, hdC := dUS, te := caught_self eUS bUS yUS zUS,
      fn := ⟨_, _, _, _, _, _, _, _, _, _, _, _, _, _, lUS, cUS⟩ }
  have xnISIK : PySem.W.exmOne K (.ref IS) (.ref IK) = some false := exm_no eIK bIK yIK wISIK
  have xnISIN : PySem.W.exmOne K (.ref IS) (.ref IN) = some false := exm_no eIN bIN yIN wISIN
  have xnISTF : PySem.W.exmOne K (.ref IS) (.ref TF) = some false := exm_no eTF bTF yTF wISTF
  have xnISTM : PySem.W.exmOne K (.ref IS) (.ref TM) = some false := exm_no eTM bTM yTM wISTM
  have xnISOF : PySem.W.exmOne K (.ref IS) (.ref OF) = some false := exm_no eOF bOF yOF wISOF
  have L6 : Told6 K mg IS fIS := ⟨TIS, (PySem.W.mg_none_of X G z_ValueError), upIS, fun x hx => by
    rcases List.mem_cons.mp hx with rfl | hx
    · exact ⟨IK, TIK.gC, xnISIK⟩
    rcases List.mem_cons.mp hx with rfl | hx
    · exact ⟨IN, PySem.W.mg_of X G aIN, xnISIN⟩
    rcases List.mem_cons.mp hx with rfl | hx
    · exact ⟨TF, PySem.W.mg_of X G aTF, xnISTF⟩
    rcases List.mem_cons.mp hx with rfl | hx
    · exact ⟨TM, PySem.W.mg_of X G aTM, xnISTM⟩
    rcases List.mem_cons.mp hx with rfl | hx
    · exact ⟨OF, PySem.W.mg_of X G aOF, xnISOF⟩
    cases hx⟩
  have hmS : (PS, qSets) ∈ TQ PL PS := List.mem_cons_of_mem _ (List.mem_singleton.mpr rfl)
  have huS : ∀ e ∈ TQ PL PS, e.1 = PS → e.2 = qSets := fun e he h => by
    rcases List.mem_cons.mp he with rfl | he
    · exact absurd h neLS
    · rw [List.mem_singleton.mp he]
  refine ⟨PySem.W.fnOf "law" "law" (defArgs s_law) (defBody s_law) (defScope s_law) .none kVLa dcLa pmLa anLa (.ref cL) ctLa, [(cL, PL), (cS, PS)], sp_law2 K PL PS, fun p hp => ?_, fun p hp => ?_, fun p hp => ?_, fun s u => .of_eq rfl, fun H a ns hl _ hH hS => ?_, fun base KB GB TBs => ?_⟩
  · rcases List.mem_cons.mp hp with rfl | hp
    · exact tbL
    rw [List.mem_singleton.mp hp]
    exact tbS
  · rcases List.mem_cons.mp hp with rfl | hp
    · exact nPL
    rw [List.mem_singleton.mp hp]
    exact nPS
  · rcases List.mem_cons.mp hp with rfl | hp
    · exact PySem.W.codeHd_of_K X chL
    rw [List.mem_singleton.mp hp]
    exact PySem.W.codeHd_of_K X chS
  · refine ⟨a, ns, rfl, hS, hl, fun p hp => ?_, fun H' => rfl⟩
    rcases List.mem_cons.mp hp with rfl | hp
    · exact LamX.TabS.nil (hH _ List.mem_cons_self)
    rw [List.mem_singleton.mp hp]
    exact LamX.TabS.nil (hH _ (List.mem_cons_of_mem _ (List.mem_singleton.mpr rfl)))
  · have tblL := TBs _ List.mem_cons_self
    have tblS := TBs _ (List.mem_cons_of_mem _ (List.mem_singleton.mpr rfl))
    have GPs := fn_getter (CX := CX0) (P := l.prog) (w := w) (mg := mg) (base := base) (k := 1) (N := ["self"]) lPs cPs ⟨rfl, rfl, rfl, by decide +kernel, rfl, by decide +kernel, by decide +kernel⟩ rfl rfl clC nC_signs
    have GLi := ok_isListed (P := l.prog) (w := w) (base := base) FLi T
    have GSi := ok_isSign (P := l.prog) (w := w) (base := base) FSi T
    have GSe := ok_isSet (P := l.prog) (w := w) (base := base) FSe T
    have GFs := ok_isFont (P := l.prog) (w := w) (base := base) FFs T DSe GSe gC ⟨⟨_, _, rCC, cM⟩⟩ gA
    have GIk := ok_isKind (P := l.prog) (w := w) (base := base) FIk T gB
    have GPa := ok_isPair (P := l.prog) (w := w) (base := base) FPa T DSi GSi
    have GKt := ok_kept (P := l.prog) (w := w) (base := base) FKt T DLi GLi DPa GPa
    have GIt := ok_isInt (P := l.prog) (w := w) (base := base) FIt T (PySem.W.mg_none_of X G z_bool)
    have GNu := ok_isNum (P := l.prog) (w := w) (base := base) FNu DIt GIt
    have GPe := ok_pen (P := l.prog) (w := w) (base := base) FPe T.list
    have GDr := ok_draw (P := l.prog) (w := w) (base := base) FDr TD
    have GDrB := ok_drawB4 (P := l.prog) (w := w) (base := base) FDr TD DDr
    have GPi := ok_pick (P := l.prog) (w := w) (base := base) FPi TD DDr GDr
    have GSh := ok_shuf (P := l.prog) (w := w) (base := base) FSh TD T.list DDr GDr
    have GShD := ok_shufD (P := l.prog) (w := w) (base := base) FSh TD T.list DDr GDr
    have GOd := ok_oddT (P := l.prog) (w := w) (base := base) FOd DPi GPi
    have GFo := ok_font (P := l.prog) (w := w) (base := base) FFo DDr GDr DPi GPi DSh GSh
    have GFl := ok_flip (P := l.prog) (w := w) (base := base) FFl DPi GPi
    have GFlS := ok_flipS (P := l.prog) (w := w) (base := base) FFl DPi GPi
    have GHe := ok_heads (P := l.prog) (w := w) (base := base) (mg := mg) FHe
    have GKs := ok_kinds (P := l.prog) (w := w) (base := base) FKs T
    have GOr := ok_ordered (P := l.prog) (w := w) (base := base) FOr (PySem.W.mg_none_of X G z_dict) DKs GKs
    have GPl := ok_plain (P := l.prog) (w := w) (base := base) FPl T DDr GDr GDrB DPi GPi DFo GFo DKs GKs DOr GOr
    have GSn := ok_seen (P := l.prog) (w := w) (base := base) FSn DHe GHe
    have GLb := ok_lbear (P := l.prog) (w := w) (base := base) FLb (PySem.W.mg_none_of X G z_sum) DSn GSn
    have GInC := ok_init (P := l.prog) (w := w) (base := base) FInC clC nC_signs nC_turns DFs GFs DKt GKt
    have GFm := ok_fmade (P := l.prog) (w := w) (base := base) FFm MC GInC bInC3 gC DSh GSh DFl GFl
    have GKm := ok_keptM (P := l.prog) (w := w) (base := base) FKm clC nC_signs gB DIk GIk TIK
    have GFc := ok_fcont (P := l.prog) (w := w) (base := base) FFc clC nC_signs DSi GSi
    have GTn := ok_turned (P := l.prog) (w := w) (base := base) FTn clC nC_turns ⟨aFc, iFc⟩ GFc bFc TUS
    have GSm := ok_shownM (P := l.prog) (w := w) (base := base) FSm clC nC_signs gB ⟨aKm, iKm, kKm⟩ GKm bKm ⟨aTn, iTn, kTn⟩ GTn bTn
    have sgC : SgnC l.prog w K mg base C := ⟨clC, nC_signs, ⟨_, _, _, pPs_, GPs, bPs⟩⟩
    have GAk := ok_allKinds (P := l.prog) (w := w) (base := base) FAk sgC (PySem.W.mg_none_of X G z_enumerate) gB
    have GEn := ok_isEntry (P := l.prog) (w := w) (base := base) FEn T sgC DIk GIk DNu GNu gCC ⟨⟨_, _, rCCC, cQ⟩⟩
    have GCo := ok_counted (P := l.prog) (w := w) (base := base) FCo T clC DLi GLi DEn GEn DAk GAk ⟨aKm, iKm, kKm⟩ GKm bKm
    have GInCC := ok_cinit (P := l.prog) (w := w) (base := base) FInCC T cc DCo GCo
    have GMa := ok_cmade (P := l.prog) (w := w) (base := base) FMa T MCC GInCC bInCC3 gCC DFm GFm DSh GShD DFl GFlS DPi GPi
    have GWs := ok_written (P := l.prog) (w := w) (base := base) FWs sgC DSe GSe TIS
    have GMe := ok_meet (P := l.prog) (w := w) (base := base) FMe (PySem.W.mg_none_of X G z_any)
    have GBr := ok_bear (P := l.prog) (w := w) (base := base) FBr (PySem.W.mg_none_of X G z_sum) cc clC DWs GWs DMe GMe ⟨aSm, iSm, kSm⟩ GSm bSm
    have GLt := ok_sets (P := l.prog) (w := w) (base := base) lLt cLt T (PySem.W.mg_none_of X G z_sorted) tblS hmS huS
    have DLt : Def K mg "_law_sets" fLt _ ["_law_signs"] := ⟨PySem.W.mg_of X G aLt, kLt, bLt⟩
    exact ok_law lLa cLa T tblL neLS L6 DPe GPe DPl GPl DMa GMa DLt GLt DSh GSh clCC ⟨aBr, iBr, kBr⟩ GBr bBr DLb GLb DPi GPi DOd GOd FTo DTo
end My
end
section
set_option Elab.async false
set_option linter.all false
set_option maxRecDepth 100000
set_option maxHeartbeats 0
namespace My
open PySem PySem.Spec PyProof.Rows L2
def v_C (K : PySem.W.Frag) : Addr := He.ga K "Font"
def v_CC (K : PySem.W.Frag) : Addr := He.ga K "Case"
def v_fLi (K : PySem.W.Frag) : Addr := He.ga K "is_listed"
def v_fFs (K : PySem.W.Frag) : Addr := He.ga K "is_font_signs"
def v_fSi (K : PySem.W.Frag) : Addr := He.ga K "is_sign"
def v_fSe (K : PySem.W.Frag) : Addr := He.ga K "is_set"
def v_fIk (K : PySem.W.Frag) : Addr := He.ga K "is_kind"
def v_fKt (K : PySem.W.Frag) : Addr := He.ga K "kept_turns"
def v_fPa (K : PySem.W.Frag) : Addr := He.ga K "_is_pair"
def v_fIt (K : PySem.W.Frag) : Addr := He.ga K "is_integer"
def v_fNu (K : PySem.W.Frag) : Addr := He.ga K "is_number"
def v_tDNu (K : PySem.W.Frag) : Addr := refOf (fnD K (v_fNu K)).defaults
def v_fAk (K : PySem.W.Frag) : Addr := He.ga K "all_kinds"
def v_fEn (K : PySem.W.Frag) : Addr := He.ga K "_is_entry"
def v_fCo (K : PySem.W.Frag) : Addr := He.ga K "_counted"
def v_fWs (K : PySem.W.Frag) : Addr := He.ga K "written_set"
def v_fMe (K : PySem.W.Frag) : Addr := He.ga K "_meet"
def v_fPe (K : PySem.W.Frag) : Addr := He.ga K "_law_pen"
def v_fDr (K : PySem.W.Frag) : Addr := He.ga K "_law_draw"
def v_fPi (K : PySem.W.Frag) : Addr := He.ga K "_law_pick"
def v_fSh (K : PySem.W.Frag) : Addr := He.ga K "_law_shuffled"
def v_fOd (K : PySem.W.Frag) : Addr := He.ga K "_law_odd"
def v_fFo (K : PySem.W.Frag) : Addr := He.ga K "_law_font"
def v_fHe (K : PySem.W.Frag) : Addr := He.ga K "_law_heads"
def v_fKs (K : PySem.W.Frag) : Addr := He.ga K "_law_kinds"
def v_fOr (K : PySem.W.Frag) : Addr := He.ga K "_law_ordered"
def v_fPl (K : PySem.W.Frag) : Addr := He.ga K "_law_plain"
def v_fFl (K : PySem.W.Frag) : Addr := He.ga K "_law_flipped"
def v_fFm (K : PySem.W.Frag) : Addr := He.ga K "_law_font_made"
def v_fMa (K : PySem.W.Frag) : Addr := He.ga K "_law_made"
def v_fSn (K : PySem.W.Frag) : Addr := He.ga K "_law_seen"
def v_fLb (K : PySem.W.Frag) : Addr := He.ga K "_law_bearing"
def v_fTo (K : PySem.W.Frag) : Addr := He.ga K "_law_told"
def v_fLt (K : PySem.W.Frag) : Addr := He.ga K "_law_sets"
def v_cS (K : PySem.W.Frag) : Addr := refOf (fnD K (v_fLt K)).code
def v_fInC (K : PySem.W.Frag) : Addr := He.ma K (v_C K) "__init__"
def v_tDInC (K : PySem.W.Frag) : Addr := refOf (fnD K (v_fInC K)).defaults
def v_tEInC0 (K : PySem.W.Frag) : Addr := itA K (v_tDInC K) 0
def v_fFc (K : PySem.W.Frag) : Addr := He.ma K (v_C K) "__contains__"
def v_fTn (K : PySem.W.Frag) : Addr := He.ma K (v_C K) "turned"
def v_fKm (K : PySem.W.Frag) : Addr := He.ma K (v_C K) "kept"
def v_fSm (K : PySem.W.Frag) : Addr := He.ma K (v_C K) "shown"
def v_pPs (K : PySem.W.Frag) : Addr := He.ma K (v_C K) "signs"
def v_fPs (K : PySem.W.Frag) : Addr := recF K (v_pPs K) "property"
def v_fInCC (K : PySem.W.Frag) : Addr := He.ma K (v_CC K) "__init__"
def v_tDInCC (K : PySem.W.Frag) : Addr := refOf (fnD K (v_fInCC K)).defaults
def v_tEInCC0 (K : PySem.W.Frag) : Addr := itA K (v_tDInCC K) 0
def v_fBr (K : PySem.W.Frag) : Addr := He.ma K (v_CC K) "bearing"
def v_IK (K : PySem.W.Frag) : Addr := He.ga K "InvalidKind"
def v_fIK (K : PySem.W.Frag) : Addr := He.ma K (v_IK K) "__init__"
def v_IS (K : PySem.W.Frag) : Addr := He.ga K "InvalidSigns"
def v_fIS (K : PySem.W.Frag) : Addr := He.ma K (v_IS K) "__init__"
def v_US (K : PySem.W.Frag) : Addr := He.ga K "UnknownSign"
def v_fUS (K : PySem.W.Frag) : Addr := He.ma K (v_US K) "__init__"
def v_IN (K : PySem.W.Frag) : Addr := He.ga K "InvalidNumber"
def v_TF (K : PySem.W.Frag) : Addr := He.ga K "TooFew"
def v_TM (K : PySem.W.Frag) : Addr := He.ga K "TooMany"
def v_OF (K : PySem.W.Frag) : Addr := He.ga K "OtherFont"
def v_fLa (K : PySem.W.Frag) : Addr := He.ga K "law"
def v_cL (K : PySem.W.Frag) : Addr := refOf (fnD K (v_fLa K)).code
def v_PL (K : PySem.W.Frag) : Addr := tabA K (v_cL K)
def v_PS (K : PySem.W.Frag) : Addr := tabA K (v_cS K)
def chk0 (K : PySem.W.Frag) : Bool :=
  decide (PySem.W.nsIn K mainGlobals "int" = some none) &&
  (decide (PySem.W.nsIn K mainGlobals "len" = some none) &&
  (decide (PySem.W.nsIn K mainGlobals "abs" = some none) &&
  (decide (PySem.W.nsIn K mainGlobals "list" = some none) &&
  (decide (PySem.W.nsIn K mainGlobals "tuple" = some none) &&
  (decide (PySem.W.nsIn K mainGlobals "str" = some none) &&
  (decide (PySem.W.nsIn K mainGlobals "set" = some none) &&
  (decide (PySem.W.nsIn K mainGlobals "all" = some none) &&
  (decide (PySem.W.nsIn K mainGlobals "isinstance" = some none) &&
  (decide (PySem.W.nsIn K mainGlobals "repr" = some none) &&
  (decide (PySem.W.nsIn K mainGlobals "range" = some none) &&
  (decide (PySem.W.nsIn K mainGlobals "ValueError" = some none) &&
  (decide (PySem.W.nsIn K mainGlobals "LookupError" = some none) &&
  (decide (PySem.W.nsIn K mainGlobals "bool" = some none) &&
  (decide (PySem.W.nsIn K mainGlobals "dict" = some none) &&
  (decide (PySem.W.nsIn K mainGlobals "sum" = some none) &&
  (decide (PySem.W.nsIn K mainGlobals "enumerate" = some none) &&
  (decide (PySem.W.nsIn K mainGlobals "any" = some none) &&
  (decide (PySem.W.nsIn K mainGlobals "sorted" = some none) &&
  (tokB K "ALPHABET" (.str alphabet))))))))))))))))))))
def chk1 (K : PySem.W.Frag) : Bool :=
  tokB K "BLANK" (.str "-") &&
  (decide (PySem.W.nsIn K mainGlobals "Font" = some (some (.ref (v_C K)))) &&
  ((PySem.W.plainGet K (v_C K) Str.empty) &&
  ((PySem.W.hasDictIn K (v_C K)) &&
  ((PySem.W.plainOver K (v_C K)) &&
  (decide (PySem.W.findIn K (.ref (v_C K)) "__setattr__" = some (some (.builtin "object.__setattr__"))) &&
  (decide (PySem.W.findIn K (.ref (v_C K)) "_signs" = some none) &&
  (decide (PySem.W.findIn K (.ref (v_C K)) "_turns" = some none) &&
  ((PySem.W.readsIn K (v_C K) (.type "type")) &&
  (decide (PySem.W.specialIn K (.ref (v_C K)) "__getattribute__" = some (some (.builtin "type.__getattribute__"))) &&
  (decide (PySem.W.findIn K (.ref (v_C K)) "__class__" = some (some (.builtin "object.__class__"))) &&
  (decide (PySem.W.specialIn K (.builtin "object.__class__") "__get__" = some (some (.builtin "getset_descriptor.__get__"))) &&
  (decide (PySem.W.takesIn K (.builtin "object.__class__") = some true) &&
  (decide (PySem.W.mroIn K (v_C K) (.type "object") = some true) &&
  (valB K (v_C K) "MAX_SIGNS" 10 &&
  (decide (PySem.W.nsIn K mainGlobals "Case" = some (some (.ref (v_CC K)))) &&
  ((PySem.W.plainGet K (v_CC K) Str.empty) &&
  ((PySem.W.hasDictIn K (v_CC K)) &&
  ((PySem.W.plainOver K (v_CC K)) &&
  (decide (PySem.W.findIn K (.ref (v_CC K)) "__setattr__" = some (some (.builtin "object.__setattr__"))))))))))))))))))))))
def chk2 (K : PySem.W.Frag) : Bool :=
  decide (PySem.W.findIn K (.ref (v_CC K)) "_font" = some none) &&
  (decide (PySem.W.findIn K (.ref (v_CC K)) "_counts" = some none) &&
  (decide (PySem.W.findIn K (.ref (v_CC K)) "_plates" = some none) &&
  ((PySem.W.readsIn K (v_CC K) (.type "type")) &&
  (decide (PySem.W.specialIn K (.ref (v_CC K)) "__getattribute__" = some (some (.builtin "type.__getattribute__"))) &&
  (decide (PySem.W.findIn K (.ref (v_CC K)) "__class__" = some (some (.builtin "object.__class__"))) &&
  (decide (PySem.W.mroIn K (v_CC K) (.type "object") = some true) &&
  (valB K (v_CC K) "MAX_COUNT" 1000000000000000000000000000000 &&
  (decide (PySem.W.nsIn K mainGlobals "is_listed" = some (some (.ref (v_fLi K)))) &&
  (decide ((fnD K (v_fLi K)).defaults = .none) &&
  ((PySem.W.codeIn K ((fnD K (v_fLi K)).code) "is_listed") &&
  ((PySem.W.keepIn K (.ref (v_fLi K))) &&
  (decide (PySem.W.nsIn K mainGlobals "is_font_signs" = some (some (.ref (v_fFs K)))) &&
  (decide ((fnD K (v_fFs K)).defaults = .none) &&
  ((PySem.W.codeIn K ((fnD K (v_fFs K)).code) "is_font_signs") &&
  ((PySem.W.keepIn K (.ref (v_fFs K))) &&
  (decide (PySem.W.nsIn K mainGlobals "is_sign" = some (some (.ref (v_fSi K)))) &&
  (decide ((fnD K (v_fSi K)).defaults = .none) &&
  ((PySem.W.codeIn K ((fnD K (v_fSi K)).code) "is_sign") &&
  ((PySem.W.keepIn K (.ref (v_fSi K))))))))))))))))))))))
def chk3 (K : PySem.W.Frag) : Bool :=
  decide (PySem.W.nsIn K mainGlobals "is_set" = some (some (.ref (v_fSe K)))) &&
  (decide ((fnD K (v_fSe K)).defaults = .none) &&
  ((PySem.W.codeIn K ((fnD K (v_fSe K)).code) "is_set") &&
  ((PySem.W.keepIn K (.ref (v_fSe K))) &&
  (decide (PySem.W.nsIn K mainGlobals "is_kind" = some (some (.ref (v_fIk K)))) &&
  (decide ((fnD K (v_fIk K)).defaults = .none) &&
  ((PySem.W.codeIn K ((fnD K (v_fIk K)).code) "is_kind") &&
  ((PySem.W.keepIn K (.ref (v_fIk K))) &&
  (decide (PySem.W.nsIn K mainGlobals "kept_turns" = some (some (.ref (v_fKt K)))) &&
  (decide ((fnD K (v_fKt K)).defaults = .none) &&
  ((PySem.W.codeIn K ((fnD K (v_fKt K)).code) "kept_turns") &&
  ((PySem.W.keepIn K (.ref (v_fKt K))) &&
  (decide (PySem.W.nsIn K mainGlobals "_is_pair" = some (some (.ref (v_fPa K)))) &&
  (decide ((fnD K (v_fPa K)).defaults = .none) &&
  ((PySem.W.codeIn K ((fnD K (v_fPa K)).code) "_is_pair") &&
  ((PySem.W.keepIn K (.ref (v_fPa K))) &&
  (decide (PySem.W.nsIn K mainGlobals "is_integer" = some (some (.ref (v_fIt K)))) &&
  (decide ((fnD K (v_fIt K)).defaults = .none) &&
  ((PySem.W.codeIn K ((fnD K (v_fIt K)).code) "is_integer") &&
  ((PySem.W.keepIn K (.ref (v_fIt K))))))))))))))))))))))
def chk4 (K : PySem.W.Frag) : Bool :=
  decide (PySem.W.nsIn K mainGlobals "is_number" = some (some (.ref (v_fNu K)))) &&
  (decide ((fnD K (v_fNu K)).defaults = (.ref (v_tDNu K))) &&
  (decide (seqV K (v_tDNu K) = some [Value.none]) &&
  ((PySem.W.codeIn K ((fnD K (v_fNu K)).code) "is_number") &&
  ((PySem.W.keepIn K (.ref (v_fNu K))) &&
  (decide (PySem.W.nsIn K mainGlobals "all_kinds" = some (some (.ref (v_fAk K)))) &&
  (decide ((fnD K (v_fAk K)).defaults = .none) &&
  ((PySem.W.codeIn K ((fnD K (v_fAk K)).code) "all_kinds") &&
  ((PySem.W.keepIn K (.ref (v_fAk K))) &&
  (decide (PySem.W.nsIn K mainGlobals "_is_entry" = some (some (.ref (v_fEn K)))) &&
  (decide ((fnD K (v_fEn K)).defaults = .none) &&
  ((PySem.W.codeIn K ((fnD K (v_fEn K)).code) "_is_entry") &&
  ((PySem.W.keepIn K (.ref (v_fEn K))) &&
  (decide (PySem.W.nsIn K mainGlobals "_counted" = some (some (.ref (v_fCo K)))) &&
  (decide ((fnD K (v_fCo K)).defaults = .none) &&
  ((PySem.W.codeIn K ((fnD K (v_fCo K)).code) "_counted") &&
  ((PySem.W.keepIn K (.ref (v_fCo K))) &&
  (decide (PySem.W.nsIn K mainGlobals "written_set" = some (some (.ref (v_fWs K)))) &&
  (decide ((fnD K (v_fWs K)).defaults = .none) &&
  ((PySem.W.codeIn K ((fnD K (v_fWs K)).code) "written_set"))))))))))))))))))))
def chk5 (K : PySem.W.Frag) : Bool :=
  (PySem.W.keepIn K (.ref (v_fWs K))) &&
  (decide (PySem.W.nsIn K mainGlobals "_meet" = some (some (.ref (v_fMe K)))) &&
  (decide ((fnD K (v_fMe K)).defaults = .none) &&
  ((PySem.W.codeIn K ((fnD K (v_fMe K)).code) "_meet") &&
  ((PySem.W.keepIn K (.ref (v_fMe K))) &&
  (decide (PySem.W.nsIn K mainGlobals "_law_pen" = some (some (.ref (v_fPe K)))) &&
  (decide ((fnD K (v_fPe K)).defaults = .none) &&
  ((PySem.W.codeIn K ((fnD K (v_fPe K)).code) "_law_pen") &&
  ((PySem.W.keepIn K (.ref (v_fPe K))) &&
  (decide (PySem.W.nsIn K mainGlobals "_law_draw" = some (some (.ref (v_fDr K)))) &&
  (decide ((fnD K (v_fDr K)).defaults = .none) &&
  ((PySem.W.codeIn K ((fnD K (v_fDr K)).code) "_law_draw") &&
  ((PySem.W.keepIn K (.ref (v_fDr K))) &&
  (decide (PySem.W.nsIn K mainGlobals "_law_pick" = some (some (.ref (v_fPi K)))) &&
  (decide ((fnD K (v_fPi K)).defaults = .none) &&
  ((PySem.W.codeIn K ((fnD K (v_fPi K)).code) "_law_pick") &&
  ((PySem.W.keepIn K (.ref (v_fPi K))) &&
  (decide (PySem.W.nsIn K mainGlobals "_law_shuffled" = some (some (.ref (v_fSh K)))) &&
  (decide ((fnD K (v_fSh K)).defaults = .none) &&
  ((PySem.W.codeIn K ((fnD K (v_fSh K)).code) "_law_shuffled"))))))))))))))))))))
def chk6 (K : PySem.W.Frag) : Bool :=
  (PySem.W.keepIn K (.ref (v_fSh K))) &&
  (decide (PySem.W.nsIn K mainGlobals "_law_odd" = some (some (.ref (v_fOd K)))) &&
  (decide ((fnD K (v_fOd K)).defaults = .none) &&
  ((PySem.W.codeIn K ((fnD K (v_fOd K)).code) "_law_odd") &&
  ((PySem.W.keepIn K (.ref (v_fOd K))) &&
  (decide (PySem.W.nsIn K mainGlobals "_law_font" = some (some (.ref (v_fFo K)))) &&
  (decide ((fnD K (v_fFo K)).defaults = .none) &&
  ((PySem.W.codeIn K ((fnD K (v_fFo K)).code) "_law_font") &&
  ((PySem.W.keepIn K (.ref (v_fFo K))) &&
  (decide (PySem.W.nsIn K mainGlobals "_law_heads" = some (some (.ref (v_fHe K)))) &&
  (decide ((fnD K (v_fHe K)).defaults = .none) &&
  ((PySem.W.codeIn K ((fnD K (v_fHe K)).code) "_law_heads") &&
  ((PySem.W.keepIn K (.ref (v_fHe K))) &&
  (decide (PySem.W.nsIn K mainGlobals "_law_kinds" = some (some (.ref (v_fKs K)))) &&
  (decide ((fnD K (v_fKs K)).defaults = .none) &&
  ((PySem.W.codeIn K ((fnD K (v_fKs K)).code) "_law_kinds") &&
  ((PySem.W.keepIn K (.ref (v_fKs K))) &&
  (decide (PySem.W.nsIn K mainGlobals "_law_ordered" = some (some (.ref (v_fOr K)))) &&
  (decide ((fnD K (v_fOr K)).defaults = .none) &&
  ((PySem.W.codeIn K ((fnD K (v_fOr K)).code) "_law_ordered"))))))))))))))))))))
def chk7 (K : PySem.W.Frag) : Bool :=
  (PySem.W.keepIn K (.ref (v_fOr K))) &&
  (decide (PySem.W.nsIn K mainGlobals "_law_plain" = some (some (.ref (v_fPl K)))) &&
  (decide ((fnD K (v_fPl K)).defaults = .none) &&
  ((PySem.W.codeIn K ((fnD K (v_fPl K)).code) "_law_plain") &&
  ((PySem.W.keepIn K (.ref (v_fPl K))) &&
  (decide (PySem.W.nsIn K mainGlobals "_law_flipped" = some (some (.ref (v_fFl K)))) &&
  (decide ((fnD K (v_fFl K)).defaults = .none) &&
  ((PySem.W.codeIn K ((fnD K (v_fFl K)).code) "_law_flipped") &&
  ((PySem.W.keepIn K (.ref (v_fFl K))) &&
  (decide (PySem.W.nsIn K mainGlobals "_law_font_made" = some (some (.ref (v_fFm K)))) &&
  (decide ((fnD K (v_fFm K)).defaults = .none) &&
  ((PySem.W.codeIn K ((fnD K (v_fFm K)).code) "_law_font_made") &&
  ((PySem.W.keepIn K (.ref (v_fFm K))) &&
  (decide (PySem.W.nsIn K mainGlobals "_law_made" = some (some (.ref (v_fMa K)))) &&
  (decide ((fnD K (v_fMa K)).defaults = .none) &&
  ((PySem.W.codeIn K ((fnD K (v_fMa K)).code) "_law_made") &&
  ((PySem.W.keepIn K (.ref (v_fMa K))) &&
  (decide (PySem.W.nsIn K mainGlobals "_law_seen" = some (some (.ref (v_fSn K)))) &&
  (decide ((fnD K (v_fSn K)).defaults = .none) &&
  ((PySem.W.codeIn K ((fnD K (v_fSn K)).code) "_law_seen"))))))))))))))))))))
def chk8 (K : PySem.W.Frag) : Bool :=
  (PySem.W.keepIn K (.ref (v_fSn K))) &&
  (decide (PySem.W.nsIn K mainGlobals "_law_bearing" = some (some (.ref (v_fLb K)))) &&
  (decide ((fnD K (v_fLb K)).defaults = .none) &&
  ((PySem.W.codeIn K ((fnD K (v_fLb K)).code) "_law_bearing") &&
  ((PySem.W.keepIn K (.ref (v_fLb K))) &&
  (decide (PySem.W.nsIn K mainGlobals "_law_told" = some (some (.ref (v_fTo K)))) &&
  (decide ((fnD K (v_fTo K)).defaults = .none) &&
  ((PySem.W.codeIn K ((fnD K (v_fTo K)).code) "_law_told") &&
  ((PySem.W.keepIn K (.ref (v_fTo K))) &&
  (decide (PySem.W.nsIn K mainGlobals "_law_sets" = some (some (.ref (v_fLt K)))) &&
  (decide ((fnD K (v_fLt K)).defaults = .none) &&
  (decide ((fnD K (v_fLt K)).code = (.ref (v_cS K))) &&
  ((PySem.W.codeIn K (.ref (v_cS K)) "_law_sets") &&
  ((PySem.W.keepIn K (.ref (v_fLt K))) &&
  (decide (PySem.W.findIn K (.ref (v_C K)) "__init__" = some (some (.ref (v_fInC K)))) &&
  ((PySem.W.isFn K (.ref (v_fInC K))) &&
  (decide ((fnD K (v_fInC K)).defaults = (.ref (v_tDInC K))) &&
  (decide (seqV K (v_tDInC K) = some [Value.ref (v_tEInC0 K)]) &&
  (decide (seqV K (v_tEInC0 K) = some []) &&
  (decide ((oOf K (v_tEInC0 K)).cls = .type "tuple"))))))))))))))))))))
def chk9 (K : PySem.W.Frag) : Bool :=
  (PySem.W.codeIn K ((fnD K (v_fInC K)).code) "Font.__init__") &&
  ((PySem.W.keepIn K (.ref (v_fInC K))) &&
  ((PySem.W.makesIn K (v_C K)) &&
  ((PySem.W.keepIn K (.ref (v_C K))) &&
  (decide (PySem.W.findIn K (.ref (v_C K)) "__contains__" = some (some (.ref (v_fFc K)))) &&
  ((PySem.W.isFn K (.ref (v_fFc K))) &&
  (decide ((fnD K (v_fFc K)).defaults = .none) &&
  ((PySem.W.codeIn K ((fnD K (v_fFc K)).code) "Font.__contains__") &&
  ((PySem.W.keepIn K (.ref (v_fFc K))) &&
  (decide (PySem.W.findIn K (.ref (v_C K)) "turned" = some (some (.ref (v_fTn K)))) &&
  ((PySem.W.isFn K (.ref (v_fTn K))) &&
  (decide ((fnD K (v_fTn K)).defaults = .none) &&
  ((PySem.W.codeIn K ((fnD K (v_fTn K)).code) "Font.turned") &&
  ((PySem.W.keepIn K (.ref (v_fTn K))) &&
  (decide (PySem.W.findIn K (.ref (v_C K)) "kept" = some (some (.ref (v_fKm K)))) &&
  ((PySem.W.isFn K (.ref (v_fKm K))) &&
  (decide ((fnD K (v_fKm K)).defaults = .none) &&
  ((PySem.W.codeIn K ((fnD K (v_fKm K)).code) "Font.kept") &&
  ((PySem.W.keepIn K (.ref (v_fKm K))) &&
  (decide (PySem.W.findIn K (.ref (v_C K)) "shown" = some (some (.ref (v_fSm K)))))))))))))))))))))))
def chk10 (K : PySem.W.Frag) : Bool :=
  (PySem.W.isFn K (.ref (v_fSm K))) &&
  (decide ((fnD K (v_fSm K)).defaults = .none) &&
  ((PySem.W.codeIn K ((fnD K (v_fSm K)).code) "Font.shown") &&
  ((PySem.W.keepIn K (.ref (v_fSm K))) &&
  (decide (PySem.W.findIn K (.ref (v_C K)) "signs" = some (some (.ref (v_pPs K)))) &&
  (decide (PySem.W.specialIn K (.ref (v_pPs K)) "__get__" = some (some (.builtin "property.__get__"))) &&
  (decide (PySem.W.takesIn K (.ref (v_pPs K)) = some true) &&
  (recB K (v_pPs K) "property" &&
  (decide ((fnD K (v_fPs K)).defaults = .none) &&
  ((PySem.W.codeIn K ((fnD K (v_fPs K)).code) "Font.signs") &&
  (decide (PySem.W.findIn K (.ref (v_CC K)) "__init__" = some (some (.ref (v_fInCC K)))) &&
  ((PySem.W.isFn K (.ref (v_fInCC K))) &&
  (decide ((fnD K (v_fInCC K)).defaults = (.ref (v_tDInCC K))) &&
  (decide (seqV K (v_tDInCC K) = some [Value.ref (v_tEInCC0 K)]) &&
  (decide (seqV K (v_tEInCC0 K) = some []) &&
  (decide ((oOf K (v_tEInCC0 K)).cls = .type "tuple") &&
  ((PySem.W.codeIn K ((fnD K (v_fInCC K)).code) "Case.__init__") &&
  ((PySem.W.keepIn K (.ref (v_fInCC K))) &&
  ((PySem.W.makesIn K (v_CC K)) &&
  ((PySem.W.keepIn K (.ref (v_CC K))))))))))))))))))))))
def chk11 (K : PySem.W.Frag) : Bool :=
  decide (PySem.W.findIn K (.ref (v_CC K)) "bearing" = some (some (.ref (v_fBr K)))) &&
  ((PySem.W.isFn K (.ref (v_fBr K))) &&
  (decide ((fnD K (v_fBr K)).defaults = .none) &&
  ((PySem.W.codeIn K ((fnD K (v_fBr K)).code) "Case.bearing") &&
  ((PySem.W.keepIn K (.ref (v_fBr K))) &&
  (decide (PySem.W.nsIn K mainGlobals "InvalidKind" = some (some (.ref (v_IK K)))) &&
  (excB K (v_IK K) bmValue "ValueError.__new__" &&
  (decide (PySem.W.findIn K (.ref (v_IK K)) "__setattr__" = some (some (.builtin "object.__setattr__"))) &&
  (decide (PySem.W.findIn K (.ref (v_IK K)) "__getattribute__" = some (some (.builtin "BaseException.__getattribute__"))) &&
  (decide (PySem.W.findIn K (.ref (v_IK K)) "__getattr__" = some none) &&
  (decide (PySem.W.findIn K (.ref (v_IK K)) "value" = some none) &&
  (decide (PySem.W.findIn K (.ref (v_IK K)) "__init__" = some (some (.ref (v_fIK K)))) &&
  (decide (PySem.W.typeIn K (.ref (v_fIK K)) = some (.type "function")) &&
  (decide ((fnD K (v_fIK K)).defaults = .none) &&
  (decide ((fnD K (v_fIK K)).kwdefaults = .none) &&
  ((PySem.W.codeIn K ((fnD K (v_fIK K)).code) "InvalidKind.__init__") &&
  ((PySem.W.keepIn K (.ref (v_IK K))) &&
  (decide (PySem.W.subIn K (.ref (v_IK K)) (.type "BaseException") = some true) &&
  (decide (PySem.W.typeIn K (.ref (v_IK K)) = some (.type "type")) &&
  ((PySem.W.hasDictIn K (v_IK K)))))))))))))))))))))
def chk12 (K : PySem.W.Frag) : Bool :=
  (PySem.W.isClsIn K (v_IK K)) &&
  (decide (PySem.W.subIn K (.ref (v_IK K)) (.ref (v_IK K)) = some true) &&
  (decide (PySem.W.nsIn K mainGlobals "InvalidSigns" = some (some (.ref (v_IS K)))) &&
  (excB K (v_IS K) bmValue "ValueError.__new__" &&
  (decide (PySem.W.findIn K (.ref (v_IS K)) "__setattr__" = some (some (.builtin "object.__setattr__"))) &&
  (decide (PySem.W.findIn K (.ref (v_IS K)) "__getattribute__" = some (some (.builtin "BaseException.__getattribute__"))) &&
  (decide (PySem.W.findIn K (.ref (v_IS K)) "__getattr__" = some none) &&
  (decide (PySem.W.findIn K (.ref (v_IS K)) "value" = some none) &&
  (decide (PySem.W.findIn K (.ref (v_IS K)) "__init__" = some (some (.ref (v_fIS K)))) &&
  (decide (PySem.W.typeIn K (.ref (v_fIS K)) = some (.type "function")) &&
  (decide ((fnD K (v_fIS K)).defaults = .none) &&
  (decide ((fnD K (v_fIS K)).kwdefaults = .none) &&
  ((PySem.W.codeIn K ((fnD K (v_fIS K)).code) "InvalidSigns.__init__") &&
  ((PySem.W.keepIn K (.ref (v_IS K))) &&
  (decide (PySem.W.subIn K (.ref (v_IS K)) (.type "BaseException") = some true) &&
  (decide (PySem.W.typeIn K (.ref (v_IS K)) = some (.type "type")) &&
  ((PySem.W.hasDictIn K (v_IS K)) &&
  ((PySem.W.isClsIn K (v_IS K)) &&
  (decide (PySem.W.subIn K (.ref (v_IS K)) (.ref (v_IS K)) = some true) &&
  (decide (PySem.W.subIn K (.ref (v_IS K)) (.type "ValueError") = some true))))))))))))))))))))
def chk13 (K : PySem.W.Frag) : Bool :=
  decide (PySem.W.nsIn K mainGlobals "UnknownSign" = some (some (.ref (v_US K)))) &&
  (excB K (v_US K) bmKey "LookupError.__new__" &&
  (decide (PySem.W.findIn K (.ref (v_US K)) "__setattr__" = some (some (.builtin "object.__setattr__"))) &&
  (decide (PySem.W.findIn K (.ref (v_US K)) "__getattribute__" = some (some (.builtin "BaseException.__getattribute__"))) &&
  (decide (PySem.W.findIn K (.ref (v_US K)) "__getattr__" = some none) &&
  (decide (PySem.W.findIn K (.ref (v_US K)) "value" = some none) &&
  (decide (PySem.W.findIn K (.ref (v_US K)) "__init__" = some (some (.ref (v_fUS K)))) &&
  (decide (PySem.W.typeIn K (.ref (v_fUS K)) = some (.type "function")) &&
  (decide ((fnD K (v_fUS K)).defaults = .none) &&
  (decide ((fnD K (v_fUS K)).kwdefaults = .none) &&
  ((PySem.W.codeIn K ((fnD K (v_fUS K)).code) "UnknownSign.__init__") &&
  ((PySem.W.keepIn K (.ref (v_US K))) &&
  (decide (PySem.W.subIn K (.ref (v_US K)) (.type "BaseException") = some true) &&
  (decide (PySem.W.typeIn K (.ref (v_US K)) = some (.type "type")) &&
  ((PySem.W.hasDictIn K (v_US K)) &&
  ((PySem.W.isClsIn K (v_US K)) &&
  (decide (PySem.W.subIn K (.ref (v_US K)) (.ref (v_US K)) = some true) &&
  (decide (PySem.W.nsIn K mainGlobals "InvalidNumber" = some (some (.ref (v_IN K)))) &&
  (decide (PySem.W.subIn K (.ref (v_IN K)) (.type "BaseException") = some true) &&
  (decide (PySem.W.typeIn K (.ref (v_IN K)) = some (.type "type")))))))))))))))))))))
def chk14 (K : PySem.W.Frag) : Bool :=
  (PySem.W.isClsIn K (v_IN K)) &&
  (decide (PySem.W.nsIn K mainGlobals "TooFew" = some (some (.ref (v_TF K)))) &&
  (decide (PySem.W.subIn K (.ref (v_TF K)) (.type "BaseException") = some true) &&
  (decide (PySem.W.typeIn K (.ref (v_TF K)) = some (.type "type")) &&
  ((PySem.W.isClsIn K (v_TF K)) &&
  (decide (PySem.W.nsIn K mainGlobals "TooMany" = some (some (.ref (v_TM K)))) &&
  (decide (PySem.W.subIn K (.ref (v_TM K)) (.type "BaseException") = some true) &&
  (decide (PySem.W.typeIn K (.ref (v_TM K)) = some (.type "type")) &&
  ((PySem.W.isClsIn K (v_TM K)) &&
  (decide (PySem.W.nsIn K mainGlobals "OtherFont" = some (some (.ref (v_OF K)))) &&
  (decide (PySem.W.subIn K (.ref (v_OF K)) (.type "BaseException") = some true) &&
  (decide (PySem.W.typeIn K (.ref (v_OF K)) = some (.type "type")) &&
  ((PySem.W.isClsIn K (v_OF K)) &&
  (decide (PySem.W.subIn K (.ref (v_IS K)) (.ref (v_IK K)) = some false) &&
  (decide (PySem.W.subIn K (.ref (v_IS K)) (.ref (v_IN K)) = some false) &&
  (decide (PySem.W.subIn K (.ref (v_IS K)) (.ref (v_TF K)) = some false) &&
  (decide (PySem.W.subIn K (.ref (v_IS K)) (.ref (v_TM K)) = some false) &&
  (decide (PySem.W.subIn K (.ref (v_IS K)) (.ref (v_OF K)) = some false) &&
  (decide (PySem.W.nsIn K mainGlobals "law" = some (some (.ref (v_fLa K)))) &&
  (decide ((fnD K (v_fLa K)).defaults = .none))))))))))))))))))))
def chk15 (K : PySem.W.Frag) : Bool :=
  decide ((fnD K (v_fLa K)).code = (.ref (v_cL K))) &&
  ((PySem.W.codeIn K (.ref (v_cL K)) "law") &&
  ((PySem.W.codeHdIn K (v_cL K) (v_PL K)) &&
  ((PySem.W.codeHdIn K (v_cS K) (v_PS K)) &&
  (decide ((v_PL K) ≠ (v_PS K))))))
def chkA (K : PySem.W.Frag) : Bool := chk0 K && (chk1 K && (chk2 K && (chk3 K && (chk4 K && (chk5 K && (chk6 K && (chk7 K && (chk8 K && (chk9 K && (chk10 K && (chk11 K && (chk12 K && (chk13 K && (chk14 K && (chk15 K)))))))))))))))
def fnL0 (K : PySem.W.Frag) : List FnV := [
  fnV K (v_fLi K),
  fnV K (v_fFs K),
  fnV K (v_fSi K),
  fnV K (v_fSe K),
  fnV K (v_fIk K),
  fnV K (v_fKt K),
  fnV K (v_fPa K),
  fnV K (v_fIt K),
  fnV K (v_fNu K),
  fnV K (v_fAk K),
  fnV K (v_fEn K),
  fnV K (v_fCo K),
  fnV K (v_fWs K),
  fnV K (v_fMe K),
  fnV K (v_fPe K),
  fnV K (v_fDr K),
  fnV K (v_fPi K),
  fnV K (v_fSh K),
  fnV K (v_fOd K),
  fnV K (v_fFo K)]
def fnR0 : List FnV := [
  fnW "is_listed" "is_listed" (defArgs s_isListed) (defBody s_isListed) (defScope s_isListed),
  fnW "is_font_signs" "is_font_signs" (defArgs s_isFont) (defBody s_isFont) (defScope s_isFont),
  fnW "is_sign" "is_sign" (defArgs s_isSign) (defBody s_isSign) (defScope s_isSign),
  fnW "is_set" "is_set" (defArgs s_isSet) (defBody s_isSet) (defScope s_isSet),
  fnW "is_kind" "is_kind" (defArgs s_isKind) (defBody s_isKind) (defScope s_isKind),
  fnW "kept_turns" "kept_turns" (defArgs s_kept) (defBody s_kept) (defScope s_kept),
  fnW "_is_pair" "_is_pair" (defArgs s_isPair) (defBody s_isPair) (defScope s_isPair),
  fnW "is_integer" "is_integer" (defArgs s_isInt) (defBody s_isInt) (defScope s_isInt),
  fnW "is_number" "is_number" (defArgs s_isNum) (defBody s_isNum) (defScope s_isNum),
  fnW "all_kinds" "all_kinds" (defArgs s_allKinds) (defBody s_allKinds) (defScope s_allKinds),
  fnW "_is_entry" "_is_entry" (defArgs s_isEntry) (defBody s_isEntry) (defScope s_isEntry),
  fnW "_counted" "_counted" (defArgs s_counted) (defBody s_counted) (defScope s_counted),
  fnW "written_set" "written_set" (defArgs s_written) (defBody s_written) (defScope s_written),
  fnW "_meet" "_meet" (defArgs s_meet) (defBody s_meet) (defScope s_meet),
  fnW "_law_pen" "_law_pen" (defArgs s_pen) (defBody s_pen) (defScope s_pen),
  fnW "_law_draw" "_law_draw" (defArgs s_draw) (defBody s_draw) (defScope s_draw),
  fnW "_law_pick" "_law_pick" (defArgs s_pick) (defBody s_pick) (defScope s_pick),
  fnW "_law_shuffled" "_law_shuffled" (defArgs s_shuf) (defBody s_shuf) (defScope s_shuf),
  fnW "_law_odd" "_law_odd" (defArgs s_odd) (defBody s_odd) (defScope s_odd),
  fnW "_law_font" "_law_font" (defArgs s_font) (defBody s_font) (defScope s_font)]
def fnL1 (K : PySem.W.Frag) : List FnV := [
  fnV K (v_fHe K),
  fnV K (v_fKs K),
  fnV K (v_fOr K),
  fnV K (v_fPl K),
  fnV K (v_fFl K),
  fnV K (v_fFm K),
  fnV K (v_fMa K),
  fnV K (v_fSn K),
  fnV K (v_fLb K),
  fnV K (v_fTo K),
  fnV K (v_fLt K),
  fnV K (v_fInC K),
  fnV K (v_fFc K),
  fnV K (v_fTn K),
  fnV K (v_fKm K),
  fnV K (v_fSm K),
  fnV K (v_fPs K),
  fnV K (v_fInCC K),
  fnV K (v_fBr K),
  fnV K (v_fIK K)]
def fnR1 : List FnV := [
  fnW "_law_heads" "_law_heads" (defArgs s_heads) (defBody s_heads) (defScope s_heads),
  fnW "_law_kinds" "_law_kinds" (defArgs s_kinds) (defBody s_kinds) (defScope s_kinds),
  fnW "_law_ordered" "_law_ordered" (defArgs s_ordered) (defBody s_ordered) (defScope s_ordered),
  fnW "_law_plain" "_law_plain" (defArgs s_plain) (defBody s_plain) (defScope s_plain),
  fnW "_law_flipped" "_law_flipped" (defArgs s_flip) (defBody s_flip) (defScope s_flip),
  fnW "_law_font_made" "_law_font_made" (defArgs s_fmade) (defBody s_fmade) (defScope s_fmade),
  fnW "_law_made" "_law_made" (defArgs s_cmade) (defBody s_cmade) (defScope s_cmade),
  fnW "_law_seen" "_law_seen" (defArgs s_seen) (defBody s_seen) (defScope s_seen),
  fnW "_law_bearing" "_law_bearing" (defArgs s_lbear) (defBody s_lbear) (defScope s_lbear),
  fnW "_law_told" "_law_told" (defArgs s_told6) (defBody s_told6) (defScope s_told6),
  fnW "_law_sets" "_law_sets" (defArgs s_sets) (defBody s_sets) (defScope s_sets),
  fnW "__init__" "Font.__init__" (defArgs s_init) (defBody s_init) (defScope s_init),
  fnW "__contains__" "Font.__contains__" (defArgs s_fcont) (defBody s_fcont) (defScope s_fcont),
  fnW "turned" "Font.turned" (defArgs s_turned) (defBody s_turned) (defScope s_turned),
  fnW "kept" "Font.kept" (defArgs s_keptM) (defBody s_keptM) (defScope s_keptM),
  fnW "shown" "Font.shown" (defArgs s_shownM) (defBody s_shownM) (defScope s_shownM),
  fnW "signs" "Font.signs" (defArgs (inCls s_cls 4)) (defBody (inCls s_cls 4)) (defScope (inCls s_cls 4)),
  fnW "__init__" "Case.__init__" (defArgs c_init) (defBody c_init) (defScope c_init),
  fnW "bearing" "Case.bearing" (defArgs c_bear) (defBody c_bear) (defScope c_bear),
  fnW "__init__" "InvalidKind.__init__" (eArgs "value" ⟨29, 17, 29, 21⟩ ⟨29, 23, 29, 28⟩) (eBody "value" ⟨30, 8, 30, 12⟩ ⟨30, 8, 30, 18⟩ ⟨30, 21, 30, 26⟩ ⟨30, 8, 30, 26⟩) (eScope "value")]
def fnL2 (K : PySem.W.Frag) : List FnV := [
  fnV K (v_fIS K),
  fnV K (v_fUS K),
  fnV K (v_fLa K)]
def fnR2 : List FnV := [
  fnW "__init__" "InvalidSigns.__init__" (eArgs "value" ⟨37, 17, 37, 21⟩ ⟨37, 23, 37, 28⟩) (eBody "value" ⟨38, 8, 38, 12⟩ ⟨38, 8, 38, 18⟩ ⟨38, 21, 38, 26⟩ ⟨38, 8, 38, 26⟩) (eScope "value"),
  fnW "__init__" "UnknownSign.__init__" (eArgs "value" ⟨51, 17, 51, 21⟩ ⟨51, 23, 51, 28⟩) (eBody "value" ⟨52, 8, 52, 12⟩ ⟨52, 8, 52, 18⟩ ⟨52, 21, 52, 26⟩ ⟨52, 8, 52, 26⟩) (eScope "value"),
  fnW "law" "law" (defArgs s_law) (defBody s_law) (defScope s_law)]
def fnLA (K : PySem.W.Frag) : List FnV := fnL0 K ++ fnL1 K ++ fnL2 K
def fnRA : List FnV := fnR0 ++ fnR1 ++ fnR2
def tabsA (K : PySem.W.Frag) : List Addr := [(v_PL K), (v_PS K)]
def as0 : List Addr := [2, 3, 15, 17, 18, 20, 21, 22, 24, 25, 27, 28, 29, 30, 32, 33, 35, 36, 37, 39, 40, 42, 43, 44, 47]
def as1 : List Addr := [48, 49, 56, 58, 59, 61, 62, 63, 64, 65, 66, 69, 76, 78, 79, 81, 82, 83, 84, 85, 86, 89, 96, 98, 99]
def as2 : List Addr := [101, 102, 103, 104, 105, 106, 109, 116, 118, 119, 121, 122, 123, 124, 125, 126, 129, 136, 138, 139, 141, 142, 143, 144, 145]
def as3 : List Addr := [146, 149, 156, 158, 159, 161, 162, 163, 164, 165, 166, 169, 176, 178, 179, 181, 182, 183, 184, 185, 186, 189, 196, 197, 198]
def as4 : List Addr := [199, 202, 209, 211, 212, 214, 215, 216, 217, 218, 219, 222, 229, 231, 232, 234, 235, 236, 237, 238, 239, 242, 249, 251, 252]
def as5 : List Addr := [254, 255, 256, 257, 258, 259, 269, 270, 271, 273, 274, 276, 277, 278, 280, 281, 283, 284, 285, 286, 287, 288, 291, 292, 293]
def as6 : List Addr := [294, 295, 296, 298, 299, 301, 302, 303, 304, 306, 307, 309, 310, 311, 312, 314, 315, 317, 318, 319, 321, 322, 324, 325, 326]
def as7 : List Addr := [328, 329, 331, 332, 333, 335, 336, 338, 339, 340, 343, 344, 345, 347, 348, 350, 351, 352, 353, 354, 355, 356, 359, 361, 362]
def as8 : List Addr := [364, 365, 366, 368, 369, 371, 372, 373, 376, 377, 378, 381, 382, 383, 386, 387, 388, 391, 392, 393, 395, 396, 398, 399, 400]
def as9 : List Addr := [403, 404, 405, 408, 409, 417, 418, 419, 422, 423, 424, 427, 428, 429, 430, 431, 432, 434, 435, 437, 438, 439, 440, 442, 443]
def as10 : List Addr := [445, 446, 447, 448, 451, 452, 453, 454, 456, 457, 459, 460, 461, 462, 465, 466, 467, 468, 470, 471, 473, 474, 475, 477, 478]
def as11 : List Addr := [480, 481, 482, 484, 485, 487, 488, 489, 491, 492, 494, 495, 496, 499, 500, 501, 504, 505, 506, 509, 510, 511, 512, 513, 514]
def as12 : List Addr := [515, 518, 521, 522, 523, 526, 527, 528, 530, 531, 533, 534, 535, 537, 538, 540, 541, 542, 544, 545, 547, 548, 549, 552, 553]
def as13 : List Addr := [554, 556, 557, 559, 560, 561, 563, 564, 566, 567, 568, 570, 571, 573, 574, 575, 577, 578, 580, 581, 582, 584, 585, 587, 588]
def as14 : List Addr := [589, 591, 592, 594, 595, 596, 598, 599, 601, 602, 603, 605, 606, 608, 609, 610, 613, 614, 615, 618, 619, 620, 623, 624, 625]
def as15 : List Addr := [627, 628, 630, 631, 632, 634, 635, 637, 638, 639, 642, 643, 644, 647, 648, 649, 652, 653, 654, 657, 658, 659, 661, 662, 664]
def as16 : List Addr := [665, 666, 669, 670]
def asA : List Addr := as0 ++ (as1 ++ (as2 ++ (as3 ++ (as4 ++ (as5 ++ (as6 ++ (as7 ++ (as8 ++ (as9 ++ (as10 ++ (as11 ++ (as12 ++ (as13 ++ (as14 ++ (as15 ++ (as16))))))))))))))))
def nam0 : List Str := ["_wall", "DIGITS", "is_integer", "is_number", "is_listed", "is_numeral", "InvalidFont", "InvalidTurns", "InvalidKind", "InvalidPlates", "InvalidSigns", "InvalidNumber", "InvalidText", "OtherFont", "UnknownSign", "TooMany", "TooFew", "ALPHABET", "BLANK", "Font"]
def nam1 : List Str := ["is_font_signs", "is_sign", "is_set", "is_kind", "kept_turns", "_is_pair", "check_fonts", "all_kinds", "written_set", "Case", "_meet", "_counted", "_is_entry", "_is_signs_line", "_read_turns", "_read_plates", "_is_plates_line", "_law_pen", "_law_draw", "_law_pick"]
def nam2 : List Str := ["_law_shuffled", "_law_odd", "_law_font", "_law_heads", "_law_seen", "_law_kinds", "_law_ordered", "_law_plain", "_law_flipped", "_law_font_made", "_law_made", "_law_sets", "_law_bearing", "_law_told"]
def namA : List Str := nam0 ++ (nam1 ++ (nam2))
abbrev hR : PySem.W.OpenRow := PySem.W.OpenLaw.row PySem.Challenge.rw_hymnplates_k06_whole_bearings
abbrev hV : Program := PySem.W.view hR.prog [59]
abbrev hH : PySem.W.Hook := hkX asA tabsA chkA fnLA fnRA
def hO (s : PySem.W.SharedT) : Bool × List FnV := obX asA tabsA chkA fnLA (HandSHeadRun.getT s)
theorem hO_eq (s : PySem.W.SharedT) : hO s = hH.obs s.abs := obX_eq s
theorem hrun (w : World) : HandSHeadRun.RunEq hR hV hH hO 20000 namA w := by
  intro os
  kernel_rfl
theorem facts_mk {l : PySem.W.OpenLaw} {w : World} {K : PySem.W.Frag} {h : Heap} {mg : Str → Option Value} {fa : Addr} (X : K.In h) (G : h.Ns mainGlobals mg) (hfa : mg "law" = some (.ref fa)) (S : SaysH tabsA chkA fnLA fnRA h K) :
    LawG l w K 13 63 "_law_script" mg fa h := by
  have c0 : chkA K = true := S.chk
  unfold chkA at c0
  obtain ⟨g0, c1⟩ := Bool.and_eq_true_iff.mp c0
  obtain ⟨g1, c2⟩ := Bool.and_eq_true_iff.mp c1
  obtain ⟨g2, c3⟩ := Bool.and_eq_true_iff.mp c2
  obtain ⟨g3, c4⟩ := Bool.and_eq_true_iff.mp c3
  obtain ⟨g4, c5⟩ := Bool.and_eq_true_iff.mp c4
  obtain ⟨g5, c6⟩ := Bool.and_eq_true_iff.mp c5
  obtain ⟨g6, c7⟩ := Bool.and_eq_true_iff.mp c6
  obtain ⟨g7, c8⟩ := Bool.and_eq_true_iff.mp c7
  obtain ⟨g8, c9⟩ := Bool.and_eq_true_iff.mp c8
  obtain ⟨g9, c10⟩ := Bool.and_eq_true_iff.mp c9
  obtain ⟨g10, c11⟩ := Bool.and_eq_true_iff.mp c10
  obtain ⟨g11, c12⟩ := Bool.and_eq_true_iff.mp c11
  obtain ⟨g12, c13⟩ := Bool.and_eq_true_iff.mp c12
  obtain ⟨g13, c14⟩ := Bool.and_eq_true_iff.mp c13
  obtain ⟨g14, c15⟩ := Bool.and_eq_true_iff.mp c14
  have g15 := c15
  unfold chk0 at g0
  obtain ⟨k_z_int, g0⟩ := Bool.and_eq_true_iff.mp g0
  obtain ⟨k_z_len, g0⟩ := Bool.and_eq_true_iff.mp g0
  obtain ⟨k_z_abs, g0⟩ := Bool.and_eq_true_iff.mp g0
  obtain ⟨k_z_list, g0⟩ := Bool.and_eq_true_iff.mp g0
  obtain ⟨k_z_tuple, g0⟩ := Bool.and_eq_true_iff.mp g0
  obtain ⟨k_z_str, g0⟩ := Bool.and_eq_true_iff.mp g0
  obtain ⟨k_z_set, g0⟩ := Bool.and_eq_true_iff.mp g0
  obtain ⟨k_z_all, g0⟩ := Bool.and_eq_true_iff.mp g0
  obtain ⟨k_z_isinstance, g0⟩ := Bool.and_eq_true_iff.mp g0
  obtain ⟨k_z_repr, g0⟩ := Bool.and_eq_true_iff.mp g0
  obtain ⟨k_z_range, g0⟩ := Bool.and_eq_true_iff.mp g0
  obtain ⟨k_z_ValueError, g0⟩ := Bool.and_eq_true_iff.mp g0
  obtain ⟨k_z_LookupError, g0⟩ := Bool.and_eq_true_iff.mp g0
  obtain ⟨k_z_bool, g0⟩ := Bool.and_eq_true_iff.mp g0
  obtain ⟨k_z_dict, g0⟩ := Bool.and_eq_true_iff.mp g0
  obtain ⟨k_z_sum, g0⟩ := Bool.and_eq_true_iff.mp g0
  obtain ⟨k_z_enumerate, g0⟩ := Bool.and_eq_true_iff.mp g0
  obtain ⟨k_z_any, g0⟩ := Bool.and_eq_true_iff.mp g0
  obtain ⟨k_z_sorted, g0⟩ := Bool.and_eq_true_iff.mp g0
  have k_aA := g0
  unfold chk1 at g1
  obtain ⟨k_aB, g1⟩ := Bool.and_eq_true_iff.mp g1
  obtain ⟨k_aC, g1⟩ := Bool.and_eq_true_iff.mp g1
  obtain ⟨k_pgC, g1⟩ := Bool.and_eq_true_iff.mp g1
  obtain ⟨k_hdC, g1⟩ := Bool.and_eq_true_iff.mp g1
  obtain ⟨k_poC, g1⟩ := Bool.and_eq_true_iff.mp g1
  obtain ⟨k_saC, g1⟩ := Bool.and_eq_true_iff.mp g1
  obtain ⟨k_nC_signs, g1⟩ := Bool.and_eq_true_iff.mp g1
  obtain ⟨k_nC_turns, g1⟩ := Bool.and_eq_true_iff.mp g1
  obtain ⟨k_rdC, g1⟩ := Bool.and_eq_true_iff.mp g1
  obtain ⟨k_gaC, g1⟩ := Bool.and_eq_true_iff.mp g1
  obtain ⟨k_caC, g1⟩ := Bool.and_eq_true_iff.mp g1
  obtain ⟨k_obG, g1⟩ := Bool.and_eq_true_iff.mp g1
  obtain ⟨k_obT, g1⟩ := Bool.and_eq_true_iff.mp g1
  obtain ⟨k_moC, g1⟩ := Bool.and_eq_true_iff.mp g1
  obtain ⟨k_mv, g1⟩ := Bool.and_eq_true_iff.mp g1
  obtain ⟨k_aCC, g1⟩ := Bool.and_eq_true_iff.mp g1
  obtain ⟨k_pgCC, g1⟩ := Bool.and_eq_true_iff.mp g1
  obtain ⟨k_hdCC, g1⟩ := Bool.and_eq_true_iff.mp g1
  obtain ⟨k_poCC, g1⟩ := Bool.and_eq_true_iff.mp g1
  have k_saCC := g1
  unfold chk2 at g2
  obtain ⟨k_nCC_font, g2⟩ := Bool.and_eq_true_iff.mp g2
  obtain ⟨k_nCC_counts, g2⟩ := Bool.and_eq_true_iff.mp g2
  obtain ⟨k_nCC_plates, g2⟩ := Bool.and_eq_true_iff.mp g2
  obtain ⟨k_rdCC, g2⟩ := Bool.and_eq_true_iff.mp g2
  obtain ⟨k_gaCC, g2⟩ := Bool.and_eq_true_iff.mp g2
  obtain ⟨k_caCC, g2⟩ := Bool.and_eq_true_iff.mp g2
  obtain ⟨k_moCC, g2⟩ := Bool.and_eq_true_iff.mp g2
  obtain ⟨k_mvQ, g2⟩ := Bool.and_eq_true_iff.mp g2
  obtain ⟨k_aLi, g2⟩ := Bool.and_eq_true_iff.mp g2
  obtain ⟨k_lLi_d, g2⟩ := Bool.and_eq_true_iff.mp g2
  obtain ⟨k_cLi, g2⟩ := Bool.and_eq_true_iff.mp g2
  obtain ⟨k_kLi, g2⟩ := Bool.and_eq_true_iff.mp g2
  obtain ⟨k_aFs, g2⟩ := Bool.and_eq_true_iff.mp g2
  obtain ⟨k_lFs_d, g2⟩ := Bool.and_eq_true_iff.mp g2
  obtain ⟨k_cFs, g2⟩ := Bool.and_eq_true_iff.mp g2
  obtain ⟨k_kFs, g2⟩ := Bool.and_eq_true_iff.mp g2
  obtain ⟨k_aSi, g2⟩ := Bool.and_eq_true_iff.mp g2
  obtain ⟨k_lSi_d, g2⟩ := Bool.and_eq_true_iff.mp g2
  obtain ⟨k_cSi, g2⟩ := Bool.and_eq_true_iff.mp g2
  have k_kSi := g2
  unfold chk3 at g3
  obtain ⟨k_aSe, g3⟩ := Bool.and_eq_true_iff.mp g3
  obtain ⟨k_lSe_d, g3⟩ := Bool.and_eq_true_iff.mp g3
  obtain ⟨k_cSe, g3⟩ := Bool.and_eq_true_iff.mp g3
  obtain ⟨k_kSe, g3⟩ := Bool.and_eq_true_iff.mp g3
  obtain ⟨k_aIk, g3⟩ := Bool.and_eq_true_iff.mp g3
  obtain ⟨k_lIk_d, g3⟩ := Bool.and_eq_true_iff.mp g3
  obtain ⟨k_cIk, g3⟩ := Bool.and_eq_true_iff.mp g3
  obtain ⟨k_kIk, g3⟩ := Bool.and_eq_true_iff.mp g3
  obtain ⟨k_aKt, g3⟩ := Bool.and_eq_true_iff.mp g3
  obtain ⟨k_lKt_d, g3⟩ := Bool.and_eq_true_iff.mp g3
  obtain ⟨k_cKt, g3⟩ := Bool.and_eq_true_iff.mp g3
  obtain ⟨k_kKt, g3⟩ := Bool.and_eq_true_iff.mp g3
  obtain ⟨k_aPa, g3⟩ := Bool.and_eq_true_iff.mp g3
  obtain ⟨k_lPa_d, g3⟩ := Bool.and_eq_true_iff.mp g3
  obtain ⟨k_cPa, g3⟩ := Bool.and_eq_true_iff.mp g3
  obtain ⟨k_kPa, g3⟩ := Bool.and_eq_true_iff.mp g3
  obtain ⟨k_aIt, g3⟩ := Bool.and_eq_true_iff.mp g3
  obtain ⟨k_lIt_d, g3⟩ := Bool.and_eq_true_iff.mp g3
  obtain ⟨k_cIt, g3⟩ := Bool.and_eq_true_iff.mp g3
  have k_kIt := g3
  unfold chk4 at g4
  obtain ⟨k_aNu, g4⟩ := Bool.and_eq_true_iff.mp g4
  obtain ⟨k_lNu_d, g4⟩ := Bool.and_eq_true_iff.mp g4
  obtain ⟨k_dNu, g4⟩ := Bool.and_eq_true_iff.mp g4
  obtain ⟨k_cNu, g4⟩ := Bool.and_eq_true_iff.mp g4
  obtain ⟨k_kNu, g4⟩ := Bool.and_eq_true_iff.mp g4
  obtain ⟨k_aAk, g4⟩ := Bool.and_eq_true_iff.mp g4
  obtain ⟨k_lAk_d, g4⟩ := Bool.and_eq_true_iff.mp g4
  obtain ⟨k_cAk, g4⟩ := Bool.and_eq_true_iff.mp g4
  obtain ⟨k_kAk, g4⟩ := Bool.and_eq_true_iff.mp g4
  obtain ⟨k_aEn, g4⟩ := Bool.and_eq_true_iff.mp g4
  obtain ⟨k_lEn_d, g4⟩ := Bool.and_eq_true_iff.mp g4
  obtain ⟨k_cEn, g4⟩ := Bool.and_eq_true_iff.mp g4
  obtain ⟨k_kEn, g4⟩ := Bool.and_eq_true_iff.mp g4
  obtain ⟨k_aCo, g4⟩ := Bool.and_eq_true_iff.mp g4
  obtain ⟨k_lCo_d, g4⟩ := Bool.and_eq_true_iff.mp g4
  obtain ⟨k_cCo, g4⟩ := Bool.and_eq_true_iff.mp g4
  obtain ⟨k_kCo, g4⟩ := Bool.and_eq_true_iff.mp g4
  obtain ⟨k_aWs, g4⟩ := Bool.and_eq_true_iff.mp g4
  obtain ⟨k_lWs_d, g4⟩ := Bool.and_eq_true_iff.mp g4
  have k_cWs := g4
  unfold chk5 at g5
  obtain ⟨k_kWs, g5⟩ := Bool.and_eq_true_iff.mp g5
  obtain ⟨k_aMe, g5⟩ := Bool.and_eq_true_iff.mp g5
  obtain ⟨k_lMe_d, g5⟩ := Bool.and_eq_true_iff.mp g5
  obtain ⟨k_cMe, g5⟩ := Bool.and_eq_true_iff.mp g5
  obtain ⟨k_kMe, g5⟩ := Bool.and_eq_true_iff.mp g5
  obtain ⟨k_aPe, g5⟩ := Bool.and_eq_true_iff.mp g5
  obtain ⟨k_lPe_d, g5⟩ := Bool.and_eq_true_iff.mp g5
  obtain ⟨k_cPe, g5⟩ := Bool.and_eq_true_iff.mp g5
  obtain ⟨k_kPe, g5⟩ := Bool.and_eq_true_iff.mp g5
  obtain ⟨k_aDr, g5⟩ := Bool.and_eq_true_iff.mp g5
  obtain ⟨k_lDr_d, g5⟩ := Bool.and_eq_true_iff.mp g5
  obtain ⟨k_cDr, g5⟩ := Bool.and_eq_true_iff.mp g5
  obtain ⟨k_kDr, g5⟩ := Bool.and_eq_true_iff.mp g5
  obtain ⟨k_aPi, g5⟩ := Bool.and_eq_true_iff.mp g5
  obtain ⟨k_lPi_d, g5⟩ := Bool.and_eq_true_iff.mp g5
  obtain ⟨k_cPi, g5⟩ := Bool.and_eq_true_iff.mp g5
  obtain ⟨k_kPi, g5⟩ := Bool.and_eq_true_iff.mp g5
  obtain ⟨k_aSh, g5⟩ := Bool.and_eq_true_iff.mp g5
  obtain ⟨k_lSh_d, g5⟩ := Bool.and_eq_true_iff.mp g5
  have k_cSh := g5
  unfold chk6 at g6
  obtain ⟨k_kSh, g6⟩ := Bool.and_eq_true_iff.mp g6
  obtain ⟨k_aOd, g6⟩ := Bool.and_eq_true_iff.mp g6
  obtain ⟨k_lOd_d, g6⟩ := Bool.and_eq_true_iff.mp g6
  obtain ⟨k_cOd, g6⟩ := Bool.and_eq_true_iff.mp g6
  obtain ⟨k_kOd, g6⟩ := Bool.and_eq_true_iff.mp g6
  obtain ⟨k_aFo, g6⟩ := Bool.and_eq_true_iff.mp g6
  obtain ⟨k_lFo_d, g6⟩ := Bool.and_eq_true_iff.mp g6
  obtain ⟨k_cFo, g6⟩ := Bool.and_eq_true_iff.mp g6
  obtain ⟨k_kFo, g6⟩ := Bool.and_eq_true_iff.mp g6
  obtain ⟨k_aHe, g6⟩ := Bool.and_eq_true_iff.mp g6
  obtain ⟨k_lHe_d, g6⟩ := Bool.and_eq_true_iff.mp g6
  obtain ⟨k_cHe, g6⟩ := Bool.and_eq_true_iff.mp g6
  obtain ⟨k_kHe, g6⟩ := Bool.and_eq_true_iff.mp g6
  obtain ⟨k_aKs, g6⟩ := Bool.and_eq_true_iff.mp g6
  obtain ⟨k_lKs_d, g6⟩ := Bool.and_eq_true_iff.mp g6
  obtain ⟨k_cKs, g6⟩ := Bool.and_eq_true_iff.mp g6
  obtain ⟨k_kKs, g6⟩ := Bool.and_eq_true_iff.mp g6
  obtain ⟨k_aOr, g6⟩ := Bool.and_eq_true_iff.mp g6
  obtain ⟨k_lOr_d, g6⟩ := Bool.and_eq_true_iff.mp g6
  have k_cOr := g6
  unfold chk7 at g7
  obtain ⟨k_kOr, g7⟩ := Bool.and_eq_true_iff.mp g7
  obtain ⟨k_aPl, g7⟩ := Bool.and_eq_true_iff.mp g7
  obtain ⟨k_lPl_d, g7⟩ := Bool.and_eq_true_iff.mp g7
  obtain ⟨k_cPl, g7⟩ := Bool.and_eq_true_iff.mp g7
  obtain ⟨k_kPl, g7⟩ := Bool.and_eq_true_iff.mp g7
  obtain ⟨k_aFl, g7⟩ := Bool.and_eq_true_iff.mp g7
  obtain ⟨k_lFl_d, g7⟩ := Bool.and_eq_true_iff.mp g7
  obtain ⟨k_cFl, g7⟩ := Bool.and_eq_true_iff.mp g7
  obtain ⟨k_kFl, g7⟩ := Bool.and_eq_true_iff.mp g7
  obtain ⟨k_aFm, g7⟩ := Bool.and_eq_true_iff.mp g7
  obtain ⟨k_lFm_d, g7⟩ := Bool.and_eq_true_iff.mp g7
  obtain ⟨k_cFm, g7⟩ := Bool.and_eq_true_iff.mp g7
  obtain ⟨k_kFm, g7⟩ := Bool.and_eq_true_iff.mp g7
  obtain ⟨k_aMa, g7⟩ := Bool.and_eq_true_iff.mp g7
  obtain ⟨k_lMa_d, g7⟩ := Bool.and_eq_true_iff.mp g7
  obtain ⟨k_cMa, g7⟩ := Bool.and_eq_true_iff.mp g7
  obtain ⟨k_kMa, g7⟩ := Bool.and_eq_true_iff.mp g7
  obtain ⟨k_aSn, g7⟩ := Bool.and_eq_true_iff.mp g7
  obtain ⟨k_lSn_d, g7⟩ := Bool.and_eq_true_iff.mp g7
  have k_cSn := g7
  unfold chk8 at g8
  obtain ⟨k_kSn, g8⟩ := Bool.and_eq_true_iff.mp g8
  obtain ⟨k_aLb, g8⟩ := Bool.and_eq_true_iff.mp g8
  obtain ⟨k_lLb_d, g8⟩ := Bool.and_eq_true_iff.mp g8
  obtain ⟨k_cLb, g8⟩ := Bool.and_eq_true_iff.mp g8
  obtain ⟨k_kLb, g8⟩ := Bool.and_eq_true_iff.mp g8
  obtain ⟨k_aTo, g8⟩ := Bool.and_eq_true_iff.mp g8
  obtain ⟨k_lTo_d, g8⟩ := Bool.and_eq_true_iff.mp g8
  obtain ⟨k_cTo, g8⟩ := Bool.and_eq_true_iff.mp g8
  obtain ⟨k_kTo, g8⟩ := Bool.and_eq_true_iff.mp g8
  obtain ⟨k_aLt, g8⟩ := Bool.and_eq_true_iff.mp g8
  obtain ⟨k_lLt_d, g8⟩ := Bool.and_eq_true_iff.mp g8
  obtain ⟨k_lLt_c, g8⟩ := Bool.and_eq_true_iff.mp g8
  obtain ⟨k_cLt, g8⟩ := Bool.and_eq_true_iff.mp g8
  obtain ⟨k_kLt, g8⟩ := Bool.and_eq_true_iff.mp g8
  obtain ⟨k_aInC, g8⟩ := Bool.and_eq_true_iff.mp g8
  obtain ⟨k_iInC, g8⟩ := Bool.and_eq_true_iff.mp g8
  obtain ⟨k_lInC_d, g8⟩ := Bool.and_eq_true_iff.mp g8
  obtain ⟨k_dInC, g8⟩ := Bool.and_eq_true_iff.mp g8
  obtain ⟨k_eInC0, g8⟩ := Bool.and_eq_true_iff.mp g8
  have k_eInC0_t := g8
  unfold chk9 at g9
  obtain ⟨k_cInC, g9⟩ := Bool.and_eq_true_iff.mp g9
  obtain ⟨k_kInC, g9⟩ := Bool.and_eq_true_iff.mp g9
  obtain ⟨k_mkC, g9⟩ := Bool.and_eq_true_iff.mp g9
  obtain ⟨k_kCC, g9⟩ := Bool.and_eq_true_iff.mp g9
  obtain ⟨k_aFc, g9⟩ := Bool.and_eq_true_iff.mp g9
  obtain ⟨k_iFc, g9⟩ := Bool.and_eq_true_iff.mp g9
  obtain ⟨k_lFc_d, g9⟩ := Bool.and_eq_true_iff.mp g9
  obtain ⟨k_cFc, g9⟩ := Bool.and_eq_true_iff.mp g9
  obtain ⟨k_kFc, g9⟩ := Bool.and_eq_true_iff.mp g9
  obtain ⟨k_aTn, g9⟩ := Bool.and_eq_true_iff.mp g9
  obtain ⟨k_iTn, g9⟩ := Bool.and_eq_true_iff.mp g9
  obtain ⟨k_lTn_d, g9⟩ := Bool.and_eq_true_iff.mp g9
  obtain ⟨k_cTn, g9⟩ := Bool.and_eq_true_iff.mp g9
  obtain ⟨k_kTn, g9⟩ := Bool.and_eq_true_iff.mp g9
  obtain ⟨k_aKm, g9⟩ := Bool.and_eq_true_iff.mp g9
  obtain ⟨k_iKm, g9⟩ := Bool.and_eq_true_iff.mp g9
  obtain ⟨k_lKm_d, g9⟩ := Bool.and_eq_true_iff.mp g9
  obtain ⟨k_cKm, g9⟩ := Bool.and_eq_true_iff.mp g9
  obtain ⟨k_kKm, g9⟩ := Bool.and_eq_true_iff.mp g9
  have k_aSm := g9
  unfold chk10 at g10
  obtain ⟨k_iSm, g10⟩ := Bool.and_eq_true_iff.mp g10
  obtain ⟨k_lSm_d, g10⟩ := Bool.and_eq_true_iff.mp g10
  obtain ⟨k_cSm, g10⟩ := Bool.and_eq_true_iff.mp g10
  obtain ⟨k_kSm, g10⟩ := Bool.and_eq_true_iff.mp g10
  obtain ⟨k_aPs, g10⟩ := Bool.and_eq_true_iff.mp g10
  obtain ⟨k_gPs, g10⟩ := Bool.and_eq_true_iff.mp g10
  obtain ⟨k_tPs, g10⟩ := Bool.and_eq_true_iff.mp g10
  obtain ⟨k_rPs, g10⟩ := Bool.and_eq_true_iff.mp g10
  obtain ⟨k_lPs_d, g10⟩ := Bool.and_eq_true_iff.mp g10
  obtain ⟨k_cPs, g10⟩ := Bool.and_eq_true_iff.mp g10
  obtain ⟨k_aInCC, g10⟩ := Bool.and_eq_true_iff.mp g10
  obtain ⟨k_iInCC, g10⟩ := Bool.and_eq_true_iff.mp g10
  obtain ⟨k_lInCC_d, g10⟩ := Bool.and_eq_true_iff.mp g10
  obtain ⟨k_dInCC, g10⟩ := Bool.and_eq_true_iff.mp g10
  obtain ⟨k_eInCC0, g10⟩ := Bool.and_eq_true_iff.mp g10
  obtain ⟨k_eInCC0_t, g10⟩ := Bool.and_eq_true_iff.mp g10
  obtain ⟨k_cInCC, g10⟩ := Bool.and_eq_true_iff.mp g10
  obtain ⟨k_kInCC, g10⟩ := Bool.and_eq_true_iff.mp g10
  obtain ⟨k_mkCC, g10⟩ := Bool.and_eq_true_iff.mp g10
  have k_kCCC := g10
  unfold chk11 at g11
  obtain ⟨k_aBr, g11⟩ := Bool.and_eq_true_iff.mp g11
  obtain ⟨k_iBr, g11⟩ := Bool.and_eq_true_iff.mp g11
  obtain ⟨k_lBr_d, g11⟩ := Bool.and_eq_true_iff.mp g11
  obtain ⟨k_cBr, g11⟩ := Bool.and_eq_true_iff.mp g11
  obtain ⟨k_kBr, g11⟩ := Bool.and_eq_true_iff.mp g11
  obtain ⟨k_aIK, g11⟩ := Bool.and_eq_true_iff.mp g11
  obtain ⟨k_xIK, g11⟩ := Bool.and_eq_true_iff.mp g11
  obtain ⟨k_sIK, g11⟩ := Bool.and_eq_true_iff.mp g11
  obtain ⟨k_gIK, g11⟩ := Bool.and_eq_true_iff.mp g11
  obtain ⟨k_hIK, g11⟩ := Bool.and_eq_true_iff.mp g11
  obtain ⟨k_nIK, g11⟩ := Bool.and_eq_true_iff.mp g11
  obtain ⟨k_iIK, g11⟩ := Bool.and_eq_true_iff.mp g11
  obtain ⟨k_tIK, g11⟩ := Bool.and_eq_true_iff.mp g11
  obtain ⟨k_lIK_d, g11⟩ := Bool.and_eq_true_iff.mp g11
  obtain ⟨k_lIK_k, g11⟩ := Bool.and_eq_true_iff.mp g11
  obtain ⟨k_cIK, g11⟩ := Bool.and_eq_true_iff.mp g11
  obtain ⟨k_kIK, g11⟩ := Bool.and_eq_true_iff.mp g11
  obtain ⟨k_eIK, g11⟩ := Bool.and_eq_true_iff.mp g11
  obtain ⟨k_yIK, g11⟩ := Bool.and_eq_true_iff.mp g11
  have k_dIK := g11
  unfold chk12 at g12
  obtain ⟨k_bIK, g12⟩ := Bool.and_eq_true_iff.mp g12
  obtain ⟨k_zIK, g12⟩ := Bool.and_eq_true_iff.mp g12
  obtain ⟨k_aIS, g12⟩ := Bool.and_eq_true_iff.mp g12
  obtain ⟨k_xIS, g12⟩ := Bool.and_eq_true_iff.mp g12
  obtain ⟨k_sIS, g12⟩ := Bool.and_eq_true_iff.mp g12
  obtain ⟨k_gIS, g12⟩ := Bool.and_eq_true_iff.mp g12
  obtain ⟨k_hIS, g12⟩ := Bool.and_eq_true_iff.mp g12
  obtain ⟨k_nIS, g12⟩ := Bool.and_eq_true_iff.mp g12
  obtain ⟨k_iIS, g12⟩ := Bool.and_eq_true_iff.mp g12
  obtain ⟨k_tIS, g12⟩ := Bool.and_eq_true_iff.mp g12
  obtain ⟨k_lIS_d, g12⟩ := Bool.and_eq_true_iff.mp g12
  obtain ⟨k_lIS_k, g12⟩ := Bool.and_eq_true_iff.mp g12
  obtain ⟨k_cIS, g12⟩ := Bool.and_eq_true_iff.mp g12
  obtain ⟨k_kIS, g12⟩ := Bool.and_eq_true_iff.mp g12
  obtain ⟨k_eIS, g12⟩ := Bool.and_eq_true_iff.mp g12
  obtain ⟨k_yIS, g12⟩ := Bool.and_eq_true_iff.mp g12
  obtain ⟨k_dIS, g12⟩ := Bool.and_eq_true_iff.mp g12
  obtain ⟨k_bIS, g12⟩ := Bool.and_eq_true_iff.mp g12
  obtain ⟨k_zIS, g12⟩ := Bool.and_eq_true_iff.mp g12
  have k_vIS := g12
  unfold chk13 at g13
  obtain ⟨k_aUS, g13⟩ := Bool.and_eq_true_iff.mp g13
  obtain ⟨k_xUS, g13⟩ := Bool.and_eq_true_iff.mp g13
  obtain ⟨k_sUS, g13⟩ := Bool.and_eq_true_iff.mp g13
  obtain ⟨k_gUS, g13⟩ := Bool.and_eq_true_iff.mp g13
  obtain ⟨k_hUS, g13⟩ := Bool.and_eq_true_iff.mp g13
  obtain ⟨k_nUS, g13⟩ := Bool.and_eq_true_iff.mp g13
  obtain ⟨k_iUS, g13⟩ := Bool.and_eq_true_iff.mp g13
  obtain ⟨k_tUS, g13⟩ := Bool.and_eq_true_iff.mp g13
  obtain ⟨k_lUS_d, g13⟩ := Bool.and_eq_true_iff.mp g13
  obtain ⟨k_lUS_k, g13⟩ := Bool.and_eq_true_iff.mp g13
  obtain ⟨k_cUS, g13⟩ := Bool.and_eq_true_iff.mp g13
  obtain ⟨k_kUS, g13⟩ := Bool.and_eq_true_iff.mp g13
  obtain ⟨k_eUS, g13⟩ := Bool.and_eq_true_iff.mp g13
  obtain ⟨k_yUS, g13⟩ := Bool.and_eq_true_iff.mp g13
  obtain ⟨k_dUS, g13⟩ := Bool.and_eq_true_iff.mp g13
  obtain ⟨k_bUS, g13⟩ := Bool.and_eq_true_iff.mp g13
  obtain ⟨k_zUS, g13⟩ := Bool.and_eq_true_iff.mp g13
  obtain ⟨k_aIN, g13⟩ := Bool.and_eq_true_iff.mp g13
  obtain ⟨k_eIN, g13⟩ := Bool.and_eq_true_iff.mp g13
  have k_yIN := g13
  unfold chk14 at g14
  obtain ⟨k_bIN, g14⟩ := Bool.and_eq_true_iff.mp g14
  obtain ⟨k_aTF, g14⟩ := Bool.and_eq_true_iff.mp g14
  obtain ⟨k_eTF, g14⟩ := Bool.and_eq_true_iff.mp g14
  obtain ⟨k_yTF, g14⟩ := Bool.and_eq_true_iff.mp g14
  obtain ⟨k_bTF, g14⟩ := Bool.and_eq_true_iff.mp g14
  obtain ⟨k_aTM, g14⟩ := Bool.and_eq_true_iff.mp g14
  obtain ⟨k_eTM, g14⟩ := Bool.and_eq_true_iff.mp g14
  obtain ⟨k_yTM, g14⟩ := Bool.and_eq_true_iff.mp g14
  obtain ⟨k_bTM, g14⟩ := Bool.and_eq_true_iff.mp g14
  obtain ⟨k_aOF, g14⟩ := Bool.and_eq_true_iff.mp g14
  obtain ⟨k_eOF, g14⟩ := Bool.and_eq_true_iff.mp g14
  obtain ⟨k_yOF, g14⟩ := Bool.and_eq_true_iff.mp g14
  obtain ⟨k_bOF, g14⟩ := Bool.and_eq_true_iff.mp g14
  obtain ⟨k_wISIK, g14⟩ := Bool.and_eq_true_iff.mp g14
  obtain ⟨k_wISIN, g14⟩ := Bool.and_eq_true_iff.mp g14
  obtain ⟨k_wISTF, g14⟩ := Bool.and_eq_true_iff.mp g14
  obtain ⟨k_wISTM, g14⟩ := Bool.and_eq_true_iff.mp g14
  obtain ⟨k_wISOF, g14⟩ := Bool.and_eq_true_iff.mp g14
  obtain ⟨k_aLa, g14⟩ := Bool.and_eq_true_iff.mp g14
  have k_lLa_d := g14
  unfold chk15 at g15
  obtain ⟨k_lLa_c, g15⟩ := Bool.and_eq_true_iff.mp g15
  obtain ⟨k_cLa, g15⟩ := Bool.and_eq_true_iff.mp g15
  obtain ⟨k_chL, g15⟩ := Bool.and_eq_true_iff.mp g15
  obtain ⟨k_chS, g15⟩ := Bool.and_eq_true_iff.mp g15
  have k_neLS := g15
  have e0 : fnLA K = fnRA := S.fn
  have e1 : ([fnV K (v_fLi K),
    fnV K (v_fFs K),
    fnV K (v_fSi K),
    fnV K (v_fSe K),
    fnV K (v_fIk K),
    fnV K (v_fKt K),
    fnV K (v_fPa K),
    fnV K (v_fIt K),
    fnV K (v_fNu K),
    fnV K (v_fAk K),
    fnV K (v_fEn K),
    fnV K (v_fCo K),
    fnV K (v_fWs K),
    fnV K (v_fMe K),
    fnV K (v_fPe K),
    fnV K (v_fDr K),
    fnV K (v_fPi K),
    fnV K (v_fSh K),
    fnV K (v_fOd K),
    fnV K (v_fFo K),
    fnV K (v_fHe K),
    fnV K (v_fKs K),
    fnV K (v_fOr K),
    fnV K (v_fPl K),
    fnV K (v_fFl K),
    fnV K (v_fFm K),
    fnV K (v_fMa K),
    fnV K (v_fSn K),
    fnV K (v_fLb K),
    fnV K (v_fTo K),
    fnV K (v_fLt K),
    fnV K (v_fInC K),
    fnV K (v_fFc K),
    fnV K (v_fTn K),
    fnV K (v_fKm K),
    fnV K (v_fSm K),
    fnV K (v_fPs K),
    fnV K (v_fInCC K),
    fnV K (v_fBr K),
    fnV K (v_fIK K),
    fnV K (v_fIS K),
    fnV K (v_fUS K),
    fnV K (v_fLa K)] : List FnV) = [fnW "is_listed" "is_listed" (defArgs s_isListed) (defBody s_isListed) (defScope s_isListed),
    fnW "is_font_signs" "is_font_signs" (defArgs s_isFont) (defBody s_isFont) (defScope s_isFont),
    fnW "is_sign" "is_sign" (defArgs s_isSign) (defBody s_isSign) (defScope s_isSign),
    fnW "is_set" "is_set" (defArgs s_isSet) (defBody s_isSet) (defScope s_isSet),
    fnW "is_kind" "is_kind" (defArgs s_isKind) (defBody s_isKind) (defScope s_isKind),
    fnW "kept_turns" "kept_turns" (defArgs s_kept) (defBody s_kept) (defScope s_kept),
    fnW "_is_pair" "_is_pair" (defArgs s_isPair) (defBody s_isPair) (defScope s_isPair),
    fnW "is_integer" "is_integer" (defArgs s_isInt) (defBody s_isInt) (defScope s_isInt),
    fnW "is_number" "is_number" (defArgs s_isNum) (defBody s_isNum) (defScope s_isNum),
    fnW "all_kinds" "all_kinds" (defArgs s_allKinds) (defBody s_allKinds) (defScope s_allKinds),
    fnW "_is_entry" "_is_entry" (defArgs s_isEntry) (defBody s_isEntry) (defScope s_isEntry),
    fnW "_counted" "_counted" (defArgs s_counted) (defBody s_counted) (defScope s_counted),
    fnW "written_set" "written_set" (defArgs s_written) (defBody s_written) (defScope s_written),
    fnW "_meet" "_meet" (defArgs s_meet) (defBody s_meet) (defScope s_meet),
    fnW "_law_pen" "_law_pen" (defArgs s_pen) (defBody s_pen) (defScope s_pen),
    fnW "_law_draw" "_law_draw" (defArgs s_draw) (defBody s_draw) (defScope s_draw),
    fnW "_law_pick" "_law_pick" (defArgs s_pick) (defBody s_pick) (defScope s_pick),
    fnW "_law_shuffled" "_law_shuffled" (defArgs s_shuf) (defBody s_shuf) (defScope s_shuf),
    fnW "_law_odd" "_law_odd" (defArgs s_odd) (defBody s_odd) (defScope s_odd),
    fnW "_law_font" "_law_font" (defArgs s_font) (defBody s_font) (defScope s_font),
    fnW "_law_heads" "_law_heads" (defArgs s_heads) (defBody s_heads) (defScope s_heads),
    fnW "_law_kinds" "_law_kinds" (defArgs s_kinds) (defBody s_kinds) (defScope s_kinds),
    fnW "_law_ordered" "_law_ordered" (defArgs s_ordered) (defBody s_ordered) (defScope s_ordered),
    fnW "_law_plain" "_law_plain" (defArgs s_plain) (defBody s_plain) (defScope s_plain),
    fnW "_law_flipped" "_law_flipped" (defArgs s_flip) (defBody s_flip) (defScope s_flip),
    fnW "_law_font_made" "_law_font_made" (defArgs s_fmade) (defBody s_fmade) (defScope s_fmade),
    fnW "_law_made" "_law_made" (defArgs s_cmade) (defBody s_cmade) (defScope s_cmade),
    fnW "_law_seen" "_law_seen" (defArgs s_seen) (defBody s_seen) (defScope s_seen),
    fnW "_law_bearing" "_law_bearing" (defArgs s_lbear) (defBody s_lbear) (defScope s_lbear),
    fnW "_law_told" "_law_told" (defArgs s_told6) (defBody s_told6) (defScope s_told6),
    fnW "_law_sets" "_law_sets" (defArgs s_sets) (defBody s_sets) (defScope s_sets),
    fnW "__init__" "Font.__init__" (defArgs s_init) (defBody s_init) (defScope s_init),
    fnW "__contains__" "Font.__contains__" (defArgs s_fcont) (defBody s_fcont) (defScope s_fcont),
    fnW "turned" "Font.turned" (defArgs s_turned) (defBody s_turned) (defScope s_turned),
    fnW "kept" "Font.kept" (defArgs s_keptM) (defBody s_keptM) (defScope s_keptM),
    fnW "shown" "Font.shown" (defArgs s_shownM) (defBody s_shownM) (defScope s_shownM),
    fnW "signs" "Font.signs" (defArgs (inCls s_cls 4)) (defBody (inCls s_cls 4)) (defScope (inCls s_cls 4)),
    fnW "__init__" "Case.__init__" (defArgs c_init) (defBody c_init) (defScope c_init),
    fnW "bearing" "Case.bearing" (defArgs c_bear) (defBody c_bear) (defScope c_bear),
    fnW "__init__" "InvalidKind.__init__" (eArgs "value" ⟨29, 17, 29, 21⟩ ⟨29, 23, 29, 28⟩) (eBody "value" ⟨30, 8, 30, 12⟩ ⟨30, 8, 30, 18⟩ ⟨30, 21, 30, 26⟩ ⟨30, 8, 30, 26⟩) (eScope "value"),
    fnW "__init__" "InvalidSigns.__init__" (eArgs "value" ⟨37, 17, 37, 21⟩ ⟨37, 23, 37, 28⟩) (eBody "value" ⟨38, 8, 38, 12⟩ ⟨38, 8, 38, 18⟩ ⟨38, 21, 38, 26⟩ ⟨38, 8, 38, 26⟩) (eScope "value"),
    fnW "__init__" "UnknownSign.__init__" (eArgs "value" ⟨51, 17, 51, 21⟩ ⟨51, 23, 51, 28⟩) (eBody "value" ⟨52, 8, 52, 12⟩ ⟨52, 8, 52, 18⟩ ⟨52, 21, 52, 26⟩ ⟨52, 8, 52, 26⟩) (eScope "value"),
    fnW "law" "law" (defArgs s_law) (defBody s_law) (defScope s_law)] := e0
  clear e0
  obtain ⟨n_lLi, e1⟩ := List.cons.inj e1
  obtain ⟨n_lFs, e1⟩ := List.cons.inj e1
  obtain ⟨n_lSi, e1⟩ := List.cons.inj e1
  obtain ⟨n_lSe, e1⟩ := List.cons.inj e1
  obtain ⟨n_lIk, e1⟩ := List.cons.inj e1
  obtain ⟨n_lKt, e1⟩ := List.cons.inj e1
  obtain ⟨n_lPa, e1⟩ := List.cons.inj e1
  obtain ⟨n_lIt, e1⟩ := List.cons.inj e1
  obtain ⟨n_lNu, e1⟩ := List.cons.inj e1
  obtain ⟨n_lAk, e1⟩ := List.cons.inj e1
  obtain ⟨n_lEn, e1⟩ := List.cons.inj e1
  obtain ⟨n_lCo, e1⟩ := List.cons.inj e1
  obtain ⟨n_lWs, e1⟩ := List.cons.inj e1
  obtain ⟨n_lMe, e1⟩ := List.cons.inj e1
  obtain ⟨n_lPe, e1⟩ := List.cons.inj e1
  obtain ⟨n_lDr, e1⟩ := List.cons.inj e1
  obtain ⟨n_lPi, e1⟩ := List.cons.inj e1
  obtain ⟨n_lSh, e1⟩ := List.cons.inj e1
  obtain ⟨n_lOd, e1⟩ := List.cons.inj e1
  obtain ⟨n_lFo, e1⟩ := List.cons.inj e1
  obtain ⟨n_lHe, e1⟩ := List.cons.inj e1
  obtain ⟨n_lKs, e1⟩ := List.cons.inj e1
  obtain ⟨n_lOr, e1⟩ := List.cons.inj e1
  obtain ⟨n_lPl, e1⟩ := List.cons.inj e1
  obtain ⟨n_lFl, e1⟩ := List.cons.inj e1
  obtain ⟨n_lFm, e1⟩ := List.cons.inj e1
  obtain ⟨n_lMa, e1⟩ := List.cons.inj e1
  obtain ⟨n_lSn, e1⟩ := List.cons.inj e1
  obtain ⟨n_lLb, e1⟩ := List.cons.inj e1
  obtain ⟨n_lTo, e1⟩ := List.cons.inj e1
  obtain ⟨n_lLt, e1⟩ := List.cons.inj e1
  obtain ⟨n_lInC, e1⟩ := List.cons.inj e1
  obtain ⟨n_lFc, e1⟩ := List.cons.inj e1
  obtain ⟨n_lTn, e1⟩ := List.cons.inj e1
  obtain ⟨n_lKm, e1⟩ := List.cons.inj e1
  obtain ⟨n_lSm, e1⟩ := List.cons.inj e1
  obtain ⟨n_lPs, e1⟩ := List.cons.inj e1
  obtain ⟨n_lInCC, e1⟩ := List.cons.inj e1
  obtain ⟨n_lBr, e1⟩ := List.cons.inj e1
  obtain ⟨n_lIK, e1⟩ := List.cons.inj e1
  obtain ⟨n_lIS, e1⟩ := List.cons.inj e1
  obtain ⟨n_lUS, e1⟩ := List.cons.inj e1
  obtain ⟨n_lLa, e1⟩ := List.cons.inj e1
  clear e1
  have z_int : PySem.W.nsIn K mainGlobals "int" = some none := of_decide_eq_true k_z_int
  have z_len : PySem.W.nsIn K mainGlobals "len" = some none := of_decide_eq_true k_z_len
  have z_abs : PySem.W.nsIn K mainGlobals "abs" = some none := of_decide_eq_true k_z_abs
  have z_list : PySem.W.nsIn K mainGlobals "list" = some none := of_decide_eq_true k_z_list
  have z_tuple : PySem.W.nsIn K mainGlobals "tuple" = some none := of_decide_eq_true k_z_tuple
  have z_str : PySem.W.nsIn K mainGlobals "str" = some none := of_decide_eq_true k_z_str
  have z_set : PySem.W.nsIn K mainGlobals "set" = some none := of_decide_eq_true k_z_set
  have z_all : PySem.W.nsIn K mainGlobals "all" = some none := of_decide_eq_true k_z_all
  have z_isinstance : PySem.W.nsIn K mainGlobals "isinstance" = some none := of_decide_eq_true k_z_isinstance
  have z_repr : PySem.W.nsIn K mainGlobals "repr" = some none := of_decide_eq_true k_z_repr
  have z_range : PySem.W.nsIn K mainGlobals "range" = some none := of_decide_eq_true k_z_range
  have z_ValueError : PySem.W.nsIn K mainGlobals "ValueError" = some none := of_decide_eq_true k_z_ValueError
  have z_LookupError : PySem.W.nsIn K mainGlobals "LookupError" = some none := of_decide_eq_true k_z_LookupError
  have z_bool : PySem.W.nsIn K mainGlobals "bool" = some none := of_decide_eq_true k_z_bool
  have z_dict : PySem.W.nsIn K mainGlobals "dict" = some none := of_decide_eq_true k_z_dict
  have z_sum : PySem.W.nsIn K mainGlobals "sum" = some none := of_decide_eq_true k_z_sum
  have z_enumerate : PySem.W.nsIn K mainGlobals "enumerate" = some none := of_decide_eq_true k_z_enumerate
  have z_any : PySem.W.nsIn K mainGlobals "any" = some none := of_decide_eq_true k_z_any
  have z_sorted : PySem.W.nsIn K mainGlobals "sorted" = some none := of_decide_eq_true k_z_sorted
  obtain ⟨tA, aA⟩ := look_str (x := "ALPHABET") k_aA
  obtain ⟨tB, aB⟩ := look_str (x := "BLANK") k_aB
  have aC : PySem.W.nsIn K mainGlobals "Font" = some (some (.ref (v_C K))) := of_decide_eq_true k_aC
  have pgC : PySem.W.plainGet K (v_C K) Str.empty = true := k_pgC
  have hdC : PySem.W.hasDictIn K (v_C K) = true := k_hdC
  have poC : PySem.W.plainOver K (v_C K) = true := k_poC
  have saC : PySem.W.findIn K (.ref (v_C K)) "__setattr__" = some (some (.builtin "object.__setattr__")) := of_decide_eq_true k_saC
  have nC_signs : PySem.W.findIn K (.ref (v_C K)) "_signs" = some none := of_decide_eq_true k_nC_signs
  have nC_turns : PySem.W.findIn K (.ref (v_C K)) "_turns" = some none := of_decide_eq_true k_nC_turns
  have rdC : PySem.W.readsIn K (v_C K) (.type "type") = true := k_rdC
  have gaC : PySem.W.specialIn K (.ref (v_C K)) "__getattribute__" = some (some (.builtin "type.__getattribute__")) := of_decide_eq_true k_gaC
  have caC : PySem.W.findIn K (.ref (v_C K)) "__class__" = some (some (.builtin "object.__class__")) := of_decide_eq_true k_caC
  have obG : PySem.W.specialIn K (.builtin "object.__class__") "__get__" = some (some (.builtin "getset_descriptor.__get__")) := of_decide_eq_true k_obG
  have obT : PySem.W.takesIn K (.builtin "object.__class__") = some true := of_decide_eq_true k_obT
  have moC : PySem.W.mroIn K (v_C K) (.type "object") = some true := of_decide_eq_true k_moC
  obtain ⟨tm, mv⟩ := look_val k_mv
  have aCC : PySem.W.nsIn K mainGlobals "Case" = some (some (.ref (v_CC K))) := of_decide_eq_true k_aCC
  have pgCC : PySem.W.plainGet K (v_CC K) Str.empty = true := k_pgCC
  have hdCC : PySem.W.hasDictIn K (v_CC K) = true := k_hdCC
  have poCC : PySem.W.plainOver K (v_CC K) = true := k_poCC
  have saCC : PySem.W.findIn K (.ref (v_CC K)) "__setattr__" = some (some (.builtin "object.__setattr__")) := of_decide_eq_true k_saCC
  have nCC_font : PySem.W.findIn K (.ref (v_CC K)) "_font" = some none := of_decide_eq_true k_nCC_font
  have nCC_counts : PySem.W.findIn K (.ref (v_CC K)) "_counts" = some none := of_decide_eq_true k_nCC_counts
  have nCC_plates : PySem.W.findIn K (.ref (v_CC K)) "_plates" = some none := of_decide_eq_true k_nCC_plates
  have rdCC : PySem.W.readsIn K (v_CC K) (.type "type") = true := k_rdCC
  have gaCC : PySem.W.specialIn K (.ref (v_CC K)) "__getattribute__" = some (some (.builtin "type.__getattribute__")) := of_decide_eq_true k_gaCC
  have caCC : PySem.W.findIn K (.ref (v_CC K)) "__class__" = some (some (.builtin "object.__class__")) := of_decide_eq_true k_caCC
  have moCC : PySem.W.mroIn K (v_CC K) (.type "object") = some true := of_decide_eq_true k_moCC
  obtain ⟨tq, mvQ⟩ := look_val k_mvQ
  have aLi : PySem.W.nsIn K mainGlobals "is_listed" = some (some (.ref (v_fLi K))) := of_decide_eq_true k_aLi
  have lLi : K.lookup (v_fLi K) = some ⟨((oOf K (v_fLi K)).cls), ((oOf K (v_fLi K)).dict), .func (PySem.W.fnOf "is_listed" "is_listed" (defArgs s_isListed) (defBody s_isListed) (defScope s_isListed) .none ((fnD K (v_fLi K)).kwdefaults) ((fnD K (v_fLi K)).doc) ((fnD K (v_fLi K)).pyModule) ((fnD K (v_fLi K)).annotations) ((fnD K (v_fLi K)).code) ((fnD K (v_fLi K)).closureTuple)), ((oOf K (v_fLi K)).slots)⟩ := look_fn n_lLi (of_decide_eq_true k_lLi_d) rfl rfl
  have cLi : PySem.W.codeIn K ((fnD K (v_fLi K)).code) "is_listed" = true := k_cLi
  have kLi : PySem.W.keepIn K (.ref (v_fLi K)) = true := k_kLi
  have aFs : PySem.W.nsIn K mainGlobals "is_font_signs" = some (some (.ref (v_fFs K))) := of_decide_eq_true k_aFs
  have lFs : K.lookup (v_fFs K) = some ⟨((oOf K (v_fFs K)).cls), ((oOf K (v_fFs K)).dict), .func (PySem.W.fnOf "is_font_signs" "is_font_signs" (defArgs s_isFont) (defBody s_isFont) (defScope s_isFont) .none ((fnD K (v_fFs K)).kwdefaults) ((fnD K (v_fFs K)).doc) ((fnD K (v_fFs K)).pyModule) ((fnD K (v_fFs K)).annotations) ((fnD K (v_fFs K)).code) ((fnD K (v_fFs K)).closureTuple)), ((oOf K (v_fFs K)).slots)⟩ := look_fn n_lFs (of_decide_eq_true k_lFs_d) rfl rfl
  have cFs : PySem.W.codeIn K ((fnD K (v_fFs K)).code) "is_font_signs" = true := k_cFs
  have kFs : PySem.W.keepIn K (.ref (v_fFs K)) = true := k_kFs
  have aSi : PySem.W.nsIn K mainGlobals "is_sign" = some (some (.ref (v_fSi K))) := of_decide_eq_true k_aSi
  have lSi : K.lookup (v_fSi K) = some ⟨((oOf K (v_fSi K)).cls), ((oOf K (v_fSi K)).dict), .func (PySem.W.fnOf "is_sign" "is_sign" (defArgs s_isSign) (defBody s_isSign) (defScope s_isSign) .none ((fnD K (v_fSi K)).kwdefaults) ((fnD K (v_fSi K)).doc) ((fnD K (v_fSi K)).pyModule) ((fnD K (v_fSi K)).annotations) ((fnD K (v_fSi K)).code) ((fnD K (v_fSi K)).closureTuple)), ((oOf K (v_fSi K)).slots)⟩ := look_fn n_lSi (of_decide_eq_true k_lSi_d) rfl rfl
  have cSi : PySem.W.codeIn K ((fnD K (v_fSi K)).code) "is_sign" = true := k_cSi
  have kSi : PySem.W.keepIn K (.ref (v_fSi K)) = true := k_kSi
  have aSe : PySem.W.nsIn K mainGlobals "is_set" = some (some (.ref (v_fSe K))) := of_decide_eq_true k_aSe
  have lSe : K.lookup (v_fSe K) = some ⟨((oOf K (v_fSe K)).cls), ((oOf K (v_fSe K)).dict), .func (PySem.W.fnOf "is_set" "is_set" (defArgs s_isSet) (defBody s_isSet) (defScope s_isSet) .none ((fnD K (v_fSe K)).kwdefaults) ((fnD K (v_fSe K)).doc) ((fnD K (v_fSe K)).pyModule) ((fnD K (v_fSe K)).annotations) ((fnD K (v_fSe K)).code) ((fnD K (v_fSe K)).closureTuple)), ((oOf K (v_fSe K)).slots)⟩ := look_fn n_lSe (of_decide_eq_true k_lSe_d) rfl rfl
  have cSe : PySem.W.codeIn K ((fnD K (v_fSe K)).code) "is_set" = true := k_cSe
  have kSe : PySem.W.keepIn K (.ref (v_fSe K)) = true := k_kSe
  have aIk : PySem.W.nsIn K mainGlobals "is_kind" = some (some (.ref (v_fIk K))) := of_decide_eq_true k_aIk
  have lIk : K.lookup (v_fIk K) = some ⟨((oOf K (v_fIk K)).cls), ((oOf K (v_fIk K)).dict), .func (PySem.W.fnOf "is_kind" "is_kind" (defArgs s_isKind) (defBody s_isKind) (defScope s_isKind) .none ((fnD K (v_fIk K)).kwdefaults) ((fnD K (v_fIk K)).doc) ((fnD K (v_fIk K)).pyModule) ((fnD K (v_fIk K)).annotations) ((fnD K (v_fIk K)).code) ((fnD K (v_fIk K)).closureTuple)), ((oOf K (v_fIk K)).slots)⟩ := look_fn n_lIk (of_decide_eq_true k_lIk_d) rfl rfl
  have cIk : PySem.W.codeIn K ((fnD K (v_fIk K)).code) "is_kind" = true := k_cIk
  have kIk : PySem.W.keepIn K (.ref (v_fIk K)) = true := k_kIk
  have aKt : PySem.W.nsIn K mainGlobals "kept_turns" = some (some (.ref (v_fKt K))) := of_decide_eq_true k_aKt
  have lKt : K.lookup (v_fKt K) = some ⟨((oOf K (v_fKt K)).cls), ((oOf K (v_fKt K)).dict), .func (PySem.W.fnOf "kept_turns" "kept_turns" (defArgs s_kept) (defBody s_kept) (defScope s_kept) .none ((fnD K (v_fKt K)).kwdefaults) ((fnD K (v_fKt K)).doc) ((fnD K (v_fKt K)).pyModule) ((fnD K (v_fKt K)).annotations) ((fnD K (v_fKt K)).code) ((fnD K (v_fKt K)).closureTuple)), ((oOf K (v_fKt K)).slots)⟩ := look_fn n_lKt (of_decide_eq_true k_lKt_d) rfl rfl
  have cKt : PySem.W.codeIn K ((fnD K (v_fKt K)).code) "kept_turns" = true := k_cKt
  have kKt : PySem.W.keepIn K (.ref (v_fKt K)) = true := k_kKt
  have aPa : PySem.W.nsIn K mainGlobals "_is_pair" = some (some (.ref (v_fPa K))) := of_decide_eq_true k_aPa
  have lPa : K.lookup (v_fPa K) = some ⟨((oOf K (v_fPa K)).cls), ((oOf K (v_fPa K)).dict), .func (PySem.W.fnOf "_is_pair" "_is_pair" (defArgs s_isPair) (defBody s_isPair) (defScope s_isPair) .none ((fnD K (v_fPa K)).kwdefaults) ((fnD K (v_fPa K)).doc) ((fnD K (v_fPa K)).pyModule) ((fnD K (v_fPa K)).annotations) ((fnD K (v_fPa K)).code) ((fnD K (v_fPa K)).closureTuple)), ((oOf K (v_fPa K)).slots)⟩ := look_fn n_lPa (of_decide_eq_true k_lPa_d) rfl rfl
  have cPa : PySem.W.codeIn K ((fnD K (v_fPa K)).code) "_is_pair" = true := k_cPa
  have kPa : PySem.W.keepIn K (.ref (v_fPa K)) = true := k_kPa
  have aIt : PySem.W.nsIn K mainGlobals "is_integer" = some (some (.ref (v_fIt K))) := of_decide_eq_true k_aIt
  have lIt : K.lookup (v_fIt K) = some ⟨((oOf K (v_fIt K)).cls), ((oOf K (v_fIt K)).dict), .func (PySem.W.fnOf "is_integer" "is_integer" (defArgs s_isInt) (defBody s_isInt) (defScope s_isInt) .none ((fnD K (v_fIt K)).kwdefaults) ((fnD K (v_fIt K)).doc) ((fnD K (v_fIt K)).pyModule) ((fnD K (v_fIt K)).annotations) ((fnD K (v_fIt K)).code) ((fnD K (v_fIt K)).closureTuple)), ((oOf K (v_fIt K)).slots)⟩ := look_fn n_lIt (of_decide_eq_true k_lIt_d) rfl rfl
  have cIt : PySem.W.codeIn K ((fnD K (v_fIt K)).code) "is_integer" = true := k_cIt
  have kIt : PySem.W.keepIn K (.ref (v_fIt K)) = true := k_kIt
  have aNu : PySem.W.nsIn K mainGlobals "is_number" = some (some (.ref (v_fNu K))) := of_decide_eq_true k_aNu
  have lNu : K.lookup (v_fNu K) = some ⟨((oOf K (v_fNu K)).cls), ((oOf K (v_fNu K)).dict), .func (PySem.W.fnOf "is_number" "is_number" (defArgs s_isNum) (defBody s_isNum) (defScope s_isNum) (.ref (v_tDNu K)) ((fnD K (v_fNu K)).kwdefaults) ((fnD K (v_fNu K)).doc) ((fnD K (v_fNu K)).pyModule) ((fnD K (v_fNu K)).annotations) ((fnD K (v_fNu K)).code) ((fnD K (v_fNu K)).closureTuple)), ((oOf K (v_fNu K)).slots)⟩ := look_fn n_lNu (of_decide_eq_true k_lNu_d) rfl rfl
  have dNu : K.lookup (v_tDNu K) = some ⟨((oOf K (v_tDNu K)).cls), ((oOf K (v_tDNu K)).dict), .seq #[Value.none] (seqN K (v_tDNu K)), ((oOf K (v_tDNu K)).slots)⟩ := look_seq (of_decide_eq_true k_dNu)
  have cNu : PySem.W.codeIn K ((fnD K (v_fNu K)).code) "is_number" = true := k_cNu
  have kNu : PySem.W.keepIn K (.ref (v_fNu K)) = true := k_kNu
  have aAk : PySem.W.nsIn K mainGlobals "all_kinds" = some (some (.ref (v_fAk K))) := of_decide_eq_true k_aAk
  have lAk : K.lookup (v_fAk K) = some ⟨((oOf K (v_fAk K)).cls), ((oOf K (v_fAk K)).dict), .func (PySem.W.fnOf "all_kinds" "all_kinds" (defArgs s_allKinds) (defBody s_allKinds) (defScope s_allKinds) .none ((fnD K (v_fAk K)).kwdefaults) ((fnD K (v_fAk K)).doc) ((fnD K (v_fAk K)).pyModule) ((fnD K (v_fAk K)).annotations) ((fnD K (v_fAk K)).code) ((fnD K (v_fAk K)).closureTuple)), ((oOf K (v_fAk K)).slots)⟩ := look_fn n_lAk (of_decide_eq_true k_lAk_d) rfl rfl
  have cAk : PySem.W.codeIn K ((fnD K (v_fAk K)).code) "all_kinds" = true := k_cAk
  have kAk : PySem.W.keepIn K (.ref (v_fAk K)) = true := k_kAk
  have aEn : PySem.W.nsIn K mainGlobals "_is_entry" = some (some (.ref (v_fEn K))) := of_decide_eq_true k_aEn
  have lEn : K.lookup (v_fEn K) = some ⟨((oOf K (v_fEn K)).cls), ((oOf K (v_fEn K)).dict), .func (PySem.W.fnOf "_is_entry" "_is_entry" (defArgs s_isEntry) (defBody s_isEntry) (defScope s_isEntry) .none ((fnD K (v_fEn K)).kwdefaults) ((fnD K (v_fEn K)).doc) ((fnD K (v_fEn K)).pyModule) ((fnD K (v_fEn K)).annotations) ((fnD K (v_fEn K)).code) ((fnD K (v_fEn K)).closureTuple)), ((oOf K (v_fEn K)).slots)⟩ := look_fn n_lEn (of_decide_eq_true k_lEn_d) rfl rfl
  have cEn : PySem.W.codeIn K ((fnD K (v_fEn K)).code) "_is_entry" = true := k_cEn
  have kEn : PySem.W.keepIn K (.ref (v_fEn K)) = true := k_kEn
  have aCo : PySem.W.nsIn K mainGlobals "_counted" = some (some (.ref (v_fCo K))) := of_decide_eq_true k_aCo
  have lCo : K.lookup (v_fCo K) = some ⟨((oOf K (v_fCo K)).cls), ((oOf K (v_fCo K)).dict), .func (PySem.W.fnOf "_counted" "_counted" (defArgs s_counted) (defBody s_counted) (defScope s_counted) .none ((fnD K (v_fCo K)).kwdefaults) ((fnD K (v_fCo K)).doc) ((fnD K (v_fCo K)).pyModule) ((fnD K (v_fCo K)).annotations) ((fnD K (v_fCo K)).code) ((fnD K (v_fCo K)).closureTuple)), ((oOf K (v_fCo K)).slots)⟩ := look_fn n_lCo (of_decide_eq_true k_lCo_d) rfl rfl
  have cCo : PySem.W.codeIn K ((fnD K (v_fCo K)).code) "_counted" = true := k_cCo
  have kCo : PySem.W.keepIn K (.ref (v_fCo K)) = true := k_kCo
  have aWs : PySem.W.nsIn K mainGlobals "written_set" = some (some (.ref (v_fWs K))) := of_decide_eq_true k_aWs
  have lWs : K.lookup (v_fWs K) = some ⟨((oOf K (v_fWs K)).cls), ((oOf K (v_fWs K)).dict), .func (PySem.W.fnOf "written_set" "written_set" (defArgs s_written) (defBody s_written) (defScope s_written) .none ((fnD K (v_fWs K)).kwdefaults) ((fnD K (v_fWs K)).doc) ((fnD K (v_fWs K)).pyModule) ((fnD K (v_fWs K)).annotations) ((fnD K (v_fWs K)).code) ((fnD K (v_fWs K)).closureTuple)), ((oOf K (v_fWs K)).slots)⟩ := look_fn n_lWs (of_decide_eq_true k_lWs_d) rfl rfl
  have cWs : PySem.W.codeIn K ((fnD K (v_fWs K)).code) "written_set" = true := k_cWs
  have kWs : PySem.W.keepIn K (.ref (v_fWs K)) = true := k_kWs
  have aMe : PySem.W.nsIn K mainGlobals "_meet" = some (some (.ref (v_fMe K))) := of_decide_eq_true k_aMe
  have lMe : K.lookup (v_fMe K) = some ⟨((oOf K (v_fMe K)).cls), ((oOf K (v_fMe K)).dict), .func (PySem.W.fnOf "_meet" "_meet" (defArgs s_meet) (defBody s_meet) (defScope s_meet) .none ((fnD K (v_fMe K)).kwdefaults) ((fnD K (v_fMe K)).doc) ((fnD K (v_fMe K)).pyModule) ((fnD K (v_fMe K)).annotations) ((fnD K (v_fMe K)).code) ((fnD K (v_fMe K)).closureTuple)), ((oOf K (v_fMe K)).slots)⟩ := look_fn n_lMe (of_decide_eq_true k_lMe_d) rfl rfl
  have cMe : PySem.W.codeIn K ((fnD K (v_fMe K)).code) "_meet" = true := k_cMe
  have kMe : PySem.W.keepIn K (.ref (v_fMe K)) = true := k_kMe
  have aPe : PySem.W.nsIn K mainGlobals "_law_pen" = some (some (.ref (v_fPe K))) := of_decide_eq_true k_aPe
  have lPe : K.lookup (v_fPe K) = some ⟨((oOf K (v_fPe K)).cls), ((oOf K (v_fPe K)).dict), .func (PySem.W.fnOf "_law_pen" "_law_pen" (defArgs s_pen) (defBody s_pen) (defScope s_pen) .none ((fnD K (v_fPe K)).kwdefaults) ((fnD K (v_fPe K)).doc) ((fnD K (v_fPe K)).pyModule) ((fnD K (v_fPe K)).annotations) ((fnD K (v_fPe K)).code) ((fnD K (v_fPe K)).closureTuple)), ((oOf K (v_fPe K)).slots)⟩ := look_fn n_lPe (of_decide_eq_true k_lPe_d) rfl rfl
  have cPe : PySem.W.codeIn K ((fnD K (v_fPe K)).code) "_law_pen" = true := k_cPe
  have kPe : PySem.W.keepIn K (.ref (v_fPe K)) = true := k_kPe
  have aDr : PySem.W.nsIn K mainGlobals "_law_draw" = some (some (.ref (v_fDr K))) := of_decide_eq_true k_aDr
  have lDr : K.lookup (v_fDr K) = some ⟨((oOf K (v_fDr K)).cls), ((oOf K (v_fDr K)).dict), .func (PySem.W.fnOf "_law_draw" "_law_draw" (defArgs s_draw) (defBody s_draw) (defScope s_draw) .none ((fnD K (v_fDr K)).kwdefaults) ((fnD K (v_fDr K)).doc) ((fnD K (v_fDr K)).pyModule) ((fnD K (v_fDr K)).annotations) ((fnD K (v_fDr K)).code) ((fnD K (v_fDr K)).closureTuple)), ((oOf K (v_fDr K)).slots)⟩ := look_fn n_lDr (of_decide_eq_true k_lDr_d) rfl rfl
  have cDr : PySem.W.codeIn K ((fnD K (v_fDr K)).code) "_law_draw" = true := k_cDr
  have kDr : PySem.W.keepIn K (.ref (v_fDr K)) = true := k_kDr
  have aPi : PySem.W.nsIn K mainGlobals "_law_pick" = some (some (.ref (v_fPi K))) := of_decide_eq_true k_aPi
  have lPi : K.lookup (v_fPi K) = some ⟨((oOf K (v_fPi K)).cls), ((oOf K (v_fPi K)).dict), .func (PySem.W.fnOf "_law_pick" "_law_pick" (defArgs s_pick) (defBody s_pick) (defScope s_pick) .none ((fnD K (v_fPi K)).kwdefaults) ((fnD K (v_fPi K)).doc) ((fnD K (v_fPi K)).pyModule) ((fnD K (v_fPi K)).annotations) ((fnD K (v_fPi K)).code) ((fnD K (v_fPi K)).closureTuple)), ((oOf K (v_fPi K)).slots)⟩ := look_fn n_lPi (of_decide_eq_true k_lPi_d) rfl rfl
  have cPi : PySem.W.codeIn K ((fnD K (v_fPi K)).code) "_law_pick" = true := k_cPi
  have kPi : PySem.W.keepIn K (.ref (v_fPi K)) = true := k_kPi
  have aSh : PySem.W.nsIn K mainGlobals "_law_shuffled" = some (some (.ref (v_fSh K))) := of_decide_eq_true k_aSh
  have lSh : K.lookup (v_fSh K) = some ⟨((oOf K (v_fSh K)).cls), ((oOf K (v_fSh K)).dict), .func (PySem.W.fnOf "_law_shuffled" "_law_shuffled" (defArgs s_shuf) (defBody s_shuf) (defScope s_shuf) .none ((fnD K (v_fSh K)).kwdefaults) ((fnD K (v_fSh K)).doc) ((fnD K (v_fSh K)).pyModule) ((fnD K (v_fSh K)).annotations) ((fnD K (v_fSh K)).code) ((fnD K (v_fSh K)).closureTuple)), ((oOf K (v_fSh K)).slots)⟩ := look_fn n_lSh (of_decide_eq_true k_lSh_d) rfl rfl
  have cSh : PySem.W.codeIn K ((fnD K (v_fSh K)).code) "_law_shuffled" = true := k_cSh
  have kSh : PySem.W.keepIn K (.ref (v_fSh K)) = true := k_kSh
  have aOd : PySem.W.nsIn K mainGlobals "_law_odd" = some (some (.ref (v_fOd K))) := of_decide_eq_true k_aOd
  have lOd : K.lookup (v_fOd K) = some ⟨((oOf K (v_fOd K)).cls), ((oOf K (v_fOd K)).dict), .func (PySem.W.fnOf "_law_odd" "_law_odd" (defArgs s_odd) (defBody s_odd) (defScope s_odd) .none ((fnD K (v_fOd K)).kwdefaults) ((fnD K (v_fOd K)).doc) ((fnD K (v_fOd K)).pyModule) ((fnD K (v_fOd K)).annotations) ((fnD K (v_fOd K)).code) ((fnD K (v_fOd K)).closureTuple)), ((oOf K (v_fOd K)).slots)⟩ := look_fn n_lOd (of_decide_eq_true k_lOd_d) rfl rfl
  have cOd : PySem.W.codeIn K ((fnD K (v_fOd K)).code) "_law_odd" = true := k_cOd
  have kOd : PySem.W.keepIn K (.ref (v_fOd K)) = true := k_kOd
  have aFo : PySem.W.nsIn K mainGlobals "_law_font" = some (some (.ref (v_fFo K))) := of_decide_eq_true k_aFo
  have lFo : K.lookup (v_fFo K) = some ⟨((oOf K (v_fFo K)).cls), ((oOf K (v_fFo K)).dict), .func (PySem.W.fnOf "_law_font" "_law_font" (defArgs s_font) (defBody s_font) (defScope s_font) .none ((fnD K (v_fFo K)).kwdefaults) ((fnD K (v_fFo K)).doc) ((fnD K (v_fFo K)).pyModule) ((fnD K (v_fFo K)).annotations) ((fnD K (v_fFo K)).code) ((fnD K (v_fFo K)).closureTuple)), ((oOf K (v_fFo K)).slots)⟩ := look_fn n_lFo (of_decide_eq_true k_lFo_d) rfl rfl
  have cFo : PySem.W.codeIn K ((fnD K (v_fFo K)).code) "_law_font" = true := k_cFo
  have kFo : PySem.W.keepIn K (.ref (v_fFo K)) = true := k_kFo
  have aHe : PySem.W.nsIn K mainGlobals "_law_heads" = some (some (.ref (v_fHe K))) := of_decide_eq_true k_aHe
  have lHe : K.lookup (v_fHe K) = some ⟨((oOf K (v_fHe K)).cls), ((oOf K (v_fHe K)).dict), .func (PySem.W.fnOf "_law_heads" "_law_heads" (defArgs s_heads) (defBody s_heads) (defScope s_heads) .none ((fnD K (v_fHe K)).kwdefaults) ((fnD K (v_fHe K)).doc) ((fnD K (v_fHe K)).pyModule) ((fnD K (v_fHe K)).annotations) ((fnD K (v_fHe K)).code) ((fnD K (v_fHe K)).closureTuple)), ((oOf K (v_fHe K)).slots)⟩ := look_fn n_lHe (of_decide_eq_true k_lHe_d) rfl rfl
  have cHe : PySem.W.codeIn K ((fnD K (v_fHe K)).code) "_law_heads" = true := k_cHe
  have kHe : PySem.W.keepIn K (.ref (v_fHe K)) = true := k_kHe
  have aKs : PySem.W.nsIn K mainGlobals "_law_kinds" = some (some (.ref (v_fKs K))) := of_decide_eq_true k_aKs
  have lKs : K.lookup (v_fKs K) = some ⟨((oOf K (v_fKs K)).cls), ((oOf K (v_fKs K)).dict), .func (PySem.W.fnOf "_law_kinds" "_law_kinds" (defArgs s_kinds) (defBody s_kinds) (defScope s_kinds) .none ((fnD K (v_fKs K)).kwdefaults) ((fnD K (v_fKs K)).doc) ((fnD K (v_fKs K)).pyModule) ((fnD K (v_fKs K)).annotations) ((fnD K (v_fKs K)).code) ((fnD K (v_fKs K)).closureTuple)), ((oOf K (v_fKs K)).slots)⟩ := look_fn n_lKs (of_decide_eq_true k_lKs_d) rfl rfl
  have cKs : PySem.W.codeIn K ((fnD K (v_fKs K)).code) "_law_kinds" = true := k_cKs
  have kKs : PySem.W.keepIn K (.ref (v_fKs K)) = true := k_kKs
  have aOr : PySem.W.nsIn K mainGlobals "_law_ordered" = some (some (.ref (v_fOr K))) := of_decide_eq_true k_aOr
  have lOr : K.lookup (v_fOr K) = some ⟨((oOf K (v_fOr K)).cls), ((oOf K (v_fOr K)).dict), .func (PySem.W.fnOf "_law_ordered" "_law_ordered" (defArgs s_ordered) (defBody s_ordered) (defScope s_ordered) .none ((fnD K (v_fOr K)).kwdefaults) ((fnD K (v_fOr K)).doc) ((fnD K (v_fOr K)).pyModule) ((fnD K (v_fOr K)).annotations) ((fnD K (v_fOr K)).code) ((fnD K (v_fOr K)).closureTuple)), ((oOf K (v_fOr K)).slots)⟩ := look_fn n_lOr (of_decide_eq_true k_lOr_d) rfl rfl
  have cOr : PySem.W.codeIn K ((fnD K (v_fOr K)).code) "_law_ordered" = true := k_cOr
  have kOr : PySem.W.keepIn K (.ref (v_fOr K)) = true := k_kOr
  have aPl : PySem.W.nsIn K mainGlobals "_law_plain" = some (some (.ref (v_fPl K))) := of_decide_eq_true k_aPl
  have lPl : K.lookup (v_fPl K) = some ⟨((oOf K (v_fPl K)).cls), ((oOf K (v_fPl K)).dict), .func (PySem.W.fnOf "_law_plain" "_law_plain" (defArgs s_plain) (defBody s_plain) (defScope s_plain) .none ((fnD K (v_fPl K)).kwdefaults) ((fnD K (v_fPl K)).doc) ((fnD K (v_fPl K)).pyModule) ((fnD K (v_fPl K)).annotations) ((fnD K (v_fPl K)).code) ((fnD K (v_fPl K)).closureTuple)), ((oOf K (v_fPl K)).slots)⟩ := look_fn n_lPl (of_decide_eq_true k_lPl_d) rfl rfl
  have cPl : PySem.W.codeIn K ((fnD K (v_fPl K)).code) "_law_plain" = true := k_cPl
  have kPl : PySem.W.keepIn K (.ref (v_fPl K)) = true := k_kPl
  have aFl : PySem.W.nsIn K mainGlobals "_law_flipped" = some (some (.ref (v_fFl K))) := of_decide_eq_true k_aFl
  have lFl : K.lookup (v_fFl K) = some ⟨((oOf K (v_fFl K)).cls), ((oOf K (v_fFl K)).dict), .func (PySem.W.fnOf "_law_flipped" "_law_flipped" (defArgs s_flip) (defBody s_flip) (defScope s_flip) .none ((fnD K (v_fFl K)).kwdefaults) ((fnD K (v_fFl K)).doc) ((fnD K (v_fFl K)).pyModule) ((fnD K (v_fFl K)).annotations) ((fnD K (v_fFl K)).code) ((fnD K (v_fFl K)).closureTuple)), ((oOf K (v_fFl K)).slots)⟩ := look_fn n_lFl (of_decide_eq_true k_lFl_d) rfl rfl
  have cFl : PySem.W.codeIn K ((fnD K (v_fFl K)).code) "_law_flipped" = true := k_cFl
  have kFl : PySem.W.keepIn K (.ref (v_fFl K)) = true := k_kFl
  have aFm : PySem.W.nsIn K mainGlobals "_law_font_made" = some (some (.ref (v_fFm K))) := of_decide_eq_true k_aFm
  have lFm : K.lookup (v_fFm K) = some ⟨((oOf K (v_fFm K)).cls), ((oOf K (v_fFm K)).dict), .func (PySem.W.fnOf "_law_font_made" "_law_font_made" (defArgs s_fmade) (defBody s_fmade) (defScope s_fmade) .none ((fnD K (v_fFm K)).kwdefaults) ((fnD K (v_fFm K)).doc) ((fnD K (v_fFm K)).pyModule) ((fnD K (v_fFm K)).annotations) ((fnD K (v_fFm K)).code) ((fnD K (v_fFm K)).closureTuple)), ((oOf K (v_fFm K)).slots)⟩ := look_fn n_lFm (of_decide_eq_true k_lFm_d) rfl rfl
  have cFm : PySem.W.codeIn K ((fnD K (v_fFm K)).code) "_law_font_made" = true := k_cFm
  have kFm : PySem.W.keepIn K (.ref (v_fFm K)) = true := k_kFm
  have aMa : PySem.W.nsIn K mainGlobals "_law_made" = some (some (.ref (v_fMa K))) := of_decide_eq_true k_aMa
  have lMa : K.lookup (v_fMa K) = some ⟨((oOf K (v_fMa K)).cls), ((oOf K (v_fMa K)).dict), .func (PySem.W.fnOf "_law_made" "_law_made" (defArgs s_cmade) (defBody s_cmade) (defScope s_cmade) .none ((fnD K (v_fMa K)).kwdefaults) ((fnD K (v_fMa K)).doc) ((fnD K (v_fMa K)).pyModule) ((fnD K (v_fMa K)).annotations) ((fnD K (v_fMa K)).code) ((fnD K (v_fMa K)).closureTuple)), ((oOf K (v_fMa K)).slots)⟩ := look_fn n_lMa (of_decide_eq_true k_lMa_d) rfl rfl
  have cMa : PySem.W.codeIn K ((fnD K (v_fMa K)).code) "_law_made" = true := k_cMa
  have kMa : PySem.W.keepIn K (.ref (v_fMa K)) = true := k_kMa
  have aSn : PySem.W.nsIn K mainGlobals "_law_seen" = some (some (.ref (v_fSn K))) := of_decide_eq_true k_aSn
  have lSn : K.lookup (v_fSn K) = some ⟨((oOf K (v_fSn K)).cls), ((oOf K (v_fSn K)).dict), .func (PySem.W.fnOf "_law_seen" "_law_seen" (defArgs s_seen) (defBody s_seen) (defScope s_seen) .none ((fnD K (v_fSn K)).kwdefaults) ((fnD K (v_fSn K)).doc) ((fnD K (v_fSn K)).pyModule) ((fnD K (v_fSn K)).annotations) ((fnD K (v_fSn K)).code) ((fnD K (v_fSn K)).closureTuple)), ((oOf K (v_fSn K)).slots)⟩ := look_fn n_lSn (of_decide_eq_true k_lSn_d) rfl rfl
  have cSn : PySem.W.codeIn K ((fnD K (v_fSn K)).code) "_law_seen" = true := k_cSn
  have kSn : PySem.W.keepIn K (.ref (v_fSn K)) = true := k_kSn
  have aLb : PySem.W.nsIn K mainGlobals "_law_bearing" = some (some (.ref (v_fLb K))) := of_decide_eq_true k_aLb
  have lLb : K.lookup (v_fLb K) = some ⟨((oOf K (v_fLb K)).cls), ((oOf K (v_fLb K)).dict), .func (PySem.W.fnOf "_law_bearing" "_law_bearing" (defArgs s_lbear) (defBody s_lbear) (defScope s_lbear) .none ((fnD K (v_fLb K)).kwdefaults) ((fnD K (v_fLb K)).doc) ((fnD K (v_fLb K)).pyModule) ((fnD K (v_fLb K)).annotations) ((fnD K (v_fLb K)).code) ((fnD K (v_fLb K)).closureTuple)), ((oOf K (v_fLb K)).slots)⟩ := look_fn n_lLb (of_decide_eq_true k_lLb_d) rfl rfl
  have cLb : PySem.W.codeIn K ((fnD K (v_fLb K)).code) "_law_bearing" = true := k_cLb
  have kLb : PySem.W.keepIn K (.ref (v_fLb K)) = true := k_kLb
  have aTo : PySem.W.nsIn K mainGlobals "_law_told" = some (some (.ref (v_fTo K))) := of_decide_eq_true k_aTo
  have lTo : K.lookup (v_fTo K) = some ⟨((oOf K (v_fTo K)).cls), ((oOf K (v_fTo K)).dict), .func (PySem.W.fnOf "_law_told" "_law_told" (defArgs s_told6) (defBody s_told6) (defScope s_told6) .none ((fnD K (v_fTo K)).kwdefaults) ((fnD K (v_fTo K)).doc) ((fnD K (v_fTo K)).pyModule) ((fnD K (v_fTo K)).annotations) ((fnD K (v_fTo K)).code) ((fnD K (v_fTo K)).closureTuple)), ((oOf K (v_fTo K)).slots)⟩ := look_fn n_lTo (of_decide_eq_true k_lTo_d) rfl rfl
  have cTo : PySem.W.codeIn K ((fnD K (v_fTo K)).code) "_law_told" = true := k_cTo
  have kTo : PySem.W.keepIn K (.ref (v_fTo K)) = true := k_kTo
  have aLt : PySem.W.nsIn K mainGlobals "_law_sets" = some (some (.ref (v_fLt K))) := of_decide_eq_true k_aLt
  have lLt : K.lookup (v_fLt K) = some ⟨((oOf K (v_fLt K)).cls), ((oOf K (v_fLt K)).dict), .func (PySem.W.fnOf "_law_sets" "_law_sets" (defArgs s_sets) (defBody s_sets) (defScope s_sets) .none ((fnD K (v_fLt K)).kwdefaults) ((fnD K (v_fLt K)).doc) ((fnD K (v_fLt K)).pyModule) ((fnD K (v_fLt K)).annotations) (.ref (v_cS K)) ((fnD K (v_fLt K)).closureTuple)), ((oOf K (v_fLt K)).slots)⟩ := look_fn n_lLt (of_decide_eq_true k_lLt_d) rfl (of_decide_eq_true k_lLt_c)
  have cLt : PySem.W.codeIn K (.ref (v_cS K)) "_law_sets" = true := k_cLt
  have kLt : PySem.W.keepIn K (.ref (v_fLt K)) = true := k_kLt
  have aInC : PySem.W.findIn K (.ref (v_C K)) "__init__" = some (some (.ref (v_fInC K))) := of_decide_eq_true k_aInC
  have iInC : PySem.W.isFn K (.ref (v_fInC K)) = true := k_iInC
  have lInC : K.lookup (v_fInC K) = some ⟨((oOf K (v_fInC K)).cls), ((oOf K (v_fInC K)).dict), .func (PySem.W.fnOf "__init__" "Font.__init__" (defArgs s_init) (defBody s_init) (defScope s_init) (.ref (v_tDInC K)) ((fnD K (v_fInC K)).kwdefaults) ((fnD K (v_fInC K)).doc) ((fnD K (v_fInC K)).pyModule) ((fnD K (v_fInC K)).annotations) ((fnD K (v_fInC K)).code) ((fnD K (v_fInC K)).closureTuple)), ((oOf K (v_fInC K)).slots)⟩ := look_fn n_lInC (of_decide_eq_true k_lInC_d) rfl rfl
  have dInC : K.lookup (v_tDInC K) = some ⟨((oOf K (v_tDInC K)).cls), ((oOf K (v_tDInC K)).dict), .seq #[Value.ref (v_tEInC0 K)] (seqN K (v_tDInC K)), ((oOf K (v_tDInC K)).slots)⟩ := look_seq (of_decide_eq_true k_dInC)
  have eInC0 : K.lookup (v_tEInC0 K) = some ⟨.type "tuple", ((oOf K (v_tEInC0 K)).dict), .seq #[] (seqN K (v_tEInC0 K)), ((oOf K (v_tEInC0 K)).slots)⟩ := look_seqT (of_decide_eq_true k_eInC0) (of_decide_eq_true k_eInC0_t)
  have cInC : PySem.W.codeIn K ((fnD K (v_fInC K)).code) "Font.__init__" = true := k_cInC
  have kInC : PySem.W.keepIn K (.ref (v_fInC K)) = true := k_kInC
  have mkC : PySem.W.makesIn K (v_C K) = true := k_mkC
  have kCC : PySem.W.keepIn K (.ref (v_C K)) = true := k_kCC
  have aFc : PySem.W.findIn K (.ref (v_C K)) "__contains__" = some (some (.ref (v_fFc K))) := of_decide_eq_true k_aFc
  have iFc : PySem.W.isFn K (.ref (v_fFc K)) = true := k_iFc
  have lFc : K.lookup (v_fFc K) = some ⟨((oOf K (v_fFc K)).cls), ((oOf K (v_fFc K)).dict), .func (PySem.W.fnOf "__contains__" "Font.__contains__" (defArgs s_fcont) (defBody s_fcont) (defScope s_fcont) .none ((fnD K (v_fFc K)).kwdefaults) ((fnD K (v_fFc K)).doc) ((fnD K (v_fFc K)).pyModule) ((fnD K (v_fFc K)).annotations) ((fnD K (v_fFc K)).code) ((fnD K (v_fFc K)).closureTuple)), ((oOf K (v_fFc K)).slots)⟩ := look_fn n_lFc (of_decide_eq_true k_lFc_d) rfl rfl
  have cFc : PySem.W.codeIn K ((fnD K (v_fFc K)).code) "Font.__contains__" = true := k_cFc
  have kFc : PySem.W.keepIn K (.ref (v_fFc K)) = true := k_kFc
  have aTn : PySem.W.findIn K (.ref (v_C K)) "turned" = some (some (.ref (v_fTn K))) := of_decide_eq_true k_aTn
  have iTn : PySem.W.isFn K (.ref (v_fTn K)) = true := k_iTn
  have lTn : K.lookup (v_fTn K) = some ⟨((oOf K (v_fTn K)).cls), ((oOf K (v_fTn K)).dict), .func (PySem.W.fnOf "turned" "Font.turned" (defArgs s_turned) (defBody s_turned) (defScope s_turned) .none ((fnD K (v_fTn K)).kwdefaults) ((fnD K (v_fTn K)).doc) ((fnD K (v_fTn K)).pyModule) ((fnD K (v_fTn K)).annotations) ((fnD K (v_fTn K)).code) ((fnD K (v_fTn K)).closureTuple)), ((oOf K (v_fTn K)).slots)⟩ := look_fn n_lTn (of_decide_eq_true k_lTn_d) rfl rfl
  have cTn : PySem.W.codeIn K ((fnD K (v_fTn K)).code) "Font.turned" = true := k_cTn
  have kTn : PySem.W.keepIn K (.ref (v_fTn K)) = true := k_kTn
  have aKm : PySem.W.findIn K (.ref (v_C K)) "kept" = some (some (.ref (v_fKm K))) := of_decide_eq_true k_aKm
  have iKm : PySem.W.isFn K (.ref (v_fKm K)) = true := k_iKm
  have lKm : K.lookup (v_fKm K) = some ⟨((oOf K (v_fKm K)).cls), ((oOf K (v_fKm K)).dict), .func (PySem.W.fnOf "kept" "Font.kept" (defArgs s_keptM) (defBody s_keptM) (defScope s_keptM) .none ((fnD K (v_fKm K)).kwdefaults) ((fnD K (v_fKm K)).doc) ((fnD K (v_fKm K)).pyModule) ((fnD K (v_fKm K)).annotations) ((fnD K (v_fKm K)).code) ((fnD K (v_fKm K)).closureTuple)), ((oOf K (v_fKm K)).slots)⟩ := look_fn n_lKm (of_decide_eq_true k_lKm_d) rfl rfl
  have cKm : PySem.W.codeIn K ((fnD K (v_fKm K)).code) "Font.kept" = true := k_cKm
  have kKm : PySem.W.keepIn K (.ref (v_fKm K)) = true := k_kKm
  have aSm : PySem.W.findIn K (.ref (v_C K)) "shown" = some (some (.ref (v_fSm K))) := of_decide_eq_true k_aSm
  have iSm : PySem.W.isFn K (.ref (v_fSm K)) = true := k_iSm
  have lSm : K.lookup (v_fSm K) = some ⟨((oOf K (v_fSm K)).cls), ((oOf K (v_fSm K)).dict), .func (PySem.W.fnOf "shown" "Font.shown" (defArgs s_shownM) (defBody s_shownM) (defScope s_shownM) .none ((fnD K (v_fSm K)).kwdefaults) ((fnD K (v_fSm K)).doc) ((fnD K (v_fSm K)).pyModule) ((fnD K (v_fSm K)).annotations) ((fnD K (v_fSm K)).code) ((fnD K (v_fSm K)).closureTuple)), ((oOf K (v_fSm K)).slots)⟩ := look_fn n_lSm (of_decide_eq_true k_lSm_d) rfl rfl
  have cSm : PySem.W.codeIn K ((fnD K (v_fSm K)).code) "Font.shown" = true := k_cSm
  have kSm : PySem.W.keepIn K (.ref (v_fSm K)) = true := k_kSm
  have aPs : PySem.W.findIn K (.ref (v_C K)) "signs" = some (some (.ref (v_pPs K))) := of_decide_eq_true k_aPs
  have gPs : PySem.W.specialIn K (.ref (v_pPs K)) "__get__" = some (some (.builtin "property.__get__")) := of_decide_eq_true k_gPs
  have tPs : PySem.W.takesIn K (.ref (v_pPs K)) = some true := of_decide_eq_true k_tPs
  have rPs : PySem.W.recIn K (v_pPs K) "property" = some (.ref (v_fPs K) :: (recR K (v_pPs K) "property")) := look_rec k_rPs
  have lPs : K.lookup (v_fPs K) = some ⟨((oOf K (v_fPs K)).cls), ((oOf K (v_fPs K)).dict), .func (PySem.W.fnOf "signs" "Font.signs" (defArgs (inCls s_cls 4)) (defBody (inCls s_cls 4)) (defScope (inCls s_cls 4)) .none ((fnD K (v_fPs K)).kwdefaults) ((fnD K (v_fPs K)).doc) ((fnD K (v_fPs K)).pyModule) ((fnD K (v_fPs K)).annotations) ((fnD K (v_fPs K)).code) ((fnD K (v_fPs K)).closureTuple)), ((oOf K (v_fPs K)).slots)⟩ := look_fn n_lPs (of_decide_eq_true k_lPs_d) rfl rfl
  have cPs : PySem.W.codeIn K ((fnD K (v_fPs K)).code) "Font.signs" = true := k_cPs
  have aInCC : PySem.W.findIn K (.ref (v_CC K)) "__init__" = some (some (.ref (v_fInCC K))) := of_decide_eq_true k_aInCC
  have iInCC : PySem.W.isFn K (.ref (v_fInCC K)) = true := k_iInCC
  have lInCC : K.lookup (v_fInCC K) = some ⟨((oOf K (v_fInCC K)).cls), ((oOf K (v_fInCC K)).dict), .func (PySem.W.fnOf "__init__" "Case.__init__" (defArgs c_init) (defBody c_init) (defScope c_init) (.ref (v_tDInCC K)) ((fnD K (v_fInCC K)).kwdefaults) ((fnD K (v_fInCC K)).doc) ((fnD K (v_fInCC K)).pyModule) ((fnD K (v_fInCC K)).annotations) ((fnD K (v_fInCC K)).code) ((fnD K (v_fInCC K)).closureTuple)), ((oOf K (v_fInCC K)).slots)⟩ := look_fn n_lInCC (of_decide_eq_true k_lInCC_d) rfl rfl
  have dInCC : K.lookup (v_tDInCC K) = some ⟨((oOf K (v_tDInCC K)).cls), ((oOf K (v_tDInCC K)).dict), .seq #[Value.ref (v_tEInCC0 K)] (seqN K (v_tDInCC K)), ((oOf K (v_tDInCC K)).slots)⟩ := look_seq (of_decide_eq_true k_dInCC)
  have eInCC0 : K.lookup (v_tEInCC0 K) = some ⟨.type "tuple", ((oOf K (v_tEInCC0 K)).dict), .seq #[] (seqN K (v_tEInCC0 K)), ((oOf K (v_tEInCC0 K)).slots)⟩ := look_seqT (of_decide_eq_true k_eInCC0) (of_decide_eq_true k_eInCC0_t)
  have cInCC : PySem.W.codeIn K ((fnD K (v_fInCC K)).code) "Case.__init__" = true := k_cInCC
  have kInCC : PySem.W.keepIn K (.ref (v_fInCC K)) = true := k_kInCC
  have mkCC : PySem.W.makesIn K (v_CC K) = true := k_mkCC
  have kCCC : PySem.W.keepIn K (.ref (v_CC K)) = true := k_kCCC
  have aBr : PySem.W.findIn K (.ref (v_CC K)) "bearing" = some (some (.ref (v_fBr K))) := of_decide_eq_true k_aBr
  have iBr : PySem.W.isFn K (.ref (v_fBr K)) = true := k_iBr
  have lBr : K.lookup (v_fBr K) = some ⟨((oOf K (v_fBr K)).cls), ((oOf K (v_fBr K)).dict), .func (PySem.W.fnOf "bearing" "Case.bearing" (defArgs c_bear) (defBody c_bear) (defScope c_bear) .none ((fnD K (v_fBr K)).kwdefaults) ((fnD K (v_fBr K)).doc) ((fnD K (v_fBr K)).pyModule) ((fnD K (v_fBr K)).annotations) ((fnD K (v_fBr K)).code) ((fnD K (v_fBr K)).closureTuple)), ((oOf K (v_fBr K)).slots)⟩ := look_fn n_lBr (of_decide_eq_true k_lBr_d) rfl rfl
  have cBr : PySem.W.codeIn K ((fnD K (v_fBr K)).code) "Case.bearing" = true := k_cBr
  have kBr : PySem.W.keepIn K (.ref (v_fBr K)) = true := k_kBr
  have aIK : PySem.W.nsIn K mainGlobals "InvalidKind" = some (some (.ref (v_IK K))) := of_decide_eq_true k_aIK
  obtain ⟨nmIK, qIK, NIK, bsIK, snIK, subIK, abIK, colIK, ddIK, m0IK, m1IK, m2IK, m3IK, m5IK, xIK⟩ := look_exc k_xIK
  have sIK : PySem.W.findIn K (.ref (v_IK K)) "__setattr__" = some (some (.builtin "object.__setattr__")) := of_decide_eq_true k_sIK
  have gIK : PySem.W.findIn K (.ref (v_IK K)) "__getattribute__" = some (some (.builtin "BaseException.__getattribute__")) := of_decide_eq_true k_gIK
  have hIK : PySem.W.findIn K (.ref (v_IK K)) "__getattr__" = some none := of_decide_eq_true k_hIK
  have nIK : PySem.W.findIn K (.ref (v_IK K)) "value" = some none := of_decide_eq_true k_nIK
  have iIK : PySem.W.findIn K (.ref (v_IK K)) "__init__" = some (some (.ref (v_fIK K))) := of_decide_eq_true k_iIK
  have tIK : PySem.W.typeIn K (.ref (v_fIK K)) = some (.type "function") := of_decide_eq_true k_tIK
  have lIK : K.lookup (v_fIK K) = some ⟨((oOf K (v_fIK K)).cls), ((oOf K (v_fIK K)).dict), .func (PySem.W.fnOf "__init__" "InvalidKind.__init__" (eArgs "value" ⟨29, 17, 29, 21⟩ ⟨29, 23, 29, 28⟩) (eBody "value" ⟨30, 8, 30, 12⟩ ⟨30, 8, 30, 18⟩ ⟨30, 21, 30, 26⟩ ⟨30, 8, 30, 26⟩) (eScope "value") .none .none ((fnD K (v_fIK K)).doc) ((fnD K (v_fIK K)).pyModule) ((fnD K (v_fIK K)).annotations) ((fnD K (v_fIK K)).code) ((fnD K (v_fIK K)).closureTuple)), ((oOf K (v_fIK K)).slots)⟩ := look_fn n_lIK (of_decide_eq_true k_lIK_d) (of_decide_eq_true k_lIK_k) rfl
  have cIK : PySem.W.codeIn K ((fnD K (v_fIK K)).code) "InvalidKind.__init__" = true := k_cIK
  have kIK : PySem.W.keepIn K (.ref (v_IK K)) = true := k_kIK
  have eIK : PySem.W.subIn K (.ref (v_IK K)) (.type "BaseException") = some true := of_decide_eq_true k_eIK
  have yIK : PySem.W.typeIn K (.ref (v_IK K)) = some (.type "type") := of_decide_eq_true k_yIK
  have dIK : PySem.W.hasDictIn K (v_IK K) = true := k_dIK
  have bIK : PySem.W.isClsIn K (v_IK K) = true := k_bIK
  have zIK : PySem.W.subIn K (.ref (v_IK K)) (.ref (v_IK K)) = some true := of_decide_eq_true k_zIK
  have aIS : PySem.W.nsIn K mainGlobals "InvalidSigns" = some (some (.ref (v_IS K))) := of_decide_eq_true k_aIS
  obtain ⟨nmIS, qIS, NIS, bsIS, snIS, subIS, abIS, colIS, ddIS, m0IS, m1IS, m2IS, m3IS, m5IS, xIS⟩ := look_exc k_xIS
  have sIS : PySem.W.findIn K (.ref (v_IS K)) "__setattr__" = some (some (.builtin "object.__setattr__")) := of_decide_eq_true k_sIS
  have gIS : PySem.W.findIn K (.ref (v_IS K)) "__getattribute__" = some (some (.builtin "BaseException.__getattribute__")) := of_decide_eq_true k_gIS
  have hIS : PySem.W.findIn K (.ref (v_IS K)) "__getattr__" = some none := of_decide_eq_true k_hIS
  have nIS : PySem.W.findIn K (.ref (v_IS K)) "value" = some none := of_decide_eq_true k_nIS
  have iIS : PySem.W.findIn K (.ref (v_IS K)) "__init__" = some (some (.ref (v_fIS K))) := of_decide_eq_true k_iIS
  have tIS : PySem.W.typeIn K (.ref (v_fIS K)) = some (.type "function") := of_decide_eq_true k_tIS
  have lIS : K.lookup (v_fIS K) = some ⟨((oOf K (v_fIS K)).cls), ((oOf K (v_fIS K)).dict), .func (PySem.W.fnOf "__init__" "InvalidSigns.__init__" (eArgs "value" ⟨37, 17, 37, 21⟩ ⟨37, 23, 37, 28⟩) (eBody "value" ⟨38, 8, 38, 12⟩ ⟨38, 8, 38, 18⟩ ⟨38, 21, 38, 26⟩ ⟨38, 8, 38, 26⟩) (eScope "value") .none .none ((fnD K (v_fIS K)).doc) ((fnD K (v_fIS K)).pyModule) ((fnD K (v_fIS K)).annotations) ((fnD K (v_fIS K)).code) ((fnD K (v_fIS K)).closureTuple)), ((oOf K (v_fIS K)).slots)⟩ := look_fn n_lIS (of_decide_eq_true k_lIS_d) (of_decide_eq_true k_lIS_k) rfl
  have cIS : PySem.W.codeIn K ((fnD K (v_fIS K)).code) "InvalidSigns.__init__" = true := k_cIS
  have kIS : PySem.W.keepIn K (.ref (v_IS K)) = true := k_kIS
  have eIS : PySem.W.subIn K (.ref (v_IS K)) (.type "BaseException") = some true := of_decide_eq_true k_eIS
  have yIS : PySem.W.typeIn K (.ref (v_IS K)) = some (.type "type") := of_decide_eq_true k_yIS
  have dIS : PySem.W.hasDictIn K (v_IS K) = true := k_dIS
  have bIS : PySem.W.isClsIn K (v_IS K) = true := k_bIS
  have zIS : PySem.W.subIn K (.ref (v_IS K)) (.ref (v_IS K)) = some true := of_decide_eq_true k_zIS
  have vIS : PySem.W.subIn K (.ref (v_IS K)) (.type "ValueError") = some true := of_decide_eq_true k_vIS
  have aUS : PySem.W.nsIn K mainGlobals "UnknownSign" = some (some (.ref (v_US K))) := of_decide_eq_true k_aUS
  obtain ⟨nmUS, qUS, NUS, bsUS, snUS, subUS, abUS, colUS, ddUS, m0US, m1US, m2US, m3US, m5US, xUS⟩ := look_exc k_xUS
  have sUS : PySem.W.findIn K (.ref (v_US K)) "__setattr__" = some (some (.builtin "object.__setattr__")) := of_decide_eq_true k_sUS
  have gUS : PySem.W.findIn K (.ref (v_US K)) "__getattribute__" = some (some (.builtin "BaseException.__getattribute__")) := of_decide_eq_true k_gUS
  have hUS : PySem.W.findIn K (.ref (v_US K)) "__getattr__" = some none := of_decide_eq_true k_hUS
  have nUS : PySem.W.findIn K (.ref (v_US K)) "value" = some none := of_decide_eq_true k_nUS
  have iUS : PySem.W.findIn K (.ref (v_US K)) "__init__" = some (some (.ref (v_fUS K))) := of_decide_eq_true k_iUS
  have tUS : PySem.W.typeIn K (.ref (v_fUS K)) = some (.type "function") := of_decide_eq_true k_tUS
  have lUS : K.lookup (v_fUS K) = some ⟨((oOf K (v_fUS K)).cls), ((oOf K (v_fUS K)).dict), .func (PySem.W.fnOf "__init__" "UnknownSign.__init__" (eArgs "value" ⟨51, 17, 51, 21⟩ ⟨51, 23, 51, 28⟩) (eBody "value" ⟨52, 8, 52, 12⟩ ⟨52, 8, 52, 18⟩ ⟨52, 21, 52, 26⟩ ⟨52, 8, 52, 26⟩) (eScope "value") .none .none ((fnD K (v_fUS K)).doc) ((fnD K (v_fUS K)).pyModule) ((fnD K (v_fUS K)).annotations) ((fnD K (v_fUS K)).code) ((fnD K (v_fUS K)).closureTuple)), ((oOf K (v_fUS K)).slots)⟩ := look_fn n_lUS (of_decide_eq_true k_lUS_d) (of_decide_eq_true k_lUS_k) rfl
  have cUS : PySem.W.codeIn K ((fnD K (v_fUS K)).code) "UnknownSign.__init__" = true := k_cUS
  have kUS : PySem.W.keepIn K (.ref (v_US K)) = true := k_kUS
  have eUS : PySem.W.subIn K (.ref (v_US K)) (.type "BaseException") = some true := of_decide_eq_true k_eUS
  have yUS : PySem.W.typeIn K (.ref (v_US K)) = some (.type "type") := of_decide_eq_true k_yUS
  have dUS : PySem.W.hasDictIn K (v_US K) = true := k_dUS
  have bUS : PySem.W.isClsIn K (v_US K) = true := k_bUS
  have zUS : PySem.W.subIn K (.ref (v_US K)) (.ref (v_US K)) = some true := of_decide_eq_true k_zUS
  have aIN : PySem.W.nsIn K mainGlobals "InvalidNumber" = some (some (.ref (v_IN K))) := of_decide_eq_true k_aIN
  have eIN : PySem.W.subIn K (.ref (v_IN K)) (.type "BaseException") = some true := of_decide_eq_true k_eIN
  have yIN : PySem.W.typeIn K (.ref (v_IN K)) = some (.type "type") := of_decide_eq_true k_yIN
  have bIN : PySem.W.isClsIn K (v_IN K) = true := k_bIN
  have aTF : PySem.W.nsIn K mainGlobals "TooFew" = some (some (.ref (v_TF K))) := of_decide_eq_true k_aTF
  have eTF : PySem.W.subIn K (.ref (v_TF K)) (.type "BaseException") = some true := of_decide_eq_true k_eTF
  have yTF : PySem.W.typeIn K (.ref (v_TF K)) = some (.type "type") := of_decide_eq_true k_yTF
  have bTF : PySem.W.isClsIn K (v_TF K) = true := k_bTF
  have aTM : PySem.W.nsIn K mainGlobals "TooMany" = some (some (.ref (v_TM K))) := of_decide_eq_true k_aTM
  have eTM : PySem.W.subIn K (.ref (v_TM K)) (.type "BaseException") = some true := of_decide_eq_true k_eTM
  have yTM : PySem.W.typeIn K (.ref (v_TM K)) = some (.type "type") := of_decide_eq_true k_yTM
  have bTM : PySem.W.isClsIn K (v_TM K) = true := k_bTM
  have aOF : PySem.W.nsIn K mainGlobals "OtherFont" = some (some (.ref (v_OF K))) := of_decide_eq_true k_aOF
  have eOF : PySem.W.subIn K (.ref (v_OF K)) (.type "BaseException") = some true := of_decide_eq_true k_eOF
  have yOF : PySem.W.typeIn K (.ref (v_OF K)) = some (.type "type") := of_decide_eq_true k_yOF
  have bOF : PySem.W.isClsIn K (v_OF K) = true := k_bOF
  have wISIK : PySem.W.subIn K (.ref (v_IS K)) (.ref (v_IK K)) = some false := of_decide_eq_true k_wISIK
  have wISIN : PySem.W.subIn K (.ref (v_IS K)) (.ref (v_IN K)) = some false := of_decide_eq_true k_wISIN
  have wISTF : PySem.W.subIn K (.ref (v_IS K)) (.ref (v_TF K)) = some false := of_decide_eq_true k_wISTF
  have wISTM : PySem.W.subIn K (.ref (v_IS K)) (.ref (v_TM K)) = some false := of_decide_eq_true k_wISTM
  have wISOF : PySem.W.subIn K (.ref (v_IS K)) (.ref (v_OF K)) = some false := of_decide_eq_true k_wISOF
  have aLa : PySem.W.nsIn K mainGlobals "law" = some (some (.ref (v_fLa K))) := of_decide_eq_true k_aLa
  have lLa : K.lookup (v_fLa K) = some ⟨((oOf K (v_fLa K)).cls), ((oOf K (v_fLa K)).dict), .func (PySem.W.fnOf "law" "law" (defArgs s_law) (defBody s_law) (defScope s_law) .none ((fnD K (v_fLa K)).kwdefaults) ((fnD K (v_fLa K)).doc) ((fnD K (v_fLa K)).pyModule) ((fnD K (v_fLa K)).annotations) (.ref (v_cL K)) ((fnD K (v_fLa K)).closureTuple)), ((oOf K (v_fLa K)).slots)⟩ := look_fn n_lLa (of_decide_eq_true k_lLa_d) rfl (of_decide_eq_true k_lLa_c)
  have cLa : PySem.W.codeIn K (.ref (v_cL K)) "law" = true := k_cLa
  have tbL : h.get? (v_PL K) = some emptyTab := S.tab _ (List.Mem.head _)
  have tbS : h.get? (v_PS K) = some emptyTab := S.tab _ (List.Mem.tail _ (List.Mem.head _))
  have chL : PySem.W.codeHdIn K (v_cL K) (v_PL K) = true := k_chL
  have nPL : K.lookup (v_PL K) = none := S.out _ (List.Mem.head _)
  have chS : PySem.W.codeHdIn K (v_cS K) (v_PS K) = true := k_chS
  have nPS : K.lookup (v_PS K) = none := S.out _ (List.Mem.tail _ (List.Mem.head _))
  have neLS : (v_PL K) ≠ (v_PS K) := of_decide_eq_true k_neLS
  exact all_mk X G hfa z_int z_len z_abs z_list z_tuple z_str z_set z_all z_isinstance z_repr z_range z_ValueError z_LookupError z_bool z_dict z_sum z_enumerate z_any z_sorted aA aB aC pgC hdC poC saC nC_signs nC_turns rdC gaC caC obG obT moC mv aCC pgCC hdCC poCC saCC nCC_font nCC_counts nCC_plates rdCC gaCC caCC moCC mvQ aLi lLi cLi kLi aFs lFs cFs kFs aSi lSi cSi kSi aSe lSe cSe kSe aIk lIk cIk kIk aKt lKt cKt kKt aPa lPa cPa kPa aIt lIt cIt kIt aNu lNu dNu cNu kNu aAk lAk cAk kAk aEn lEn cEn kEn aCo lCo cCo kCo aWs lWs cWs kWs aMe lMe cMe kMe aPe lPe cPe kPe aDr lDr cDr kDr aPi lPi cPi kPi aSh lSh cSh kSh aOd lOd cOd kOd aFo lFo cFo kFo aHe lHe cHe kHe aKs lKs cKs kKs aOr lOr cOr kOr aPl lPl cPl kPl aFl lFl cFl kFl aFm lFm cFm kFm aMa lMa cMa kMa aSn lSn cSn kSn aLb lLb cLb kLb aTo lTo cTo kTo aLt lLt cLt kLt aInC iInC lInC dInC eInC0 cInC kInC mkC kCC aFc iFc lFc cFc kFc aTn iTn lTn cTn kTn aKm iKm lKm cKm kKm aSm iSm lSm cSm kSm aPs gPs tPs rPs lPs cPs aInCC iInCC lInCC dInCC eInCC0 cInCC kInCC mkCC kCCC aBr iBr lBr cBr kBr aIK xIK sIK gIK hIK nIK iIK tIK lIK cIK kIK eIK yIK dIK bIK zIK aIS xIS sIS gIS hIS nIS iIS tIS lIS cIS kIS eIS yIS dIS bIS zIS vIS aUS xUS sUS gUS hUS nUS iUS tUS lUS cUS kUS eUS yUS dUS bUS zUS aIN eIN yIN bIN aTF eTF yTF bTF aTM eTM yTM bTM aOF eOF yOF bOF wISIK wISIN wISTF wISTM wISOF aLa lLa cLa tbL tbS chL nPL chS nPS neLS
end My
end
open PySem PySem.W PySem.Calls PyProof.Rows
set_option maxRecDepth 100000 in
set_option maxHeartbeats 0 in
theorem PySem.Challenge.cw_hymnplates_k06_whole_bearings_holds : PySem.Challenge.rw_hymnplates_k06_whole_bearings.Holds := by
  w_on; o_law
  refine HandSHeadRun.head_any (r := OpenLaw.row PySem.Challenge.rw_hymnplates_k06_whole_bearings) (q := My.hV) (H := My.hH) (ob := My.hO) (M := 20000) (loose := My.namA) (d := HandSHeadRun.topDef (OpenLaw.row PySem.Challenge.rw_hymnplates_k06_whole_bearings).prog 59) (kwd := []) My.hO_eq
    (by kernel_rfl) (fun s => by kernel_rfl) My.hrun (by kernel_rfl) (by kernel_rfl) (by kernel_rfl) (by rfl) (by first | assumption | decide +kernel) (by decide +kernel) ⟨rfl, rfl, rfl, rfl, rfl, by decide +kernel⟩ ?hw ?hc
  case hw => w_witness2
  case hc =>
    refine My.walkE (l := PySem.Challenge.rw_hymnplates_k06_whole_bearings) (n := 63) (k := 13) (x := "_law_script") rfl (by decide) (by kernel_rfl) ⟨rfl, by decide, by decide⟩ ?F
    intro w mg fa h Y G hmg0
    obtain ⟨K, KX, S⟩ := Y
    have hmg : mg ("law" : PySem.Str) = some (.ref fa) := by
      have e : (HandSHeadRun.topDef (OpenLaw.row PySem.Challenge.rw_hymnplates_k06_whole_bearings).prog 59).name = ("law" : PySem.Str) := by kernel_rfl
      rw [← e]
      exact hmg0
    exact ⟨K, KX, My.facts_mk KX G hmg S⟩
