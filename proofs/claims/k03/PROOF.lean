import PyProof.Rows.All
import Wide.All
import OpenK.AllK
import Wide.FinOn
import HandS.ForMost
import HandS.Exc
import HandS.Wide
import HandS.Walk
import PyProof.ListStr
import HandS.Strs
import HandS.IsInst
import HandS.ClsMeth
import HandS.Property
import HandS.StrMore
import HandS.Lambda
import HandS.Style
import HandS.Text
import HandS.ForSpec
import PyProof.ExcBaseAll.LookupError
import HandS.Defaults
import OpenK.KMeth
import OpenK.KOps
import HandS.CallLocal
import HandS.Star
import PyProof.StrLawsRepr
import KE.KIsAll
import HandS.ExcIs
import PyProof.StrOps2
import HandS.EndTab
import PySem.Challenge.RW_hymnplates_k03_kinds
section
set_option Elab.async false
set_option linter.all false
set_option maxRecDepth 100000
set_option maxHeartbeats 2000000
namespace My
open PySem PySem.Spec PyProof.Rows L2

/-! ### heaps as letters: what a step makes of one -/
/-- H1 is H with a new object o at p -/
structure New (H : Hp) (p : Addr) (o : HO) (H1 : Hp) : Prop where
  free : H p = none
  here : H1 p = some o
  els : ∀ b, b ≠ p → H1 b = H b
/-- H1 is H with the object at p changed to o -/
structure Wr (H : Hp) (p : Addr) (o : HO) (H1 : Hp) : Prop where
  here : H1 p = some o
  els : ∀ b, b ≠ p → H1 b = H b
theorem New.mk' {H : Hp} {p : Addr} {o : HO} (h : H p = none) : New H p o (upd H p o) := ⟨h, upd_same, fun _ n => upd_ne n⟩
theorem Wr.mk' {H : Hp} {p : Addr} {o : HO} : Wr H p o (upd H p o) := ⟨upd_same, fun _ n => upd_ne n⟩
theorem New.same {H H1 : Hp} {p : Addr} {o : HO} (n : New H p o H1) : Same H H1 := fun b u e => by
  rw [n.els b (ne_of_none e n.free)]; exact e
/-- all that was tracked, but at p, is as it was -/
def But (p : Addr) (H H1 : Hp) : Prop := ∀ b o, b ≠ p → H b = some o → H1 b = some o
theorem But.refl {p : Addr} (H : Hp) : But p H H := fun _ _ _ h => h
theorem But.trans {p : Addr} {H H1 H2 : Hp} (a : But p H H1) (b : But p H1 H2) : But p H H2 := fun c o n h => b c o n (a c o n h)
theorem But.of {p : Addr} {H H1 : Hp} (a : Same H H1) : But p H H1 := fun c o _ h => a c o h
theorem Wr.but {H H1 : Hp} {p : Addr} {o : HO} (n : Wr H p o H1) : But p H H1 := fun b u hb e => by
  rw [n.els b hb]; exact e
/-- a change at a place that H0 did not track -/
theorem Same.wr {H0 H H1 : Hp} {p : Addr} {o : HO} (s : Same H0 H) (f : H0 p = none) (n : Wr H p o H1) : Same H0 H1 := fun b u e => by
  rw [n.els b (ne_of_none e f)]; exact s b u e
theorem But.wr {H0 H H1 : Hp} {p q : Addr} {o : HO} (s : But q H0 H) (f : H0 p = none) (n : Wr H p o H1) : But q H0 H1 := fun b u hb e => by
  rw [n.els b (ne_of_none e f)]; exact s b u hb e
theorem But.free {p b : Addr} {H H1 : Hp} (s : But p H H1) (hb : b ≠ p) (h : H1 b = none) : H b = none := by
  cases q : H b with
  | none => rfl
  | some o => rw [s b o hb q] at h; cases h
theorem But.seq {K : PySem.W.Frag} {H H' : Hp} {p a : Addr} {xs : List V} (e : But p H H') (hn : a ≠ p) (h : SqL K H a xs) : SqL K H' a xs := by
  rcases h with (h | ⟨o, h⟩) | h
  · exact .inl (.inl (e _ _ hn h))
  · exact .inl (.inr ⟨o, e _ _ hn h⟩)
  · exact .inr h

theorem _root_.L2.Same.tupl {K : PySem.W.Frag} {H H' : Hp} {a : Addr} {xs : List V} (e : Same H H') (h : SqT K H a xs) : SqT K H' a xs := by
  rcases h with (h | ⟨o, h⟩) | h
  · exact .inl (.inl (e _ _ h))
  · exact .inl (.inr ⟨o, e _ _ h⟩)
  · exact .inr h
/-! ### rules whose heaps are letters -/
section
variable {X : Cx}
theorem PE.weak {e : Expr} {t t' : TE} (h : PE X e t) (hw : ∀ σ H Q, t' σ H Q → t σ H Q) : PE X e t' := ⟨fun pins s σ H Q I q => h.run pins s σ H Q I (hw σ H Q q)⟩
/-- what follows may be weakened -/
def mcE (t : TE) : TE := fun σ H Q => ∃ R : VK, t σ H R ∧ ∀ v H', R v H' → Q v H'
def mcA (t : TA) : TA := fun σ H Q => ∃ R : List V → Hp → Prop, t σ H R ∧ ∀ v H', R v H' → Q v H'
theorem PE.mc {e : Expr} {t : TE} (h : PE X e t) : PE X e (mcE t) := ⟨fun pins s σ H Q I q => by
  obtain ⟨R, q1, q2⟩ := q
  exact thn (h.run pins s σ H R I q1) fun _ _ ⟨v, H', J, r, z⟩ => ⟨v, H', J, r, q2 _ _ z⟩⟩
theorem PA.mc {es : List Expr} {t : TA} (h : PA X es t) : PA X es (mcA t) := ⟨fun pos pins s σ H Q I q => by
  obtain ⟨R, q1, q2⟩ := q
  exact thn (h.run pos pins s σ H R I q1) fun _ _ ⟨v, H', J, r, z⟩ => ⟨v, H', J, r, q2 _ _ z⟩⟩
theorem OpR.weak {f : Value → Value → Sem Value} {r r' : R2} (h : OpR X f r) (hw : ∀ x y H Q, r' x y H Q → r x y H Q) : OpR X f r' := fun pins s σ H x y v u Q I rx ry q => h pins s σ H x y v u Q I rx ry (hw _ _ _ _ q)
theorem CallR.weak {f : Value} {r r' : List V → Hp → VK → Prop} (h : CallR X f r) (hw : ∀ xs H Q, r' xs H Q → r xs H Q) : CallR X f r' := fun pins s σ H xs us Q I rx q => h pins s σ H xs us Q I rx (hw _ _ _ q)
theorem MtM.weak {id : String} {r r' : V → List V → Hp → VK → Prop} (h : MtM X id r) (hw : ∀ x xs H Q, r' x xs H Q → r x xs H Q) : MtM X id r' := fun pins s σ H x xs v us Q I rx rv q => h pins s σ H x xs v us Q I rx rv (hw _ _ _ _ q)
theorem SlR.weak {r r' : V → Option Int → Option Int → Hp → VK → Prop} (h : SlR X r) (hw : ∀ x lo hi H Q, r' x lo hi H Q → r x lo hi H Q) : SlR X r' := fun pins s σ H x v vl vu lo hi sl Q I a b c d q => h pins s σ H x v vl vu lo hi sl Q I a b c d (hw _ _ _ _ _ q)

/-- [a, b] -/
def qLst (t : TA) : TE := fun σ H Q => t σ H fun xs H1 => xs.length ≤ sizeLine ∧ ∀ p H2, New H1 p (.lst xs) H2 → Q (.ref p) H2
/-- (a, b) -/
def qTup (t : TA) : TE := fun σ H Q => t σ H fun xs H1 => xs.length ≤ sizeLine ∧ ∀ p H2, New H1 p (.tup xs) H2 → Q (.ref p) H2
theorem pe_lst' {es : List Expr} {t : TA} {pos : Pos} (h : PA X es t) : PE X (.List es pos) (qLst t) :=
  PE.weak (pe_lst (PA.mc h)) fun σ H Q q => ⟨_, q, fun _ _ z => ⟨z.1, fun p hp => z.2 p _ (.mk' hp)⟩⟩
theorem pe_tup' {es : List Expr} {t : TA} {pos : Pos} {x1} (h : PA X es t) : PE X (.Tuple es x1 pos) (qTup t) :=
  PE.weak (pe_tup (PA.mc h)) fun σ H Q q => ⟨_, q, fun _ _ z => ⟨z.1, fun p hp => z.2 p _ (.mk' hp)⟩⟩
/-- list(xs) -/
def qListOf (K : PySem.W.Frag) : List V → Hp → VK → Prop := fun xs H Q => ∃ p ys, xs = [.ref p] ∧ (SqL K H p ys ∨ SqT K H p ys) ∧ ∀ l H', New H l (.lst ys) H' → Q (.ref l) H'
theorem call_listOf : CallR X (.type "list") (qListOf X.K) := CallR.weak call_list_of fun xs H Q q => by
  obtain ⟨p, ys, e, h, k⟩ := q
  exact ⟨p, ys, e, h, fun l hl => k l _ (.mk' hl)⟩
/-- tuple(xs), xs a list -/
def qTupOfL (K : PySem.W.Frag) : List V → Hp → VK → Prop := fun xs H Q => ∃ p ys, xs = [.ref p] ∧ SqL K H p ys ∧ ∀ l H', New H l (.tup ys) H' → Q (.ref l) H'
theorem call_tupOfL : CallR X (.type "tuple") (qTupOfL X.K) := CallR.weak call_tuple_of fun xs H Q q => by
  obtain ⟨p, ys, e, h, k⟩ := q
  exact ⟨p, ys, e, .inl ⟨h, fun l hl => k l _ (.mk' hl)⟩⟩
/-- xs[lo:hi] -/
def qSlL (K : PySem.W.Frag) : V → Option Int → Option Int → Hp → VK → Prop := fun x lo hi H Q => ∃ a xs, x = .ref a ∧ SqL K H a xs ∧ ∀ p H', New H p (.lst (cutV xs lo hi)) H' → Q (.ref p) H'
theorem sl_list' : SlR X (qSlL X.K) := SlR.weak sl_list fun x lo hi H Q q => by
  obtain ⟨a, xs, e, h, k⟩ := q
  exact ⟨a, xs, e, h, fun p hp => k p _ (.mk' hp)⟩
/-- xs + ys -/
def qCat : R2 := fun x y H Q => ∃ a b xs ys, x = .ref a ∧ y = .ref b ∧ H a = some (.lst xs) ∧ H b = some (.lst ys) ∧ xs.length + ys.length ≤ sizeLine ∧ ∀ p H', New H p (.lst (xs ++ ys)) H' → Q (.ref p) H'
theorem op_cat' : OpR X (binaryOp .Add) qCat := OpR.weak op_cat fun x y H Q q => by
  obtain ⟨a, b, xs, ys, e1, e2, h1, h2, hl, k⟩ := q
  exact ⟨a, b, xs, ys, e1, e2, h1, h2, hl, fun p hp => k p _ (.mk' hp)⟩
/-- xs.append(y), xs.pop(), xs.pop(i) -/
def qAppend : V → List V → Hp → VK → Prop := fun x vs H Q => ∃ l xs y, x = .ref l ∧ vs = [y] ∧ H l = some (.lst xs) ∧ xs.length < sizeLine ∧ ∀ H', Wr H l (.lst (xs ++ [y])) H' → Q .non H'
theorem mt_append' : MtM X "list.append" qAppend := MtM.weak mt_append fun x vs H Q q => by
  obtain ⟨l, xs, y, e1, e2, h, hl, k⟩ := q
  exact ⟨l, xs, y, e1, e2, h, hl, k _ .mk'⟩
def qPop : V → List V → Hp → VK → Prop := fun x vs H Q => ∃ l xs y, x = .ref l ∧ vs = [] ∧ H l = some (.lst xs) ∧ xs[xs.length - 1]? = some y ∧ ∀ H', Wr H l (.lst xs.dropLast) H' → Q y H'
theorem mt_pop' : MtM X "list.pop" qPop := MtM.weak mt_pop fun x vs H Q q => by
  obtain ⟨l, xs, y, e1, e2, h, hl, k⟩ := q
  exact ⟨l, xs, y, e1, e2, h, hl, k _ .mk'⟩
def qPopAt : V → List V → Hp → VK → Prop := fun x vs H Q => ∃ l xs y, ∃ i : Nat, x = .ref l ∧ vs = [.int i] ∧ H l = some (.lst xs) ∧ xs[i]? = some y ∧ xs.length < 2 ^ 62 ∧ ∀ H', Wr H l (.lst (xs.eraseIdx i)) H' → Q y H'
theorem mt_popAt' : MtM X "list.pop" qPopAt := MtM.weak mt_popAt fun x vs H Q q => by
  obtain ⟨l, xs, y, i, e1, e2, h, hy, hl, k⟩ := q
  have hi : i < xs.length := (List.getElem?_eq_some_iff.mp hy).1
  refine ⟨l, xs, i, i, y, e1, e2, h, by omega, by omega, ?_, hy, k _ .mk'⟩
  have e0 : ¬ ((i : Int) < 0) := by omega
  unfold seqIndex?
  simp only [if_neg e0]
  have e1 : (decide (0 ≤ (i : Int)) && decide ((i : Int) < (xs.length : Int))) = true := by
    rw [Bool.and_eq_true, decide_eq_true_eq, decide_eq_true_eq]
    omega
  rw [if_pos e1, Int.toNat_natCast]
/-- xs != [], xs a list of anything -/
def qNeNil (K : PySem.W.Frag) : R2 := fun x y H Q => ∃ a b xs, x = .ref a ∧ y = .ref b ∧ SqL K H a xs ∧ H b = some (.lst []) ∧ Q (.bl (!xs.isEmpty)) H
theorem op_neNil (hu : X.A.units < cLine) : OpR X (compareOp .NotEq) (qNeNil X.K) := by
  intro pins s σ H x y v u Q I rx ry h
  obtain ⟨a, b, xs, rfl, rfl, ha, hb, q⟩ := h
  cases rx
  cases ry
  obtain ⟨its, r1, p1, _⟩ := I.list ha
  obtain ⟨its2, r2, p2, _⟩ := I.list (SqL.of hb : SqL X.K H b [])
  have e2 : its2 = [] := by
    cases r2
    rfl
  subst e2
  cases r1 with
  | nil => exact SeqAt.RcNeAt.lists (e := fun _ => true) p1.isList p2.isList rfl hu (fun j h1 _ => absurd h1 (by simp)) X.prog X.w X.xe _ ⟨.bl _, H, I, rfl, q⟩
  | cons _ _ => exact SeqAt.RcNeAt.lists_lengths p1.isList p2.isList (by simp) hu X.prog X.w X.xe _ ⟨.bl _, H, I, rfl, q⟩
end
end My
end
section
set_option Elab.async false
set_option linter.all false
set_option maxRecDepth 100000
set_option maxHeartbeats 4000000
namespace My
open PySem PySem.Spec PyProof.Rows L2
/-! ### try with several clauses, each «except C as n», one name n in slot i -/
abbrev Cl : Type := Value × (Addr → Value → Option Addr → TS)
inductive Clauses (X : Cx) (n : Str) : List ExceptHandler → List Cl → Prop
  | done : Clauses X n [] []
  | more {x : Str} {c : Value} {ts : Addr → Value → Option Addr → TS} {s0 : Stmt} {rest : List Stmt} {px py : Pos} {hs : List ExceptHandler} {l : List Cl} (named : Names X x c)
      (suite : ∀ (a : Addr) (oe : Obj) (cls : Value) (d : Option Addr) (pn : List (Addr × Obj)), Zc cls d oe → (∃ vs, oe.data = .fields vs) → PSs (X.suite a ((a, oe) :: pn)) (s0 :: rest) (ts a cls d)) (tl : Clauses X n hs l) :
      Clauses X n (.ExceptHandler (some (.Name x px)) (some n) (s0 :: rest) py :: hs) ((c, ts) :: l)
/-- where the suite of a clause goes on: its name is gone -/
def bare (i : Nat) (D : Ends) : Ends := { nx := fun σ H => D.nx (σ.set i none) H, rt := D.rt, bk := fun σ H => D.bk (σ.set i none) H, ct := fun σ H => D.ct (σ.set i none) H }
def wCl (K : PySem.W.Frag) (i : Nat) (out : WX) (D : Ends) : List Cl → WX
  | [] => out
  | q :: l => fun cls d σ H => ∃ hit, PySem.W.exmOne K cls q.1 = some hit ∧ (hit = true → ∀ a, H a = none → q.2 a cls d (bare i D) (σ.set i (some (.ref a))) H) ∧ (hit = false → wCl K i out D l cls d σ H)
theorem ps_try_cl {X : Cx} {n : Str} {i : Nat} {body : List Stmt} {h1 : ExceptHandler} {hs : List ExceptHandler} {l : List Cl} {pos : Pos} {tb : WX → TS} {out : WX}
    (st : X.stack = X.env :: X.outer) (fr : X.env.frame = some X.env.locals) (nd : X.N.Nodup) (at_ : X.N[i]? = some n) (kn : X.env.kindOf n = some .local) (tk : Takes X out)
    (hb : ∀ (W : WX) (pn : List (Addr × Obj)) (xe : Value → Shared → Prop), Takes (X.tr pn xe) W → PassesOwn (model X.prog X.w) X.A X.env xe → PSs (X.tr pn xe) body (tb W)) (hc : Clauses X n (h1 :: hs) l) :
    PS X (.Try body (h1 :: hs) [] [] pos) (fun D σ H => tb (wCl X.K i out D l) D σ H) := by
  constructor
  intro pins s σ H D I want
  have okX := I.ok
  have frs_ : X.A.frames = some (X.env :: X.outer) := okX.frames.trans (congrArg some st)
  apply wpAny_Try_except
  let caught : Value → Shared → Prop := fun e t => wpAny (model X.prog X.w) X.A (noteFrame e X.env) (fun _ t2 => wpAny (model X.prog X.w) X.A (setFlight e none) (fun _ t3 => wpAny (model X.prog X.w) X.A (handleBy e X.env (h1 :: hs)) (SP X pins D) X.xe t3) X.xe t2) X.xe t
  have takes : Takes (X.tr (X.pn ++ pins) caught) (wCl X.K i out D l) := by
    intro u sU fly
    obtain ⟨a, B, sI, pins2, σ2, H2, cls, d, rfl, Jt, fresh, ups, sk, an, eos, gs, wish⟩ := fly
    have J := Jt.ofTry okX
    rw [st] at sk
    have notF : ∀ {hp : Heap} {ob : Obj} {fv : Array Value}, hp.FunFrames B (X.env :: X.outer) → hp.get? a = some ob → ob.data = .fields fv → a ∉ frs (X.env :: X.outer) := by
      intro hp ob fv ff ea ed mem
      obtain ⟨_, ob2, eb, no⟩ := ff.mem mem
      rw [Option.some.inj (ea.symm.trans eb)] at ed
      exact no _ ed
    show wpAny _ _ (noteFrame (.ref a) X.env) _ _ _
    apply Sky.land Zc.steady frs_ fr sk
    intro ha fa ua
    have Ja : Inv X pins σ2 H2 { sU with heap := ha } := J.landed fresh fa.1 (ups.trans ua) eos gs
    obtain ⟨oa, va, ea, za, da⟩ := fa.there
    have nof := notF fa.2.2.1 ea da
    have noL : a ≠ X.env.locals := by
      intro z
      apply nof
      rw [frs, List.mem_filterMap]
      exact ⟨X.env, List.mem_cons_self, fr.trans (congrArg some z.symm)⟩
    have noS : a ∉ X.fs := by
      intro mem
      obtain ⟨e, me, q⟩ := List.mem_filterMap.mp mem
      apply nof
      rw [frs, List.mem_filterMap]
      exact ⟨e, List.mem_cons_of_mem _ me, q⟩
    have Sa := Ja.suite ea da an noL noS
    suffices look : ∀ (hs' : List ExceptHandler) (l' : List Cl), Clauses X n hs' l' → wCl X.K i out D l' cls d σ2 H2 → wpAny (model X.prog X.w) X.A (handleBy (.ref a) X.env hs') (SP X pins D) X.xe { sU with heap := ha } from look _ _ hc wish
    intro hs' l' cc
    induction cc with
    | done =>
      intro wo
      apply wpAny_handleBy_nil
      obtain ⟨_, _, _, ob, fv, Tt, _, _, e1, _, e3, e4, _⟩ := id fa
      unfold PySem.passOn
      apply wpAny_bind
      apply wpAny_field e1 e3 e4
      rw [if_neg (fun z => by simp at z)]
      have leave : wpAny (model X.prog X.w) X.A (setFlight (.ref a) X.env.frame) (fun _ t => wpAny (model X.prog X.w) X.A (throw (.ref a) : Sem Flow) (SP X pins D) X.xe t) X.xe { sU with heap := ha } := by
        rw [fr]
        apply HandSPX.setFlight_upZ fa
        intro hz held uz
        apply wpAny_throw
        apply tk
        refine ⟨a, B, sI, pins, σ2, H2, cls, d, rfl, J, fresh, (ups.trans ua).trans uz, ?_, an, eos, gs, wo⟩
        rw [st]
        exact Or.inr (Or.inr held)
      first
        | exact wpAny_bind leave
        | exact wpAny_bind (wpAny_pure (wpAny_bind leave))
    | @more x c ts s0 rest px py hs2 l2 named suite tl ih =>
      intro wo
      obtain ⟨hit, e1, yes, no⟩ := wo
      refine wpAny_handleBy_cons (codeAny_handlers_test ?_) (fun q => by cases q)
      have isC : PySem.W.Looks (model X.prog X.w) ha (typeOf (.ref a)) cls := by
        intro A' Q' E' t kp q
        apply wpAny_typeOf_ref (kp _ _ ea)
        rw [za.1]
        exact q
      have ask := PySem.W.exm_one (M := model X.prog X.w) Ja.kIn isC e1
      have name_ : ∀ (Q' : Value → Shared → Prop) (E' : Value → Shared → Prop), Q' c { sU with heap := ha } → wpAny (model X.prog X.w) (X.A.mark (some (.ref a))) (eval (.Name x px) X.env) Q' E' { sU with heap := ha } := by
        intro Q' E' q
        obtain ⟨gl, nodbg, known⟩ := named
        rcases known with m1 | ⟨m1, m2, m3⟩
        · exact ld_glob (X := X.suite a ((a, oa) :: (X.pn ++ pins))) Sa gl m1 q nodbg
        · exact ld_blt (X := X.suite a ((a, oa) :: (X.pn ++ pins))) Sa gl m1 m2 q m3 nodbg
      apply name_
      apply ask.here
      cases hit with
      | false => exact ih (no rfl)
      | true =>
        apply codeAny_handlers_suite_as
        apply HandSPX.lands_againZ fa
        intro hq fq uq
        have Jq : Inv X pins σ2 H2 { sU with heap := hq } := J.landed fresh fq.1 ((ups.trans ua).trans uq) eos gs
        obtain ⟨oq, vq, eq, zq, dq⟩ := fq.there
        have Sq := Jq.suite eq dq an noL noS
        apply store_ok (X := X.suite a ((a, oq) :: (X.pn ++ pins))) (v := .ref a) Sq nd at_ (Or.inl kn) rfl ?_ (Or.inr kn)
        intro t5 S5
        have gone : ∀ {σ6 : L2.St} {H6 : Hp} {t6 : Shared} {R : Shared → Prop}, Inv (X.suite a ((a, oq) :: (X.pn ++ pins))) [] σ6 H6 t6 → (∀ t7, Inv X pins (σ6.set i none) H6 t7 → R t7) → wpAny (model X.prog X.w) X.A (do bindName X.env n .none; unbindBehindTheSuite X.env n py) (fun _ t7 => R t7) X.xe t6 := by
          intro σ6 H6 t6 R S6 q
          exact gone_ok (S6.unsuite okX) nd at_ kn q
        apply wpAny_mono ((suite a oq cls d (X.pn ++ pins) zq ⟨_, dq⟩).run [] t5 _ H2 _ S5 (yes rfl a an)) ?_ (fun _ _ z => False.elim z)
        intro fl t6 ends
        match fl, ends with
        | .next, ⟨σ6, H6, S6, q⟩ => exact gone S6 fun t7 J7 => ⟨_, _, J7, q⟩
        | .brk, ⟨σ6, H6, S6, q⟩ => exact gone S6 fun t7 J7 => ⟨_, _, J7, q⟩
        | .cont, ⟨σ6, H6, S6, q⟩ => exact gone S6 fun t7 J7 => ⟨_, _, J7, q⟩
        | .ret u, ⟨v6, σ6, H6, S6, r6, q⟩ => exact gone S6 fun t7 J7 => ⟨_, _, _, J7, r6, q⟩
  refine wpAny_mono ((hb _ (X.pn ++ pins) caught takes PassesOwn.looking).run [] s σ H D (I.toTry _) want) (fun fl t ends => ?_) (fun _ _ z => z)
  match fl, ends with
  | .next, ⟨σ', H', J', q⟩ => exact wpAny_execs_nil ⟨σ', H', J'.ofTry okX, q⟩
  | .brk, ⟨σ', H', J', q⟩ => exact ⟨σ', H', J'.ofTry okX, q⟩
  | .cont, ⟨σ', H', J', q⟩ => exact ⟨σ', H', J'.ofTry okX, q⟩
  | .ret u, ⟨v, σ', H', J', r, q⟩ => exact ⟨v, σ', H', J'.ofTry okX, r, q⟩
end My
end
section
set_option Elab.async false
set_option linter.all false
set_option maxRecDepth 100000
set_option maxHeartbeats 2000000
namespace My
open PySem PySem.Spec PyProof.Rows L2

/-! ### defs that are called where no repr is under way -/
structure FnG (P : Program) (w : World) (K : PySem.W.Frag) (mg : Str → Option Value) (base : Heap) (k : Nat) (f : Addr) (fd : FuncData) (ps : List Str) (sp : Sp) : Prop where
  size : ∀ vs H Q E, sp vs H Q E → vs.length = ps.length
  goes : ∀ (A : Around) (o : List Env) (s : Shared) (H : Hp) (args : Args) (us : List Value) (vs : List V) (Q : VK) (E : XK), A.guards = some [] → Room k A → Env0 P w K mg base A o s H → BindsTo s fd args (ps.zip us) → Vals vs us → sp vs H Q E →
    codeAny (model P w) A (.call (.ref f) args) (CR CX0 o P w H s Q E) s
section
variable {P : Program} {w : World} {K : PySem.W.Frag} {mg : Str → Option Value} {base : Heap}
theorem FnG.ofOk {k : Nat} {f : Addr} {fd : FuncData} {ps : List Str} {sp : Sp} (F : FnOk P w K mg base CX0 k f fd ps sp) : FnG P w K mg base k f fd ps sp :=
  ⟨F.len, fun A o s H args us vs Q E _ hr e b v q => F.run A o s H args us vs Q E hr e b v q⟩
theorem FnG.imp {k : Nat} {f : Addr} {fd : FuncData} {ps : List Str} {sp sp' : Sp} (F : FnG P w K mg base k f fd ps sp) (h : ∀ vs H Q E, sp' vs H Q E → sp vs H Q E) : FnG P w K mg base k f fd ps sp' :=
  ⟨fun vs H Q E q => F.size vs H Q E (h _ _ _ _ q), fun A o s H args us vs Q E g hr e b v q => F.goes A o s H args us vs Q E g hr e b v (h _ _ _ _ q)⟩
theorem guards_deeper {A : Around} {env : Env} (h : A.guards = some []) : (A.deeper env).guards = some [] := h
/-- a def by its body, where no repr is under way -/
theorem okG {x qual : Str} {st : Stmt} {f : Addr} {fd : FuncData} {N ps : List Str} {k : Nat} {sp : Sp} (F : Fun K x qual st f fd) (S : FnScope N ps (defScope st)) (size : ∀ vs H Q E, sp vs H Q E → vs.length = ps.length)
    (body : ∀ (cdv : Value) (A : Around) (o : List Env) (s : Shared) (H : Hp) (vs : List V) (Q : VK) (E : XK), (A.deeper (envOfC qual (defScope st) s.heap.objs.size f cdv)).guards = some [] → Room k (A.deeper (envOfC qual (defScope st) s.heap.objs.size f cdv)) → sp vs H Q E →
      ∃ t, PSs (cxOf CX0 P w K mg base N qual (defScope st) f cdv A o s H E).nox (defBody st) t ∧ t { nx := fun _ H' => Q .non H', rt := Q } (L2.start N vs) H) : FnG P w K mg base (k + 1) f fd ps sp := by
  obtain ⟨oc, od, kV, doc, pm, an, cdv, ct, osl, rfl, lk, hcd⟩ := F.ex
  constructor
  · exact size
  intro A o s H args us vs Q E g room e0 bd rel want
  have hlen := size _ _ _ _ want
  have kin := e0.mod.kin.keeps fun b ob z => (e0.bs b ob z).1
  have nolim := e0.mod.nolimit.keeps fun b ob z => (e0.bs b ob z).1
  have kinds : ∀ y ∈ ps.zip us, (defScope st).names.lookup y.1 = some .local ∨ ((defScope st).names.lookup y.1 = some .cell ∧ ((cellsFrom (s.heap.objs.size + 1) (defScope st).names []).lookup y.1).isSome = true) := by
    intro y hy
    obtain ⟨n, v⟩ := y
    cases S.par n (List.of_mem_zip hy).1 with
    | inl z => exact Or.inl z
    | inr z => exact Or.inr ⟨z, PySem.W.cellsFrom_some _ _ _ (Or.inl z)⟩
  apply codeAny_call_function room.depth (kin _ _ lk) rfl S.co S.gen rfl (PySem.W.codeRec_of kin hcd)
  apply bd
  apply wpAny_newFunctionEnv_cells S.kind kinds
  intro env henv s1 x
  subst henv
  constructor
  · exact nolim.keeps x.toInCall.keep
  apply codeAny_func
  obtain ⟨t, der, rd⟩ := body cdv A o s H vs Q E (guards_deeper g) (room.deeper _) want
  have J : Inv (cxOf CX0 P w K mg base N qual (defScope st) f cdv A o s H E) [] (L2.start N vs) H s1 := inv_start S room.hd e0 hlen rel x
  apply wpAny_mono (der.nox.run [] s1 (L2.start N vs) H _ J rd)
  · intro fl s' hs
    cases fl with
    | ret u =>
      obtain ⟨v, σ', H', J', rv, q⟩ := hs
      exact ⟨v, H', J'.os, J'.bare, J'.base, J'.hok, rv, q⟩
    | next =>
      obtain ⟨σ', H', J', q⟩ := hs
      exact ⟨V.non, H', J'.os, J'.bare, J'.base, J'.hok, rfl, q⟩
    | brk => exact hs.choose_spec.choose_spec.2.elim
    | cont => exact hs.choose_spec.choose_spec.2.elim
  · intro e s' hs
    exact hs
end
section
variable {X : Cx} {k : Nat} {f : Addr} {fd : FuncData} {ps : List Str} {sp : Sp} {dvs : List V} {ds : List Value} {E : XK} {x : Str} {p pos : Pos} {e : Expr} {es : List Expr} {t : TA}
/-- the callee runs, no repr under way -/
theorem runG {pins : List (Addr × Obj)} {σ : L2.St} {H : Hp} {s : Shared} {Q : VK} {us : List Value} {vs : List V} (F : FnG X.prog X.w X.K X.mg X.base k f fd ps sp) (g : X.A.guards = some []) (hr : Room k X.A) (hb : Binds X.K fd ps ds) (hd : Vals dvs ds)
    (I : Inv X pins σ H s) (r : Vals vs us) (h : sp (vs ++ dvs) H Q E) : wpAny (model X.prog X.w) X.A (call (.ref f) us) (EP X pins σ Q) X.xe s := by
  have rr := r.append hd
  have hl : (us ++ ds).length = ps.length := rr.length.symm.trans (F.size _ _ _ _ h)
  apply wpAny_call
  apply codeAny_mono (F.goes X.A X.stack s H ⟨us, []⟩ (us ++ ds) (vs ++ dvs) Q E g hr I.env0 (hb s us I.kIn hl) rr h)
  intro r' s' hq
  match r', hq with
  | .error _, hq => exact hq.elim
  | .ok (.ret _), hq => exact I.after hq
  | .ok .next, hq => exact hq.elim
  | .ok .brk, hq => exact hq.elim
  | .ok .cont, hq => exact hq.elim
/-- f(a, ..), no repr under way -/
theorem pe_callG (F : FnG X.prog X.w X.K X.mg X.base k f fd ps sp) (g : X.A.guards = some []) (hr : Room k X.A) (hg : Gl X x) (hm : X.mg x = some (.ref f)) (hk : PySem.W.keepIn X.K (.ref f) = true) (hb : Binds X.K fd ps ds) (hd : Vals dvs ds) (ha : PA X (e :: es) t)
    (hdb : (x == ("__debug__" : Str)) = false := by decide) (he : starEach (e :: es) X.env = (false, eval e X.env) :: starEach es X.env := by rfl) (hpl : (backTo pos (starEach es X.env)).any (·.1) = false := by rfl) : PE X (.Call (.Name x p) (e :: es) [] pos) (tCall sp dvs E t) := by
  constructor
  intro pins s σ H Q I h
  apply wpAny_Call_Name_kw
  apply ld_glob I hg hm _ hdb
  apply PySem.W.callWith_K (h₀ := X.base) I.ok.mod.kin hk _ he hpl
  apply thn (ha.run pos pins s σ H _ I h)
  intro us s1 hq
  obtain ⟨vs, H1, I1, r, q⟩ := hq
  exact ⟨I1.kIn, runG F g hr hb hd I1 r q⟩
end

/-! ### repr of data -/
section
variable {X : Cx}
/-- repr(x), no repr under way: data without dicts -/
def qRepr (K : PySem.W.Frag) : List V → Hp → VK → Prop := fun xs H Q => ∃ x d, xs = [x] ∧ Dp K H x d ∧ d.showable = true ∧ d.hasDict = false ∧ d.shown.length ≤ sizeLine ∧ d.depth ≤ 60 ∧ Q (.str d.shown) H
theorem call_repr (g : X.A.guards = some []) (hu : X.A.units + 64 < cLine) : CallR X (.builtin "repr") (qRepr X.K) := by
  intro pins s σ H xs us Q I r h
  obtain ⟨x, d, rfl, hd, h1, h2, h3, h4, q⟩ := h
  obtain ⟨u, rfl, rx⟩ := vals1 r
  obtain ⟨as, rd⟩ := Dp.reads I d x u hd rx
  have fin : ∀ (h' : Heap) (t : Tok) (tk : Nat), (∀ b o, s.heap.get? b = some o → h'.get? b = some o) → EP X pins σ Q (.str d.shown t) { s with heap := h', toks := tk } := by
    intro h' t tk hk
    exact ⟨.str d.shown, H, I.kept (t' := tk) hk, ⟨t, rfl⟩, q⟩
  cases hd with
  | non =>
    cases rx
    exact PySem.P.repr_of_none (fin _ _ _ fun _ _ z => z)
  | bl b =>
    cases rx
    exact PySem.P.repr_of_bool (fin _ _ _ fun _ _ z => z)
  | int i =>
    obtain ⟨t, rfl⟩ := rx
    exact PySem.P.repr_of_int (by simpa [PyData.showable] using h1) (fin _ _ _ fun _ _ z => z)
  | str z =>
    obtain ⟨t, rfl⟩ := rx
    exact PySem.P.repr_of_str (fin _ _ _ fun _ _ z => z) (by simpa only [PyData.shown] using h3)
  | lst a b =>
    cases rx
    exact repr_of_reads' rd h1 (PyData.noDict_hsm h2) g (by omega) (fun _ _ z => z) (fun h' t tk hk => fin h' t tk hk) h3
  | tup a b =>
    cases rx
    exact repr_of_reads' rd h1 (PyData.noDict_hsm h2) g (by omega) (fun _ _ z => z) (fun h' t tk hk => fin h' t tk hk) h3
end
end My
end
section
set_option Elab.async false
set_option linter.all false
set_option maxRecDepth 100000
set_option maxHeartbeats 2000000
namespace My
open PySem PySem.Spec PyProof.Rows L2
/-! ### the pen -/
abbrev penK (c : Addr) (u l : Int) : List (Key × V) := [(.inr "cells", .ref c), (.inr "used", .int u), (.inr "left", .int l)]
/-- the pen at p, its cells at c, drawn from at most n times -/
def PenAt (H : Hp) (p c : Addr) (n : Nat) : Prop := ∃ (cs : List Int) (u l : Int), H p = some (.dK (penK c u l)) ∧ H c = some (.lst (cs.map V.int)) ∧ 0 ≤ u ∧ u ≤ n ∧ cs.length ≤ 63
theorem penK_cells (c : Addr) (u l : Int) : valV (penK c u l) (Sum.inr "cells" : Key) = some (.ref c) := rfl
theorem penK_used (c : Addr) (u l : Int) : valV (penK c u l) (Sum.inr "used" : Key) = some (.int u) := rfl
theorem penK_left (c : Addr) (u l : Int) : valV (penK c u l) (Sum.inr "left" : Key) = some (.int l) := rfl
theorem penK_put_used (c : Addr) (u l z : Int) : putK (penK c u l) (Sum.inr "used" : Key) (.int z) = penK c z l := rfl
theorem penK_put_left (c : Addr) (u l z : Int) : putK (penK c u l) (Sum.inr "left" : Key) (.int z) = penK c u z := rfl
theorem dget_cells {H : Hp} {p c : Addr} {u l : Int} (h : H p = some (.dK (penK c u l))) : DGet H p (.str "cells") (some (.ref c)) := DGet.k (k := Sum.inr "cells") h
theorem dget_used {H : Hp} {p c : Addr} {u l : Int} (h : H p = some (.dK (penK c u l))) : DGet H p (.str "used") (some (.int u)) := DGet.k (k := Sum.inr "used") h
theorem dget_left {H : Hp} {p c : Addr} {u l : Int} (h : H p = some (.dK (penK c u l))) : DGet H p (.str "left") (some (.int l)) := DGet.k (k := Sum.inr "left") h
theorem dput_used {H : Hp} {p c : Addr} {u l z : Int} (h : H p = some (.dK (penK c u l))) : DPut H p (.str "used") (.int z) (upd H p (.dK (penK c z l))) := DPut.k (k := Sum.inr "used") h (by show 3 < sizeLine; decide)
theorem dput_left {H : Hp} {p c : Addr} {u l z : Int} (h : H p = some (.dK (penK c u l))) : DPut H p (.str "left") (.int z) (upd H p (.dK (penK c u z))) := DPut.k (k := Sum.inr "left") h (by show 3 < sizeLine; decide)
theorem PenAt.mono {H : Hp} {p c : Addr} {n m : Nat} (h : PenAt H p c n) (l : n ≤ m) : PenAt H p c m := by
  obtain ⟨cs, u, z, h1, h2, h3, h4, h5⟩ := h
  exact ⟨cs, u, z, h1, h2, h3, by omega, h5⟩
theorem PenAt.ne {H : Hp} {p c q : Addr} {n : Nat} (h : PenAt H p c n) (f : H q = none) : p ≠ q := by
  obtain ⟨cs, u, z, h1, _⟩ := h
  exact ne_of_none h1 f
theorem PenAt.neC {H : Hp} {p c q : Addr} {n : Nat} (h : PenAt H p c n) (f : H q = none) : c ≠ q := by
  obtain ⟨cs, u, z, _, h2, _⟩ := h
  exact ne_of_none h2 f
theorem PenAt.neL {H : Hp} {p c q : Addr} {n : Nat} {xs : List V} (h : PenAt H p c n) (f : H q = some (.lst xs)) : q ≠ p := by
  obtain ⟨cs, u, z, h1, _⟩ := h
  exact ne_of f h1 (by intro z; cases z)
theorem PenAt.neT {H : Hp} {p c q : Addr} {n : Nat} {xs : List V} (h : PenAt H p c n) (f : H q = some (.tup xs)) : q ≠ p := by
  obtain ⟨cs, u, z, h1, _⟩ := h
  exact ne_of f h1 (by intro z; cases z)
theorem PenAt.same {H H1 : Hp} {p c : Addr} {n : Nat} (s : Same H H1) (h : PenAt H p c n) : PenAt H1 p c n := by
  obtain ⟨cs, u, z, h1, h2, h3, h4, h5⟩ := h
  exact ⟨cs, u, z, s _ _ h1, s _ _ h2, h3, h4, h5⟩
theorem PenAt.els {H H1 : Hp} {p c q : Addr} {o : HO} {n : Nat} (w : Wr H q o H1) (hp : p ≠ q) (hc : c ≠ q) (h : PenAt H p c n) : PenAt H1 p c n := by
  obtain ⟨cs, u, z, h1, h2, h3, h4, h5⟩ := h
  exact ⟨cs, u, z, (w.els p hp).trans h1, (w.els c hc).trans h2, h3, h4, h5⟩
/-- what a def that draws leaves: the pen, drawn from at most m times; all else as it was -/
structure DrewP (H : Hp) (p c : Addr) (m : Nat) (H1 : Hp) : Prop where
  but : But p H H1
  pen : PenAt H1 p c m
theorem DrewP.trans {H H1 H2 : Hp} {p c : Addr} {m k : Nat} (a : DrewP H p c m H1) (b : DrewP H1 p c k H2) : DrewP H p c k H2 := ⟨a.but.trans b.but, b.pen⟩
theorem DrewP.new {H H1 H2 : Hp} {p c q : Addr} {o : HO} {m : Nat} (a : DrewP H p c m H1) (b : New H1 q o H2) : DrewP H p c m H2 := ⟨a.but.trans (.of b.same), a.pen.same b.same⟩
theorem DrewP.mono {H H1 : Hp} {p c : Addr} {m k : Nat} (a : DrewP H p c m H1) (h : m ≤ k) : DrewP H p c k H1 := ⟨a.but, a.pen.mono h⟩

theorem cutV_to (xs : List V) (n : Nat) : cutV xs none (some (n : Int)) = xs.take n := by
  unfold cutV
  rw [HT.sIx_none, HT.sIx_nat, List.drop_zero, Nat.sub_zero, ← List.take_eq_take_min]
theorem fmod_bounds (i : Int) {m : Int} (h : 0 < m) : 0 ≤ i.fmod m ∧ i.fmod m < m := ⟨Int.fmod_nonneg_of_pos i h, Int.fmod_lt_of_pos i h⟩
theorem cmul200 {i j : Int} (hi : -(2 ^ 200) < i ∧ i < 2 ^ 200) (hj : -(2 ^ 200) < j ∧ j < 2 ^ 200) : CMulW i j := wide_mul (a := 200) (b := 200) (by omega) (by omega) (by decide) (by decide) (by decide)
/-! ### promises of the helpers that draw -/
def sp_pen (K : PySem.W.Frag) : Sp := fun vs H Q _ => ∃ (a : Addr) (ns : List Int), vs = [.ref a] ∧ SqL K H a (ns.map V.int) ∧ ns.length ≤ 63 ∧ ∀ H' p c, Same H H' → H p = none → PenAt H' p c 0 → Q (.ref p) H'
/-- a number from 0 to m - 1, m at most sixty millions -/
def sp_draw : Sp := fun vs H Q _ => ∃ (p c : Addr) (m : Int) (n : Nat), vs = [.ref p, .int m] ∧ PenAt H p c n ∧ n < 2 ^ 60 ∧ 0 < m ∧ m ≤ 60000000 ∧ ∀ H' r, DrewP H p c (n + 1) H' → 0 ≤ r → r < m → Q (.int r) H'
end My
end
section
set_option Elab.async false
set_option linter.all false
set_option maxRecDepth 100000
set_option maxHeartbeats 2000000
namespace My
open PySem PySem.Spec PyProof.Rows L2
/-- the signs of a text, one text each -/
def signs (z : Str) : List V := z.cps.toList.map fun c => V.str ⟨#[c]⟩
theorem signs_len (z : Str) : (signs z).length = z.length := by
  unfold signs
  rw [List.length_map, Array.length_toList]
  rfl
/-- what is iterated over: a list, a tuple, a text -/
inductive SqA (K : PySem.W.Frag) (H : Hp) : V → List V → Prop
  | lst {a : Addr} {xs : List V} : SqL K H a xs → SqA K H (.ref a) xs
  | tup {a : Addr} {xs : List V} : SqT K H a xs → SqA K H (.ref a) xs
  | str {z : Str} : z.length ≤ sizeLine → SqA K H (.str z) (signs z)
theorem vals_signs {z : Str} {acc : Array Value} (h : ItemsOf (SignAt z) acc z.cps.size) : Vals (signs z) acc.toList := by
  obtain ⟨hs, hi⟩ := h
  have aux : ∀ (l : List Nat) (us : List Value), us.length = l.length → (∀ (j : Nat) (u : Value), us[j]? = some u → ∃ c t, l[j]? = some c ∧ u = Value.str ⟨#[c]⟩ t) → Vals (l.map fun c => V.str ⟨#[c]⟩) us := by
    intro l
    induction l with
    | nil =>
      intro us hl _
      cases us with
      | nil => exact .nil
      | cons _ _ => simp at hl
    | cons c l ih =>
      intro us hl hg
      cases us with
      | nil => simp at hl
      | cons u us =>
        obtain ⟨c', t, e1, e2⟩ := hg 0 u rfl
        have e3 : c = c' := by simpa using e1
        subst e3
        exact .cons ⟨t, e2⟩ (ih us (by simpa using hl) fun j v hj => hg (j + 1) v (by simpa using hj))
  refine aux z.cps.toList acc.toList (by simpa using hs) fun j u hj => ?_
  obtain ⟨c, t, e1, e2⟩ := hi j u (by simpa using hj)
  exact ⟨c, t, by simpa using e1, e2⟩
section
variable {X : Cx}
theorem CallR.or {f : Value} {r r' : List V → Hp → VK → Prop} (h : CallR X f r) (h' : CallR X f r') : CallR X f (fun xs H Q => r xs H Q ∨ r' xs H Q) := fun pins s σ H xs us Q I rx q =>
  q.elim (h pins s σ H xs us Q I rx) (h' pins s σ H xs us Q I rx)
/-- list(z), z a text -/
theorem call_listStr (hh : X.A.handled = none) : CallR X (.type "list") (fun xs H Q => ∃ z, xs = [.str z] ∧ z.length ≤ sizeLine ∧ ∀ l H', New H l (.lst (signs z)) H' → Q (.ref l) H') := by
  intro pins s σ H xs us Q I r h
  obtain ⟨z, rfl, hz, q⟩ := h
  obtain ⟨u, rfl, t, rfl⟩ := vals1 r
  refine call_list_str hh z t (fun h' tk acc' c' hk hS hacc => ?_) hz
  have hn := I.hok.fresh (Nat.le_refl s.heap.objs.size)
  exact ⟨.ref s.heap.objs.size, _, I.laid (t' := tk) hk (Nat.le_refl _) (show ObjOk X.prog X.w _ h' _ (.lst (signs z)) from ⟨by rw [signs_len]; exact hz, acc'.toList, c', vals_signs hacc, by simpa using hS⟩), rfl, q _ _ (.mk' hn)⟩
/-- list(x), x a list, a tuple or a text -/
def qListAny (K : PySem.W.Frag) : List V → Hp → VK → Prop := fun xs H Q => ∃ x ys, xs = [x] ∧ SqA K H x ys ∧ ∀ l H', New H l (.lst ys) H' → Q (.ref l) H'
theorem call_listAny (hh : X.A.handled = none) : CallR X (.type "list") (qListAny X.K) := CallR.weak (CallR.or call_listOf (call_listStr hh)) fun xs H Q q => by
  obtain ⟨x, ys, rfl, h, k⟩ := q
  cases h with
  | lst h => exact .inl ⟨_, ys, rfl, .inl h, k⟩
  | tup h => exact .inl ⟨_, ys, rfl, .inr h, k⟩
  | str h => exact .inr ⟨_, rfl, h, k⟩
end
theorem SqA.same {K : PySem.W.Frag} {H H1 : Hp} {x : V} {xs : List V} (s : Same H H1) (h : SqA K H x xs) : SqA K H1 x xs := by
  cases h with
  | lst h => exact .lst (s.seq h)
  | tup h => exact .tup (by
      rcases h with (h | ⟨o, h⟩) | h
      · exact .inl (.inl (s _ _ h))
      · exact .inl (.inr ⟨o, s _ _ h⟩)
      · exact .inr h)
  | str h => exact .str h
theorem perm_eraseIdx {α : Type} {l : List α} {j : Nat} (h : j < l.length) : (l[j] :: l.eraseIdx j).Perm l := by
  have e : l = l.take j ++ l[j] :: l.drop (j + 1) := by
    rw [List.getElem_cons_drop, List.take_append_drop]
  rw [List.eraseIdx_eq_take_drop_succ]
  exact List.perm_middle.symm.trans (.of_eq e.symm)
/-! ### promises -/
/-- one of the items of a list -/
def sp_pick (K : PySem.W.Frag) : Sp := fun vs H Q _ => ∃ (p c a : Addr) (xs : List V) (n : Nat), vs = [.ref p, .ref a] ∧ PenAt H p c n ∧ n < 2 ^ 60 ∧ SqL K H a xs ∧ a ≠ p ∧ 0 < xs.length ∧ xs.length ≤ 1000000 ∧
  ∀ H' v, DrewP H p c (n + 1) H' → v ∈ xs → Q v H'
/-- the items in some order -/
def sp_shuf (K : PySem.W.Frag) : Sp := fun vs H Q _ => ∃ (p c : Addr) (x : V) (xs : List V) (n : Nat), vs = [.ref p, x] ∧ PenAt H p c n ∧ n + xs.length < 2 ^ 60 ∧ SqA K H x xs ∧ xs.length ≤ 1000000 ∧
  ∀ H' r ys, DrewP H p c (n + xs.length) H' → H r = none → H' r = some (.lst ys) → ys.Perm xs → Q (.ref r) H'
end My
end
section
set_option Elab.async false
set_option linter.all false
set_option maxRecDepth 100000
set_option maxHeartbeats 3200000
namespace My
open PySem PySem.Spec PyProof.Rows L2
/-! ### set(z), z a text -/
/-- each number once, at its first place -/
def once (l : List Nat) : List Nat := l.foldl (fun acc c => if c ∈ acc then acc else acc ++ [c]) []
theorem once_snoc (l : List Nat) (c : Nat) : once (l ++ [c]) = if c ∈ once l then once l else once l ++ [c] := by
  unfold once
  rw [List.foldl_append]
  rfl
theorem mem_once (l : List Nat) (c : Nat) : c ∈ once l ↔ c ∈ l := by
  have aux : ∀ (l acc : List Nat), c ∈ l.foldl (fun acc c => if c ∈ acc then acc else acc ++ [c]) acc ↔ c ∈ acc ∨ c ∈ l := by
    intro l
    induction l with
    | nil => intro acc; simp
    | cons d l ih =>
      intro acc
      rw [List.foldl_cons, ih]
      by_cases h : d ∈ acc
      · rw [if_pos h]
        constructor
        · rintro (a | b)
          · exact .inl a
          · exact .inr (List.mem_cons_of_mem _ b)
        · rintro (a | b)
          · exact .inl a
          · rcases List.mem_cons.mp b with e | b
            · exact .inl (e ▸ h)
            · exact .inr b
      · rw [if_neg h]
        simp only [List.mem_append, List.mem_cons, List.not_mem_nil, or_false, or_assoc]
  unfold once
  rw [aux]
  simp
theorem once_le (l : List Nat) : (once l).length ≤ l.length := by
  have aux : ∀ (l acc : List Nat), (l.foldl (fun acc c => if c ∈ acc then acc else acc ++ [c]) acc).length ≤ acc.length + l.length := by
    intro l
    induction l with
    | nil => intro acc; simp
    | cons d l ih =>
      intro acc
      rw [List.foldl_cons]
      refine Nat.le_trans (ih _) ?_
      split
      · simp only [List.length_cons]; omega
      · simp only [List.length_append, List.length_cons, List.length_nil]; omega
  have := aux l []
  simpa [once] using this
theorem once_eq (l : List Nat) : (once l).length = l.length ↔ l.Nodup := by
  have aux : ∀ (l acc : List Nat), (l.foldl (fun acc c => if c ∈ acc then acc else acc ++ [c]) acc).length ≤ acc.length + l.length ∧
      ((l.foldl (fun acc c => if c ∈ acc then acc else acc ++ [c]) acc).length = acc.length + l.length ↔ l.Nodup ∧ ∀ c ∈ l, c ∉ acc) := by
    intro l
    induction l with
    | nil => intro acc; simp
    | cons d l ih =>
      intro acc
      rw [List.foldl_cons]
      by_cases h : d ∈ acc
      · rw [if_pos h]
        obtain ⟨h1, h2⟩ := ih acc
        refine ⟨by simp only [List.length_cons]; omega, ⟨fun e => ?_, fun e => absurd h (e.2 d List.mem_cons_self)⟩⟩
        simp only [List.length_cons] at e
        omega
      · rw [if_neg h]
        obtain ⟨h1, h2⟩ := ih (acc ++ [d])
        simp only [List.length_append, List.length_cons, List.length_nil] at h1 h2 ⊢
        refine ⟨by omega, ?_⟩
        rw [show acc.length + (l.length + 1) = acc.length + (0 + 1) + l.length by omega, h2, List.nodup_cons]
        constructor
        · rintro ⟨a, b⟩
          refine ⟨⟨fun m => ?_, a⟩, fun c hc => ?_⟩
          · exact b d m (List.mem_append_right _ List.mem_cons_self)
          · rcases List.mem_cons.mp hc with e | hc
            · exact e ▸ h
            · exact fun m => b c hc (List.mem_append_left _ m)
        · rintro ⟨⟨a, b⟩, c⟩
          refine ⟨b, fun x hx m => ?_⟩
          rcases List.mem_append.mp m with m | m
          · exact c x (List.mem_cons_of_mem _ hx) m
          · have e : x = d := by simpa using m
            exact a (e ▸ hx)
  have := (aux l []).2
  simpa [once] using this
/-- the texts of one sign in a list of signs -/
def signIn (l : List Nat) : Str → Bool := fun k => l.any fun c => decide (k = ⟨#[c]⟩)
theorem signIn_iff (l : List Nat) (c : Nat) : signIn l ⟨#[c]⟩ = true ↔ c ∈ l := by
  unfold signIn
  rw [List.any_eq_true]
  constructor
  · rintro ⟨d, hd, e⟩
    have e' := of_decide_eq_true e
    have : c = d := by
      injection e' with e2
      simpa using e2
    exact this ▸ hd
  · intro h
    exact ⟨c, h, by simp⟩
section
variable {prog : Program} {w : World} {A : Around} {R : Result → Shared → Prop} {I : Addr} {fp wr : List Addr} {G : Array GenState → Array GenState → Prop} {St : Nat → Shared → Prop}
theorem set_loop {z : Str} (W : WalksS prog w A.in1 I fp wr G z.cps.size (SignAt z) St) (S : Addr) (notIn : S ∉ fp) (few : z.cps.size + 1 < scanBound) :
    ∀ (left i : Nat) (s : Shared), z.cps.size - i = left → i ≤ z.cps.size → St i s → s.heap.SetOf (PySem.strKind prog w) S (signIn (z.cps.toList.take i)) (once (z.cps.toList.take i)).length →
      (∀ s', Moved (S :: wr) G s s' → s'.heap.SetOf (PySem.strKind prog w) S (signIn z.cps.toList) (once z.cps.toList).length → R (.ok (.ret .none)) s') →
      codeAny (model prog w) A (.builtin "set.update.loop" ⟨[.ref S, .ref I], []⟩) R s := by
  have notW : S ∉ wr := fun m => notIn (W.sub _ m)
  have more : ∀ b ∈ wr, b ∈ S :: wr := fun b m => List.mem_cons_of_mem _ m
  have all : z.cps.toList.take z.cps.size = z.cps.toList := List.take_of_length_le (by simp)
  have stays : ∀ {s s' : Shared} {T : Str → Bool} {m : Nat}, Moved wr G s s' → s.heap.SetOf (PySem.strKind prog w) S T m → s'.heap.SetOf (PySem.strKind prog w) S T m := by
    rintro s s' T m mv ⟨o, es, ep, tb, ho, r⟩
    exact ⟨o, es, ep, tb, mv.heap S _ notW ho, r⟩
  intro left
  induction left with
  | zero =>
    intro i s hl hi st set_ fin
    obtain rfl : i = z.cps.size := by omega
    apply codeAny_builtin PyProof.Rows.F.entry_set_update_loop
    rw [Around.under_plainId PyProof.Rows.F.plain_set_update_loop _]
    show wpAny _ A.in1 (pyNext (.ref I) >>= _) _ _ s
    apply wpAny_bind
    apply W.done s _ _ st
    intro s' mv
    apply wpAny_pure
    apply fin s' (mv.mono more)
    have := stays mv set_
    rw [all] at this
    exact this
  | succ left ih =>
    intro i s hl hi st set_ fin
    have lt : i < z.cps.size := by omega
    apply codeAny_builtin PyProof.Rows.F.entry_set_update_loop
    rw [Around.under_plainId PyProof.Rows.F.plain_set_update_loop _]
    show wpAny _ A.in1 (pyNext (.ref I) >>= _) _ _ s
    apply wpAny_bind
    apply W.item i s _ _ lt st
    intro v s' at_ st' mv
    obtain ⟨c, t, hc, rfl⟩ := at_
    have set' := stays mv set_
    have nx : z.cps.toList.take (i + 1) = z.cps.toList.take i ++ [c] := by
      have hc' : z.cps.toList[i]? = some c := by simpa using hc
      rw [List.take_add_one, hc']
      rfl
    show wpAny _ A.in1 (holding [Value.str ⟨#[c]⟩ t] (setAdd S (.str ⟨#[c]⟩ t)) >>= _) _ _ s'
    apply wpAny_bind
    apply wpAny_holding
    unfold setAdd
    apply wpAny_holding
    apply wpAny_bind
    apply (PySem.strKind prog w).pyHash (k := ⟨#[c]⟩) (strKind_is _ _ _ _)
    have room : (once (z.cps.toList.take i)).length + 1 < scanBound := by
      have h1 := once_le (z.cps.toList.take i)
      rw [List.length_take] at h1
      omega
    refine wpAny_setAddHashed_of (knd := PySem.strKind prog w) (s := { s' with toks := s'.toks + 1 }) (strKind_is _ _ _ _) rfl set' room fun h' but set2 => ?_
    have set3 : h'.SetOf (PySem.strKind prog w) S (signIn (z.cps.toList.take (i + 1))) (once (z.cps.toList.take (i + 1))).length := by
      refine SetOf_congr set2 (fun k => ?_) ?_
      · show (signIn (z.cps.toList.take i) k || decide (k = ⟨#[c]⟩)) = signIn (z.cps.toList.take (i + 1)) k
        rw [nx]
        unfold signIn
        rw [List.any_append]
        simp
      · rw [nx, once_snoc]
        by_cases m : c ∈ once (z.cps.toList.take i)
        · rw [if_pos m, if_pos ((signIn_iff _ c).mpr ((mem_once _ c).mp m))]
        · rw [if_neg m, if_neg (fun y => m ((mem_once _ c).mpr ((signIn_iff _ c).mp y))), List.length_append]
          rfl
    refine wpAny_pure ⟨plainId_quiet PyProof.Rows.F.plain_set_update_loop _, ih (i + 1) _ (by omega) lt (W.frame _ s' _ _ st' (Nat.le_succ _) fun b hb o e => ?_) set3 fun s'' mv2 set4 => ?_⟩
    · rw [but.2 b (fun e2 => notIn (e2 ▸ hb))]
      exact e
    · refine fin s'' (Moved.trans W.gtrans ((mv.mono more).then_heap (Nat.le_succ _) fun b o hb e => ?_) mv2) set4
      rw [but.2 b (fun e2 => hb (e2 ▸ List.mem_cons_self))]
      exact e
end
section
variable {prog : Program} {w : World} {A : Around} {E : Value → Shared → Prop} {s : Shared}
abbrev newSet (led : Bool) : Obj := { cls := .type "set", dict := none, data := .set #[] 0 (.fresh 0 0 led) }
/-- the body of set.__init__ over a text -/
theorem set_init_str {A2 : Around} (hh : A2.handled = none) {z : Str} {t : Tok} {led : Bool} {Qf : Fin → Shared → Prop} {Ef : Value → Shared → Prop} (few : z.cps.size + 1 < scanBound)
    (fin : ∀ h' tk, h'.SetOf (PySem.strKind prog w) s.heap.objs.size (signIn z.cps.toList) (once z.cps.toList).length → (∀ b o, s.heap.get? b = some o → h'.get? b = some o) → Qf (.done (.ret .none)) { s with heap := h', toks := tk }) :
    wpAny (model prog w) A2 (Builtin.«set.__init__» ⟨[.ref s.heap.objs.size, .str z t], []⟩) Qf Ef { s with heap := s.heap.push (newSet led) } := by
  have at_ : (s.heap.push (newSet led)).get? s.heap.objs.size = some (newSet led) := Heap.get?_push_size _ rfl
  have ty : Shared.TypeIs { s with heap := s.heap.push (newSet led) } (.ref s.heap.objs.size) "set" := ⟨_, at_, rfl⟩
  have no1 := PySem.F.sub_str_set
  have no2 := PySem.F.sub_str_frozenset
  have no3 : (Value.type "str" == Value.type "dict") = false := by decide
  unfold Builtin.«set.__init__» noKeywords Builtin.Frozenset.updateFrom
  generalize walkOf : pyIter = PI
  wp_walk
  subst walkOf
  refine wpAny_pyIter_str fun o St W st => ?_
  refine wpAny_bind (wpAny_runValue ?_)
  have sz : (s.heap.push (newSet led)).objs.size = s.heap.objs.size + 1 := Heap.size_push _ _
  have apart : s.heap.objs.size ∉ [(s.heap.push (newSet led)).objs.size] := by
    rw [sz]
    simp
  have hh2 : A2.in1.handled = none := hh
  refine set_loop ((W A2.in1 hh2).toS) s.heap.objs.size apart few (z.cps.size - 0) 0 _ rfl (Nat.zero_le _) st ?_ ?_
  · have at2 : ((s.heap.push (newSet led)).push o).get? s.heap.objs.size = some (newSet led) := Heap.get?_push_of_some _ at_
    exact SetOf_congr ((PyProof.Rows.setObjOf_fresh (knd := PySem.strKind prog w) led).setOf at2 (by unfold scanBound; omega)) (fun _ => rfl) rfl
  · intro s' mv set_
    obtain ⟨h', g', d', tk', os'⟩ := s'
    obtain rfl : g' = s.gens := mv.gens
    obtain rfl : d' = s.drawn := mv.drawn
    obtain rfl : os' = s.os := mv.os
    show wpAny _ _ _ _ _ _
    refine wpAny_pure ?_
    show wpAny _ _ (ret Value.none) _ _ _
    refine wpAny_pure (fin h' tk' set_ fun b ob e => ?_)
    have lt := Heap.lt_size e
    refine mv.heap b ob (fun m => ?_) (Heap.get?_push_of_some _ (Heap.get?_push_of_some _ e))
    rw [sz] at m
    rcases List.mem_cons.mp m with e2 | m
    · exact Nat.ne_of_lt lt e2
    · exact Nat.ne_of_lt (Nat.lt_succ_of_lt lt) (List.mem_singleton.mp m)
set_option maxHeartbeats 6400000 in
theorem call_set_text (hh : A.handled = none) {z : Str} {t : Tok} {Q : Value → Shared → Prop} (few : z.cps.size + 1 < scanBound)
    (fin : ∀ h' tk, h'.SetOf (PySem.strKind prog w) s.heap.objs.size (signIn z.cps.toList) (once z.cps.toList).length → (∀ b o, s.heap.get? b = some o → h'.get? b = some o) → Q (.ref s.heap.objs.size) { s with heap := h', toks := tk }) :
    wpAny (model prog w) A (call (.type "set") [.str z t]) Q E s := by
  obtain ⟨c, tl, mro_⟩ := PySem.F.called_set.mro
  have made_ := PySem.F.called_set.made
  have sub_ := PySem.F.called_set.sub
  apply wpAny_call
  apply codeAny_of_tree
  show wpAny _ _ (callAny (.type "set") _) _ _ _
  refine wpAny_pure ⟨Code.quiet_builtin _ (by decide +kernel), codeAny_builtin PySem.F.entry_type_call ?_⟩
  rw [Around.under_plain (weight_type_call_type "set" [.str z t] []) rfl]
  have nt_ := PySem.F.called_set.notType
  have can_ := PySem.F.called_set.canCreate
  have chk_ := PySem.F.typeCall_set_1 (.str z t)
  repeat (any_goals (first | assumption | wp_step))
  apply codeAny_mono (code_set_new_1 (.str z t) (E := E) (Q₁ := fun ob s1 => ∃ led : Bool, ob = .ref s.heap.objs.size ∧ s1 = { s with heap := s.heap.push (newSet led) }) fun led => ⟨led, rfl, rfl⟩)
  intro r s1 hr
  match r, hr with
  | .error _, hr => exact hr
  | .ok .next, hr => exact hr.elim
  | .ok .brk, hr => exact hr.elim
  | .ok .cont, hr => exact hr.elim
  | .ok (.ret ob), hr =>
    obtain ⟨led, rfl, rfl⟩ := hr
    have at_ : (s.heap.push (newSet led)).get? s.heap.objs.size = some (newSet led) := Heap.get?_push_size _ rfl
    have ty : Shared.TypeIs { s with heap := s.heap.push (newSet led) } (.ref s.heap.objs.size) "set" := ⟨_, at_, rfl⟩
    have look_ := PySem.F.called_set.init.lookup
    have bind_ := PySem.F.called_set.init.bind (.ref s.heap.objs.size)
    repeat (any_goals (first | assumption | wp_step))
    refine codeAny_mono (codeAny_call_builtin (R := wants (fun r s2 => r = .none ∧ ∃ h' tk, s2 = { s with heap := h', toks := tk } ∧ h'.SetOf (PySem.strKind prog w) s.heap.objs.size (signIn z.cps.toList) (once z.cps.toList).length ∧
        ∀ b o, s.heap.get? b = some o → h'.get? b = some o) E) PySem.F.called_set.init.plain PySem.F.entry_set_init (check_set_init_1 ty (set_init_str (A2 := A.in1.in1) hh few fun h' tk h1 h2 => ⟨rfl, h', tk, rfl, h1, h2⟩))) ?_
    intro r2 s2 hr2
    match r2, hr2 with
    | .error _, hr2 => exact hr2
    | .ok .next, hr2 => exact hr2.elim
    | .ok .brk, hr2 => exact hr2.elim
    | .ok .cont, hr2 => exact hr2.elim
    | .ok (.ret _), hr2 =>
      obtain ⟨rfl, h', tk, rfl, h1, h2⟩ := hr2
      repeat (any_goals (first | assumption | wp_step))
      exact fin h' tk h1 h2
end
section
variable {X : Cx}
/-- len(set(z)), z a text -/
def qLenSet (ta : TE) : TE := fun σ H Q => ta σ H fun x H1 => ∃ z : Str, x = .str z ∧ z.length ≤ 4000 ∧ Q (.int ((once z.cps.toList).length : Nat)) H1
theorem pe_lenSet {a : Expr} {ta : TE} {p p2 q pos : Pos} (hg : Gl X "len") (hm : X.mg "len" = none) (hg2 : Gl X "set") (hm2 : X.mg "set" = none) (ha : PE X a ta) (hc : X.calm = true := by rfl)
    (na : starEach [a] X.env = (false, eval a X.env) :: starEach [] X.env := by rfl) : PE X (.Call (.Name "len" p) [.Call (.Name "set" p2) [a] [] q] [] pos) (qLenSet ta) := by
  constructor
  intro pins s σ H Q I h
  apply Call_ (ld_blt I hg hm boot_len _)
  apply PyProof.Rows.callWith_builtin1 (PyProof.Rows.args_cons _ rfl) rfl rfl
  apply Call_ (ld_blt I hg2 hm2 boot_set _)
  refine PyProof.Rows.callWith_type1 (PyProof.Rows.args_cons (thn (ha.run pins s σ H _ I h) fun v s1 ⟨x, H1, I1, r1, q1⟩ => PyProof.Rows.args_nil ?_) na) na rfl
  obtain ⟨z, rfl, hz, q1⟩ := q1
  obtain ⟨t, rfl⟩ := r1
  have few : z.cps.size + 1 < scanBound := by
    have : z.cps.size ≤ 4000 := hz
    unfold scanBound
    omega
  refine call_set_text (I1.ok.hd hc) few fun h' tk set_ kept => ?_
  apply PyProof.Rows.args_nil
  obtain ⟨o, es, ep, tb, ho, ex, hd, _, _, _, fits, hn⟩ := set_
  have I2 : Inv X pins σ H1 { s1 with heap := h', toks := tk } := I1.kept kept
  have le : es.size ≤ 4000 := by
    rw [hn]
    refine Nat.le_trans (once_le _) ?_
    rw [Array.length_toList]
    exact hz
  rw [← hn] at q1
  exact call_len_set ho ex hd fits (by omega) ⟨.int (es.size : Nat), H1, I2.tok _, ⟨_, rfl⟩, q1⟩
end
end My
end
section
set_option Elab.async false
set_option linter.all false
set_option maxRecDepth 100000
set_option maxHeartbeats 2000000
namespace My
open PySem PySem.Spec PyProof.Rows L2
/-! ### data of any kind, apart from the object at p; st: no list of it stands at sys.modules' place -/
/-- an empty tuple of the written part -/
structure KEmp (K : PySem.W.Frag) (a : Addr) : Prop where
  ex : ∃ (o : Obj) (n : Nat), K.lookup a = some o ∧ o.cls = .type "tuple" ∧ o.data = .seq #[] n
theorem KEmp.sq {K : PySem.W.Frag} {H : Hp} {a : Addr} (h : KEmp K a) : SqT K H a [] := by
  obtain ⟨o, n, h1, h2, h3⟩ := h.ex
  exact .inr ⟨o, #[], n, h1, h2, h3, Nat.zero_le _, .nil⟩
mutual
inductive Rp (K : PySem.W.Frag) (p : Addr) (H : Hp) : Bool → V → PyData → Prop
  | non (st : Bool) : Rp K p H st .non .none
  | bl (st b : Bool) : Rp K p H st (.bl b) (.bool b)
  | int (st : Bool) (i : Int) : Rp K p H st (.int i) (.int i)
  | str (st : Bool) (z : Str) : Rp K p H st (.str z) (.str z)
  | lst {st : Bool} {a : Addr} {xs : List V} {ds : List PyData} : H a = some (.lst xs) → a ≠ p → ((st || PyData.hasDictAll ds) = true → a ≠ sysModules) → RpAll K p H (st || PyData.hasDictAll ds) xs ds → Rp K p H st (.ref a) (.list ds)
  | tup {st : Bool} {a : Addr} {xs : List V} {ds : List PyData} : H a = some (.tup xs) → a ≠ p → RpAll K p H (st || PyData.hasDictAll ds) xs ds → Rp K p H st (.ref a) (.tuple ds)
  | dct {st : Bool} {a : Addr} {kvs : List (Key × V)} {ks vs : List PyData} : H a = some (.dK kvs) → a ≠ p → RpAll K p H true (kvs.map fun e => kV e.1) ks → RpAll K p H true (kvs.map (·.2)) vs → ks.length = vs.length → Rp K p H st (.ref a) (.dict (ks.zip vs))
  | emp {st : Bool} {a : Addr} : KEmp K a → Rp K p H st (.ref a) (.tuple [])
inductive RpAll (K : PySem.W.Frag) (p : Addr) (H : Hp) : Bool → List V → List PyData → Prop
  | nil (st : Bool) : RpAll K p H st [] []
  | cons {st : Bool} {v : V} {vs : List V} {d : PyData} {ds : List PyData} : Rp K p H st v d → RpAll K p H st vs ds → RpAll K p H st (v :: vs) (d :: ds)
end
section
variable {K : PySem.W.Frag} {p : Addr} {H H1 : Hp}
mutual
theorem Rp.but (s : But p H H1) : ∀ {st : Bool} {d : PyData} {v : V}, Rp K p H st v d → Rp K p H1 st v d
  | _, _, _, .non _ => .non _
  | _, _, _, .bl _ b => .bl _ b
  | _, _, _, .int _ i => .int _ i
  | _, _, _, .str _ z => .str _ z
  | _, _, _, .lst h n m r => .lst (s _ _ n h) n m (RpAll.but s r)
  | _, _, _, .tup h n r => .tup (s _ _ n h) n (RpAll.but s r)
  | _, _, _, .dct h n r1 r2 e => .dct (s _ _ n h) n (RpAll.but s r1) (RpAll.but s r2) e
  | _, _, _, .emp h => .emp h
theorem RpAll.but (s : But p H H1) : ∀ {st : Bool} {ds : List PyData} {vs : List V}, RpAll K p H st vs ds → RpAll K p H1 st vs ds
  | _, _, _, .nil _ => .nil _
  | _, _, _, .cons a b => .cons (Rp.but s a) (RpAll.but s b)
end
mutual
theorem Rp.loose : ∀ {d : PyData} {v : V}, Rp K p H true v d → ∀ st, Rp K p H st v d
  | _, _, .non _, _ => .non _
  | _, _, .bl _ b, _ => .bl _ b
  | _, _, .int _ i, _ => .int _ i
  | _, _, .str _ z, _ => .str _ z
  | _, _, .lst h n m r, _ => .lst h n (fun _ => m (Bool.true_or _)) (RpAll.loose r _)
  | _, _, .tup h n r, _ => .tup h n (RpAll.loose r _)
  | _, _, .dct h n r1 r2 e, _ => .dct h n r1 r2 e
  | _, _, .emp h, _ => .emp h
theorem RpAll.loose : ∀ {b : Bool} {ds : List PyData} {vs : List V}, RpAll K p H (true || b) vs ds → ∀ st, RpAll K p H st vs ds
  | _, _, _, .nil _, _ => .nil _
  | _, _, _, .cons x y, _ => .cons (Rp.loose x _) (RpAll.loose (b := true) y _)
end
end
section
variable {K : PySem.W.Frag} {p : Addr} {H H1 : Hp}
theorem RpAll.len : ∀ {st : Bool} {ds : List PyData} {vs : List V}, RpAll K p H st vs ds → vs.length = ds.length
  | _, _, _, .nil _ => rfl
  | _, _, _, .cons _ b => by simp [RpAll.len b]
theorem RpAll.at : ∀ {st : Bool} {ds : List PyData} {vs : List V} {j : Nat} {v : V} {d : PyData}, RpAll K p H st vs ds → vs[j]? = some v → ds[j]? = some d → Rp K p H st v d
  | _, _, _, _, _, _, .nil _, h, _ => by simp at h
  | _, _, _, 0, _, _, .cons a _, h, e => by
    simp at h e
    exact h ▸ e ▸ a
  | _, _, _, j + 1, _, _, .cons _ b, h, e => RpAll.at (j := j) b (by simpa using h) (by simpa using e)
theorem Rp.loose2 {st : Bool} {v : V} {d : PyData} (h : Rp K p H st v d) : Rp K p H false v d := by
  cases st with
  | true => exact h.loose _
  | false => exact h
end
theorem pairs_keys {P : Program} {w : World} : ∀ {es : List DictEntry} {kvs : List (Key × V)} {rs : List (Key × Value)}, KV kvs rs → Pairs (mixKind P w) es rs → Vals (kvs.map fun e => kV e.1) (es.map (·.key)) ∧ Vals (kvs.map (·.2)) (es.map (·.val))
  | _, _, _, .nil, .nil => ⟨.nil, .nil⟩
  | _, (k, v) :: _, _, .cons r t, .cons h1 h2 h3 => by
    obtain ⟨a, b⟩ := pairs_keys t h3
    obtain ⟨e1, rv⟩ := r
    refine ⟨.cons ?_ a, .cons (h2.symm ▸ rv : L2.RelV v (DictEntry.val _)) b⟩
    show L2.RelV (kV k) _
    rw [mixKind_is, ← e1] at h1
    rcases keyIs_shape h1 with ⟨i, t, e2, e3⟩ | ⟨x, t, e2, e3⟩
    · subst e2
      exact ⟨t, e3⟩
    · subst e2
      exact ⟨t, e3⟩
section
variable {X : Cx} {pins : List (Addr × Obj)} {σ : L2.St} {p : Addr} {H : Hp} {s : Shared}
theorem zip_fst {α β : Type} : ∀ {l : List α} {r : List β}, l.length = r.length → (l.zip r).map (·.1) = l
  | [], _, _ => by simp
  | _ :: _, [], h => by simp at h
  | a :: l, b :: r, h => by simp [zip_fst (l := l) (r := r) (by simpa using h)]
theorem zip_snd {α β : Type} : ∀ {l : List α} {r : List β}, l.length = r.length → (l.zip r).map (·.2) = r
  | [], r, h => by cases r with | nil => rfl | cons _ _ => simp at h
  | _ :: _, [], h => by simp at h
  | a :: l, b :: r, h => by simp [zip_snd (l := l) (r := r) (by simpa using h)]
theorem or_split {a b : Bool} (h : (a || b) = true) : a = true ∨ b = true := by
  cases a with
  | true => exact .inl rfl
  | false => exact .inr h
mutual
theorem Rp.reads (I : Inv X pins σ H s) : ∀ {st : Bool} {d : PyData} {v : V} {u : Value}, Rp X.K p H st v d → RelV v u → ∃ as, Reads s.heap u d as ∧ ((st || d.hasDict) = true → sysModules ∉ as)
  | _, _, _, _, .non _, r => by
    cases r
    exact ⟨_, Reads.none, fun _ => by simp⟩
  | _, _, _, _, .bl _ b, r => by
    cases r
    exact ⟨_, Reads.bool b, fun _ => by simp⟩
  | _, _, _, _, .int _ i, r => by
    obtain ⟨t, rfl⟩ := r
    exact ⟨_, Reads.int i t, fun _ => by simp⟩
  | _, _, _, _, .str _ z, r => by
    obtain ⟨t, rfl⟩ := r
    exact ⟨_, Reads.str z t, fun _ => by simp⟩
  | _, _, _, _, .lst h n m q, r => by
    cases r
    obtain ⟨its, rv, ⟨o, k, ho, hc, _, hd⟩, _⟩ := I.list (SqL.of h : SqL X.K H _ _)
    obtain ⟨as, q1, q2⟩ := RpAll.reads I q rv
    refine ⟨_, Reads.list ho hc hd q1, fun e => ?_⟩
    simp only [PyData.hasDict] at e
    rw [List.mem_cons]
    rintro (z | z)
    · exact m e z.symm
    · exact q2 e z
  | _, _, _, _, .tup h n q, r => by
    cases r
    obtain ⟨its, rv, ⟨o, ho, hc, k, hd⟩, _⟩ := I.tuple (SqT.of h : SqT X.K H _ _)
    obtain ⟨as, q1, q2⟩ := RpAll.reads I q rv
    refine ⟨_, Reads.tuple ho hc hd q1, fun e => ?_⟩
    simp only [PyData.hasDict] at e
    exact q2 e
  | _, _, _, _, .dct h n k1 k2 el, r => by
    cases r
    obtain ⟨_, ns, rs, rk, o, es, ep, ho, hx, hd, _, hp, _⟩ := dk_of I.hok h
    obtain ⟨v1, v2⟩ := pairs_keys rk hp
    obtain ⟨as, q1, q2⟩ := RpAll.reads I k1 v1
    obtain ⟨bs, q3, q4⟩ := RpAll.reads I k2 v2
    refine ⟨_, Reads.dict ho hx.1 hd (by rw [zip_fst el]; exact q1) (by rw [zip_snd el]; exact q3), fun _ => ?_⟩
    rw [List.cons_append, List.mem_cons, List.mem_append]
    rintro (e | m | m)
    · rw [← e] at ns
      exact absurd ns (by decide)
    · exact q2 rfl m
    · exact q4 rfl m
  | _, _, _, _, .emp h, r => by
    cases r
    obtain ⟨its, rv, ⟨o, ho, hc, k, hd⟩, _⟩ := I.tuple (h.sq : SqT X.K H _ _)
    cases rv
    exact ⟨_, Reads.tuple ho hc hd ReadsAll.nil, fun _ => by simp⟩
theorem RpAll.reads (I : Inv X pins σ H s) : ∀ {st : Bool} {ds : List PyData} {vs : List V} {us : List Value}, RpAll X.K p H st vs ds → Vals vs us → ∃ as, ReadsAll s.heap us ds as ∧ (st = true → sysModules ∉ as)
  | _, _, _, _, .nil _, r => by
    cases r
    exact ⟨_, ReadsAll.nil, fun _ => by simp⟩
  | st, _, _, _, .cons a b, r => by
    cases r with
    | cons r1 r2 =>
      obtain ⟨as, q1, q2⟩ := Rp.reads I a r1
      obtain ⟨bs, q3, q4⟩ := RpAll.reads I b r2
      exact ⟨_, ReadsAll.cons q1 q3, fun e z => (List.mem_append.mp z).elim (q2 (by rw [e, Bool.true_or])) (q4 e)⟩
end
/-- repr(x) of data, no repr under way -/
def qReprD (K : PySem.W.Frag) : List V → Hp → VK → Prop := fun xs H Q => ∃ x d p, xs = [x] ∧ Rp K p H false x d ∧ d.showable = true ∧ d.shown.length ≤ sizeLine ∧ d.depth ≤ 60 ∧ Q (.str d.shown) H
theorem call_reprD (g : X.A.guards = some []) (hu : X.A.units + 64 < cLine) : CallR X (.builtin "repr") (qReprD X.K) := by
  intro pins s σ H xs us Q I r h
  obtain ⟨x, d, p, rfl, hd, h1, h3, h4, q⟩ := h
  obtain ⟨u, rfl, rx⟩ := vals1 r
  obtain ⟨as, rd, nos⟩ := Rp.reads I hd rx
  rw [Bool.false_or] at nos
  have fin : ∀ (h' : Heap) (t : Tok) (tk : Nat), (∀ b o, s.heap.get? b = some o → h'.get? b = some o) → EP X pins σ Q (.str d.shown t) { s with heap := h', toks := tk } := by
    intro h' t tk hk
    exact ⟨.str d.shown, H, I.kept (t' := tk) hk, ⟨t, rfl⟩, q⟩
  have big : ∀ a, u = .ref a → wpAny (model X.prog X.w) X.A (call (.builtin "repr") [u]) (EP X pins σ Q) X.xe s := by
    rintro a rfl
    exact repr_of_reads' rd h1 nos g (by omega) (fun _ _ z => z) (fun h' t tk hk => fin h' t tk hk) h3
  cases hd with
  | non =>
    cases rx
    exact PySem.P.repr_of_none (fin _ _ _ fun _ _ z => z)
  | bl _ b =>
    cases rx
    exact PySem.P.repr_of_bool (fin _ _ _ fun _ _ z => z)
  | int _ i =>
    obtain ⟨t, rfl⟩ := rx
    exact PySem.P.repr_of_int (by simpa [PyData.showable] using h1) (fin _ _ _ fun _ _ z => z)
  | str _ z =>
    obtain ⟨t, rfl⟩ := rx
    exact PySem.P.repr_of_str (fin _ _ _ fun _ _ z => z) (by simpa only [PyData.shown] using h3)
  | lst _ _ _ _ => exact big _ rx
  | tup _ _ _ => exact big _ rx
  | dct _ _ _ _ _ => exact big _ rx
  | emp _ => exact big _ rx
/-! ### kinds of data -/
def tyName : PyData → String
  | .none => "NoneType" | .bool _ => "bool" | .int _ => "int" | .str _ => "str" | .list _ => "list" | .tuple _ => "tuple" | .dict _ => "dict"
theorem Rp.ty {K : PySem.W.Frag} {st : Bool} {d : PyData} {v : V} (h : Rp K p H st v d) : TyX K H v (.type (tyName d)) := by
  cases h with
  | non => exact .base .non
  | bl _ b => exact .base (.bl b)
  | int _ i => exact .base (.int i)
  | str _ z => exact .base (.str z)
  | lst h _ _ _ => exact .base (.lst h)
  | tup h _ _ => exact .base (.tup h)
  | dct h _ _ _ _ => exact .base (.dK h)
  | emp h =>
    obtain ⟨o, n, h1, h2, _⟩ := h.ex
    exact .kTuple h1 h2
def isStrD : PyData → Bool | .str _ => true | _ => false
def isTupD : PyData → Bool | .tuple _ => true | _ => false
def isSeqD : PyData → Bool | .tuple _ => true | .list _ => true | _ => false
theorem kit_str {K : PySem.W.Frag} (d : PyData) : PySem.W.kitOne K (.type (tyName d)) (.type "str") = some (isStrD d) := by
  cases d
  · exact kit_ty (show kitB "NoneType" "str" = some false by decide +kernel)
  · exact kit_ty (show kitB "bool" "str" = some false by decide +kernel)
  · exact kit_ty (show kitB "int" "str" = some false by decide +kernel)
  · exact kit_ty (show kitB "str" "str" = some true by decide +kernel)
  · exact kit_ty (show kitB "list" "str" = some false by decide +kernel)
  · exact kit_ty (show kitB "tuple" "str" = some false by decide +kernel)
  · exact kit_ty (show kitB "dict" "str" = some false by decide +kernel)
theorem kit_tup {K : PySem.W.Frag} (d : PyData) : PySem.W.kitOne K (.type (tyName d)) (.type "tuple") = some (isTupD d) := by
  cases d
  · exact kit_ty (show kitB "NoneType" "tuple" = some false by decide +kernel)
  · exact kit_ty (show kitB "bool" "tuple" = some false by decide +kernel)
  · exact kit_ty (show kitB "int" "tuple" = some false by decide +kernel)
  · exact kit_ty (show kitB "str" "tuple" = some false by decide +kernel)
  · exact kit_ty (show kitB "list" "tuple" = some false by decide +kernel)
  · exact kit_ty (show kitB "tuple" "tuple" = some true by decide +kernel)
  · exact kit_ty (show kitB "dict" "tuple" = some false by decide +kernel)
theorem Rp.tupS {K : PySem.W.Frag} {st : Bool} {v : V} {ds : List PyData} (h : Rp K p H st v (.tuple ds)) : ∃ a xs st2, v = .ref a ∧ SqT K H a xs ∧ RpAll K p H st2 xs ds := by
  cases h with
  | tup ha _ r => exact ⟨_, _, _, rfl, SqT.of ha, r⟩
  | emp h => exact ⟨_, [], st, rfl, h.sq, .nil _⟩
end
end My
end
section
set_option Elab.async false
set_option linter.all false
set_option maxRecDepth 100000
set_option maxHeartbeats 2000000
namespace My
open PySem PySem.Spec PyProof.Rows L2
/-- what a caller wants of a def that stands at module level -/
structure Def (K : PySem.W.Frag) (mg : Str → Option Value) (x : Str) (f : Addr) (fd : FuncData) (ps : List Str) : Prop where
  mgf : mg x = some (.ref f)
  kp : PySem.W.keepIn K (.ref f) = true
  bd : Binds K fd ps []
/-- built-ins that the module does not give another meaning -/
structure TB (mg : Str → Option Value) : Prop where
  int : mg "int" = none
  len : mg "len" = none
  abs : mg "abs" = none
  list : mg "list" = none
  tuple : mg "tuple" = none
  str : mg "str" = none
  set : mg "set" = none
  all : mg "all" = none
  isi : mg "isinstance" = none
  repr : mg "repr" = none
  range : mg "range" = none
/-- texts that are not too long, at any depth -/
def textFits (n : Nat) : PyData → Prop
  | .str z => z.length ≤ n
  | _ => True
/-- whether a value is one of the signs -/
def signD (S : Str) : PyData → Bool
  | .str z => decide (z.length = 1) && z.cps.toList.all fun c => decide (c ∈ S.cps.toList)
  | _ => false
/-- whether a value is a text of different ones of the signs -/
def setD (S : Str) : PyData → Bool
  | .str z => decide z.cps.toList.Nodup && z.cps.toList.all fun c => decide (c ∈ S.cps.toList)
  | _ => false
theorem signD_str (S z : Str) : signD S (.str z) = (decide (z.length = 1) && z.cps.toList.all fun c => decide (c ∈ S.cps.toList)) := rfl
theorem setD_str (S z : Str) : setD S (.str z) = (decide z.cps.toList.Nodup && z.cps.toList.all fun c => decide (c ∈ S.cps.toList)) := rfl
theorem mem_signs {z : Str} {x : V} (h : x ∈ signs z) : ∃ c, c ∈ z.cps.toList ∧ x = .str ⟨#[c]⟩ := by
  obtain ⟨c, h1, h2⟩ := List.mem_map.mp h
  exact ⟨c, h1, h2.symm⟩
theorem kit_list {K : PySem.W.Frag} (d : PyData) : PySem.W.kitOne K (.type (tyName d)) (.type "list") = some (match d with | .list _ => true | _ => false) := by
  cases d
  · exact kit_ty (show kitB "NoneType" "list" = some false by decide +kernel)
  · exact kit_ty (show kitB "bool" "list" = some false by decide +kernel)
  · exact kit_ty (show kitB "int" "list" = some false by decide +kernel)
  · exact kit_ty (show kitB "str" "list" = some false by decide +kernel)
  · exact kit_ty (show kitB "list" "list" = some true by decide +kernel)
  · exact kit_ty (show kitB "tuple" "list" = some false by decide +kernel)
  · exact kit_ty (show kitB "dict" "list" = some false by decide +kernel)
theorem kit_seq {K : PySem.W.Frag} (d : PyData) : PySem.W.kitAny K (.type (tyName d)) [.type "list", .type "tuple"] = some (isSeqD d) := by
  refine kitAny_cons (kit_list d) (fun h => kitAny_cons (kit_tup d) (fun h2 => ?_) fun h2 => ?_) fun h => ?_
  · rw [kitAny_nil]
    cases d <;> first | rfl | exact absurd (show true = false from h) (by decide) | exact absurd (show true = false from h2) (by decide)
  · cases d <;> first | rfl | exact absurd (show false = true from h2) (by decide)
  · cases d <;> first | rfl | exact absurd (show false = true from h) (by decide)
theorem one_sign {z : Str} (h : z.length = 1) : ∃ c, z = ⟨#[c]⟩ := by
  obtain ⟨⟨l⟩⟩ := z
  have h' : l.length = 1 := h
  obtain ⟨c, rfl⟩ := List.length_eq_one_iff.mp h'
  exact ⟨c, rfl⟩
/-! ### promises of the program's helpers -/
def sp_isSign (K : PySem.W.Frag) : Sp := fun vs H Q _ => ∃ (S : Str) (v : V) (d : PyData) (p : Addr), vs = [.str S, v] ∧ Rp K p H false v d ∧ textFits sizeLine d ∧ Q (.bl (signD S d)) H
def sp_isSet (K : PySem.W.Frag) : Sp := fun vs H Q _ => ∃ (S : Str) (v : V) (d : PyData) (p : Addr), vs = [.str S, v] ∧ Rp K p H false v d ∧ textFits 4000 d ∧ ∀ H', Same H H' → Q (.bl (setD S d)) H'
def alphabet : Str := "0123456789abcdefghijklmnopqrstuvwxyz"
/-- whether a value is the signs of a font -/
def fontD (d : PyData) : Bool := match d with
  | .str z => decide (2 ≤ z.length ∧ z.length ≤ 10) && setD alphabet (.str z)
  | _ => false
theorem fontD_str (z : Str) : fontD (.str z) = (decide (2 ≤ z.length ∧ z.length ≤ 10) && setD alphabet (.str z)) := rfl
def sp_isFont (K : PySem.W.Frag) : Sp := fun vs H Q _ => ∃ (v : V) (d : PyData) (p : Addr), vs = [v] ∧ Rp K p H false v d ∧ textFits 4000 d ∧ ∀ H', Same H H' → Q (.bl (fontD d)) H'
/-- a class whose values are read off it -/
structure ClassV (K : PySem.W.Frag) (C : Addr) (f : Str) (v : V) : Prop where
  ok : ∃ mc u, ClX.CRead K C mc ∧ ClX.CVal K C mc f v u
/-! ### comprehensions whose parts change nothing that is tracked -/
theorem walk_signs {z : Str} : Walk (Its z) (signs z).length (fun _ => True) (YAt (signs z)) := by
  have e : (signs z).length = z.cps.size := by rw [signs_len]; rfl
  rw [e]
  refine ⟨fun _ _ hi _ => hi, fun _ _ => Nat.le_refl _, fun i H x H' hi _ y => ?_⟩
  obtain ⟨e1, c, hc, e2⟩ := y
  refine ⟨e1, ?_⟩
  unfold signs
  rw [List.getElem?_map, Array.getElem?_toList, hc, e2]
  rfl
theorem lc_ff {J : It} {xs : List V} {G : Hp → Prop} (w : Walk J xs.length G (YAt xs)) {i : Nat} {tt : TT} {te : TE} {vs : List Nat} {σ : L2.St} {H1 : Hp} {D : Addr} {Qd : Hp → Prop} (p : V → Bool) (f : V → V) (free : H1 D = none)
    (hG : ∀ H', Same H1 H' → G H') (small : xs.length < sizeLine) (hw : ∀ x, wipe ((wipe σ vs).set i (some x)) vs = wipe σ vs)
    (ht : ∀ x H' (C : Bool → Hp → Prop), x ∈ xs → Same H1 H' → (∀ H3, Same H' H3 → C (p x) H3) → tt ((wipe σ vs).set i (some x)) H' C)
    (he : ∀ x H' (C : VK), x ∈ xs → p x = true → Same H1 H' → (∀ H4, Same H' H4 → C (f x) H4) → te ((wipe σ vs).set i (some x)) H' C)
    (hd : ∀ H', Same H1 H' → H' D = some (.lst ((xs.filter p).map f)) → Qd H') :
    ∃ W : Nat → Nat → Hp → Prop, (∃ m, W 0 m (upd H1 D (.lst []))) ∧ ∀ j m H, W j m H →
      (J.stop j H ∧ Qd H) ∨ (J.go j H ∧ ∃ Nx : Hp → Prop, (∀ H', Nx H' → ∃ m', m' < m ∧ W (j + 1) m' H') ∧ ∀ x H', J.yld j H x H' → gName i x (wipe σ vs) H' fun σ2 H2 => wipe σ2 vs = wipe σ vs ∧ tt σ2 H2 fun b H3 =>
        if b = true then te σ2 H3 fun y H4 => ∃ acc, H4 D = some (.lst acc) ∧ acc.length < sizeLine ∧ Nx (upd H4 D (.lst (acc ++ [y]))) else Nx H3) := by
  refine lc_it w (fun j H' => Same H1 H' ∧ H' D = some (.lst (((xs.take j).filter p).map f))) ⟨Same.wr (Same.refl H1) free .mk', upd_same⟩ (fun j H' _ q => hG H' q.1) ?_ ?_
  · rintro j x H2 H3 hj ⟨s, hD⟩ ⟨rfl, hx⟩
    have mem : x ∈ xs := List.mem_of_getElem? hx
    have nx : xs.take (j + 1) = xs.take j ++ [x] := by
      rw [List.take_add_one, hx]
      rfl
    refine ⟨hw x, ht x H3 _ mem s fun H4 s4 => ?_⟩
    have hD4 := s4 _ _ hD
    cases hp : p x with
    | true =>
      rw [if_pos rfl]
      refine he x H4 _ mem hp (s.trans s4) fun H5 s5 => ⟨_, s5 _ _ hD4, ?_, ?_, ?_⟩
      · rw [List.length_map]
        have h1 : ((xs.take j).filter p).length ≤ (xs.take j).length := List.length_filter_le _ _
        have h2 : (xs.take j).length ≤ xs.length := by rw [List.length_take]; omega
        omega
      · exact Same.wr ((s.trans s4).trans s5) free .mk'
      · rw [upd_same, nx, List.filter_append, List.map_append]
        simp [hp]
    | false =>
      rw [if_neg Bool.false_ne_true]
      refine ⟨s.trans s4, ?_⟩
      rw [hD4, nx, List.filter_append]
      simp [hp]
  · rintro H' ⟨s, hD⟩
    rw [List.take_length] at hD
    exact hd H' s hD
end My
end
section
set_option Elab.async false
set_option linter.all false
set_option maxRecDepth 100000
set_option maxHeartbeats 2000000
namespace My
open PySem PySem.Spec PyProof.Rows L2
/-- a text of one sign -/
abbrev sg (c : Nat) : V := .str ⟨#[c]⟩
/-- pairs of signs, each a tuple of its own -/
def PairsAt (H : Hp) (ps : List (Nat × Nat)) (ys : List V) : Prop := Paired (fun (ab : Nat × Nat) y => ∃ q, y = V.ref q ∧ H q = some (.tup [sg ab.1, sg ab.2])) ps ys
theorem PairsAt.same {H H1 : Hp} (s : Same H H1) : ∀ {ps : List (Nat × Nat)} {ys : List V}, PairsAt H ps ys → PairsAt H1 ps ys
  | _, _, .nil => .nil
  | _, _, .cons ⟨q, e, h⟩ t => .cons ⟨q, e, s _ _ h⟩ (PairsAt.same s t)
theorem Paired.at {α β : Type} {R : α → β → Prop} : ∀ {l : List α} {r : List β} {j : Nat} {b : β}, Paired R l r → r[j]? = some b → ∃ a, l[j]? = some a ∧ R a b
  | _, _, _, _, .nil, h => by simp at h
  | _, _, 0, _, .cons h _, e => by
    simp at e
    subst e
    exact ⟨_, rfl, h⟩
  | _, _, j + 1, _, .cons _ t, e => by
    obtain ⟨a, h1, h2⟩ := Paired.at (j := j) t (by simpa using e)
    exact ⟨a, by simpa using h1, h2⟩
theorem Paired.snoc {α β : Type} {R : α → β → Prop} : ∀ {l : List α} {r : List β} {a : α} {b : β}, Paired R l r → R a b → Paired R (l ++ [a]) (r ++ [b])
  | _, _, _, _, .nil, h => .cons h .nil
  | _, _, _, _, .cons h t, k => .cons h (Paired.snoc t k)
theorem Paired.map {α β : Type} {R R' : α → β → Prop} (f : ∀ a b, R a b → R' a b) : ∀ {l : List α} {r : List β}, Paired R l r → Paired R' l r
  | _, _, .nil => .nil
  | _, _, .cons h t => .cons (f _ _ h) (Paired.map f t)
theorem paired_eq {α β : Type} {f : α → β} : ∀ {l : List α} {r : List β}, Paired (fun a y => y = f a) l r → r = l.map f
  | _, _, .nil => rfl
  | _, _, .cons h t => by rw [h, paired_eq t]; rfl
/-- a comprehension over what is told by l: tests and elements may make objects -/
theorem lc_pair {α : Type} {J : It} {xs : List V} {G : Hp → Prop} (w : Walk J xs.length G (YAt xs)) (l : List α) (hl : l.length = xs.length) {i : Nat} {tt : TT} {te : TE} {vs : List Nat} {σ : L2.St} {H1 : Hp} {D : Addr} {Qd : Hp → Prop} (p : α → Bool) (R : α → V → Hp → Prop)
    (mono : ∀ a y H H', (∃ zs, H D = some (.lst zs)) → But D H H' → R a y H → R a y H') (free : H1 D = none) (hG : ∀ H', Same H1 H' → G H') (small : xs.length < sizeLine) (hw : ∀ x, wipe ((wipe σ vs).set i (some x)) vs = wipe σ vs)
    (ht : ∀ (j : Nat) x a H' (C : Bool → Hp → Prop), xs[j]? = some x → l[j]? = some a → Same H1 H' → (∀ H3, Same H' H3 → C (p a) H3) → tt ((wipe σ vs).set i (some x)) H' C)
    (he : ∀ (j : Nat) x a H' (C : VK), xs[j]? = some x → l[j]? = some a → p a = true → Same H1 H' → (∀ H4 y, Same H' H4 → R a y H4 → C y H4) → te ((wipe σ vs).set i (some x)) H' C)
    (hd : ∀ H' ys, Same H1 H' → H' D = some (.lst ys) → Paired (fun a y => R a y H') (l.filter p) ys → Qd H') :
    ∃ W : Nat → Nat → Hp → Prop, (∃ m, W 0 m (upd H1 D (.lst []))) ∧ ∀ j m H, W j m H →
      (J.stop j H ∧ Qd H) ∨ (J.go j H ∧ ∃ Nx : Hp → Prop, (∀ H', Nx H' → ∃ m', m' < m ∧ W (j + 1) m' H') ∧ ∀ x H', J.yld j H x H' → gName i x (wipe σ vs) H' fun σ2 H2 => wipe σ2 vs = wipe σ vs ∧ tt σ2 H2 fun b H3 =>
        if b = true then te σ2 H3 fun y H4 => ∃ acc, H4 D = some (.lst acc) ∧ acc.length < sizeLine ∧ Nx (upd H4 D (.lst (acc ++ [y]))) else Nx H3) := by
  refine lc_it w (fun j H' => Same H1 H' ∧ ∃ ys, H' D = some (.lst ys) ∧ ys.length ≤ j ∧ Paired (fun a y => R a y H') ((l.take j).filter p) ys)
    ⟨Same.wr (Same.refl H1) free .mk', [], upd_same, Nat.le_refl _, by simp; exact .nil⟩ (fun j H' _ q => hG H' q.1) ?_ ?_
  · rintro j x H2 H3 hj ⟨s, ys, hD, hy, hp⟩ ⟨rfl, hx⟩
    have hjl : j < l.length := by omega
    obtain ⟨a, ha⟩ : ∃ a, l[j]? = some a := ⟨l[j], by simp [hjl]⟩
    have nx : l.take (j + 1) = l.take j ++ [a] := by
      rw [List.take_add_one, ha]
      rfl
    refine ⟨hw x, ht j x a H3 _ hx ha s fun H4 s4 => ?_⟩
    have hD4 := s4 _ _ hD
    have hp4 := Paired.map (fun a y h => mono a y H3 H4 ⟨_, hD⟩ (.of s4) h) hp
    cases hpa : p a with
    | true =>
      rw [if_pos rfl]
      refine he j x a H4 _ hx ha hpa (s.trans s4) fun H5 y s5 hR => ⟨ys, s5 _ _ hD4, by omega, ?_, ys ++ [y], upd_same, by simp; omega, ?_⟩
      · exact Same.wr ((s.trans s4).trans s5) free .mk'
      · have w5 : But D H5 (upd H5 D (.lst (ys ++ [y]))) := Wr.mk'.but
        have hp5 := Paired.map (fun a y h => mono a y H4 H5 ⟨_, hD4⟩ (.of s5) h) hp4
        have hp6 := Paired.map (fun a y h => mono a y H5 _ ⟨_, s5 _ _ hD4⟩ w5 h) hp5
        rw [nx, List.filter_append]
        have e : [a].filter p = [a] := by simp [hpa]
        rw [e]
        exact Paired.snoc hp6 (mono a y H5 _ ⟨_, s5 _ _ hD4⟩ w5 hR)
    | false =>
      rw [if_neg Bool.false_ne_true]
      refine ⟨s.trans s4, ys, hD4, by omega, ?_⟩
      rw [nx, List.filter_append]
      have e : [a].filter p = [] := by simp [hpa]
      rw [e, List.append_nil]
      exact hp4
  · rintro H' ⟨s, ys, hD, _, hp⟩
    rw [← hl, List.take_length] at hp
    exact hd H' ys s hD hp
/-- what is iterated over: a list or a tuple -/
def iSeq (K : PySem.W.Frag) (tl : TE) : TI := fun σ H R => tl σ H fun x H1 => ∃ a xs, x = .ref a ∧ ((SqL K H1 a xs ∧ R (Itl K a) H1) ∨ (SqT K H1 a xs ∧ R (Itt K a) H1))
theorem pi_seq {X : Cx} {tg l : Expr} {tl : TE} (h : PE X l tl) : PI X tg l (iSeq X.K tl) := by
  constructor
  intro pins s σ H R I q
  apply thn (h.run pins s σ H _ I q)
  intro v s1 hv
  obtain ⟨x, H1, I1, r1, a, xs, rfl, hq⟩ := hv
  cases r1
  have more : ∀ {o : Obj}, L2.Inv X pins σ H1 { s1 with heap := s1.heap.push o } := fun {o} => I1.kept (t' := s1.toks) fun b ob e => Heap.get?_push_of_some _ e
  have fresh : ∀ b ∈ [s1.heap.objs.size], FpOk X pins H1 b := by
    intro b hb
    rw [List.mem_singleton.mp hb]
    exact I1.fpOk (Nat.le_refl _) (I1.hok.fresh (Nat.le_refl _))
  cases hq with
  | inl hq =>
    obtain ⟨its, rv, pl, hz⟩ := I1.list hq.1
    apply wpAny_pyIter_list pl.isList
    exact ⟨_, [s1.heap.objs.size], _, _, H1, rfl, more, turn_list a _, ⟨_, Heap.get?_push_size _ rfl, rfl, rfl⟩, fresh, hq.2⟩
  | inr hq =>
    obtain ⟨its, rv, pl, hz⟩ := I1.tuple hq.1
    apply wpAny_pyIter_tuple (show s1.heap.IsTuple a its.toArray from pl)
    exact ⟨_, [s1.heap.objs.size], _, _, H1, rfl, more, turn_tuple a _, ⟨_, Heap.get?_push_size _ rfl, rfl, rfl⟩, fresh, hq.2⟩
/-! ### the place of a sign in a text -/
theorem idx_first {l : List Nat} {c k : Nat} (h : l[k]? = some c) (hn : ∀ j, j < k → l[j]? ≠ some c) : l.idxOf c = k := by
  induction l generalizing k with
  | nil => simp at h
  | cons a l ih =>
    cases k with
    | zero =>
      have e : a = c := by simpa using h
      subst e
      simp
    | succ k =>
      have ne : a ≠ c := fun e => hn 0 (Nat.zero_lt_succ _) (by simp [e])
      have rest := ih (k := k) (by simpa using h) fun j hj => by
        have := hn (j + 1) (Nat.succ_lt_succ hj)
        simpa using this
      rw [List.idxOf_cons, beq_eq_false_iff_ne.mpr ne, cond_false, rest]
theorem index0_one (z : Str) (c : Nat) (h : c ∈ z.cps.toList) : Txt.index0 z ⟨#[c]⟩ = some (z.cps.toList.idxOf c) := by
  unfold Txt.index0
  rcases StrLaws.occ_head z ⟨#[c]⟩ 1 (Nat.le_refl 1) with ⟨_, hn⟩ | ⟨i, r, e, ha, hn⟩
  · obtain ⟨j, hj⟩ := List.mem_iff_getElem?.mp h
    exact absurd ((StrLaws.subAt_one z c j).mpr hj) (hn j)
  · rw [e]
    have e2 : z.cps.toList.idxOf c = i := by
      refine idx_first ((StrLaws.subAt_one z c i).mp ha) fun j hj hjc => ?_
      exact hn j hj ((StrLaws.subAt_one z c j).mpr hjc)
    rw [e2]
    rfl
/-! ### turns as they are kept -/
mutual
/-- data of no more than 4,000 signs or items anywhere -/
def fit : PyData → Bool
  | .str z => decide (z.length ≤ 4000)
  | .list ds => decide (ds.length ≤ 4000) && fitAll ds
  | .tuple ds => decide (ds.length ≤ 4000) && fitAll ds
  | _ => true
def fitAll : List PyData → Bool
  | [] => true
  | d :: ds => fit d && fitAll ds
end
theorem fit.text {d : PyData} (h : fit d = true) : textFits 4000 d := by
  cases d with
  | str z =>
    simp only [fit, decide_eq_true_eq] at h
    exact h
  | _ => trivial
theorem textFits.more {m n : Nat} {d : PyData} (h : textFits m d) (l : m ≤ n) : textFits n d := by
  cases d with
  | str z => exact Nat.le_trans h l
  | _ => trivial
theorem fitAll.at : ∀ {ds : List PyData} {j : Nat} {d : PyData}, fitAll ds = true → ds[j]? = some d → fit d = true
  | [], _, _, _, h => by simp at h
  | _ :: _, 0, _, h, e => by
    simp only [fitAll, Bool.and_eq_true] at h
    simp at e
    exact e ▸ h.1
  | _ :: _, j + 1, _, h, e => by
    simp only [fitAll, Bool.and_eq_true] at h
    exact fitAll.at (j := j) h.2 (by simpa using e)
/-- a pair of signs -/
def pairOf (S : Str) : PyData → Option (Nat × Nat)
  | .tuple [.str x, .str y] => if signD S (.str x) && signD S (.str y) then some (x.cps.toList.headD 0, y.cps.toList.headD 0) else none
  | _ => none
theorem signD_some {S z : Str} (h : signD S (.str z) = true) : ∃ c, z = ⟨#[c]⟩ ∧ c ∈ S.cps.toList := by
  rw [signD_str, Bool.and_eq_true, decide_eq_true_eq] at h
  obtain ⟨c, rfl⟩ := one_sign h.1
  refine ⟨c, rfl, ?_⟩
  have := h.2
  simpa using this
theorem pairOf_some {S : Str} {d : PyData} {a b : Nat} (h : pairOf S d = some (a, b)) : d = .tuple [.str ⟨#[a]⟩, .str ⟨#[b]⟩] ∧ a ∈ S.cps.toList ∧ b ∈ S.cps.toList := by
  unfold pairOf at h
  split at h
  · rename_i x y
    split at h
    · rename_i hs
      rw [Bool.and_eq_true] at hs
      obtain ⟨c, rfl, hc⟩ := signD_some hs.1
      obtain ⟨e, rfl, he⟩ := signD_some hs.2
      simp at h
      obtain ⟨rfl, rfl⟩ := h
      exact ⟨rfl, hc, he⟩
    · cases h
  · cases h
theorem pairOf_two (S : Str) (x y : PyData) : (pairOf S (.tuple [x, y])).isSome = (signD S x && signD S y) := by
  cases x with
  | str a =>
    cases y with
    | str b =>
      show (if (signD S (.str a) && signD S (.str b)) = true then some _ else none).isSome = _
      cases signD S (.str a) && signD S (.str b) <;> rfl
    | _ => simp [pairOf, signD]
  | _ => simp [pairOf, signD]
theorem pairOf_len (S : Str) {ds : List PyData} (h : ds.length ≠ 2) : (pairOf S (.tuple ds)).isSome = false := by
  match ds, h with
  | [], _ => rfl
  | [x], _ => simp [pairOf]
  | [_, _], h => exact absurd rfl h
  | x :: y :: z :: r, _ => simp [pairOf]
/-- heads as an assoc list: a pair is put both ways -/
def putN (h : List (Nat × Nat)) (a b : Nat) : List (Nat × Nat) := if (h.any fun e => decide (e.1 = a)) = true then h.map (fun e => if e.1 = a then (e.1, b) else e) else h ++ [(a, b)]
def headOf (h : List (Nat × Nat)) (a : Nat) : Option Nat := (h.find? fun e => decide (e.1 = a)).map (·.2)
def headsFrom (S : Str) : List (Nat × Nat) → List PyData → Option (List (Nat × Nat))
  | h, [] => some h
  | h, d :: ds => match pairOf S d with
    | none => none
    | some (a, b) => if (headOf h a).isSome || (headOf h b).isSome then none else headsFrom S (putN (putN h a b) b a) ds
/-- the turns that a dict of heads has, each once, its earlier sign first -/
def dueOf (S : Str) (h : List (Nat × Nat)) : List (Nat × Nat) :=
  ((S.cps.toList.filter fun c => (headOf h c).isSome).map fun c => (c, (headOf h c).getD 0)).filter fun e => decide (S.cps.toList.idxOf e.1 ≤ S.cps.toList.idxOf e.2)
def keptD (S : Str) : PyData → Option (List (Nat × Nat))
  | .list ds => (headsFrom S [] ds).map (dueOf S)
  | .tuple ds => (headsFrom S [] ds).map (dueOf S)
  | _ => none
/-- heads as a dict holds them -/
def toK (h : List (Nat × Nat)) : List (Key × V) := h.map fun e => (Sum.inr ⟨#[e.1]⟩, sg e.2)
theorem sign_inj {a b : Nat} : ((⟨#[a]⟩ : Str) = ⟨#[b]⟩) ↔ a = b := by
  constructor
  · intro e
    injection e with e
    simpa using e
  · intro e
    rw [e]
theorem keyS_inj {a b : Nat} : ((Sum.inr ⟨#[a]⟩ : Key) = Sum.inr ⟨#[b]⟩) ↔ a = b := by
  constructor
  · intro e
    exact sign_inj.mp (Sum.inr.inj e)
  · intro e
    rw [e]
theorem valV_toK (h : List (Nat × Nat)) (a : Nat) : valV (toK h) (Sum.inr ⟨#[a]⟩ : Key) = (headOf h a).map sg := by
  induction h with
  | nil => rfl
  | cons e h ih =>
    by_cases q : e.1 = a
    · have e1 : valV (toK (e :: h)) (Sum.inr ⟨#[a]⟩ : Key) = some (sg e.2) := valV_pos (keyS_inj.mpr q)
      rw [e1]
      simp [headOf, q]
    · have e1 : valV (toK (e :: h)) (Sum.inr ⟨#[a]⟩ : Key) = valV (toK h) (Sum.inr ⟨#[a]⟩ : Key) := valV_neg (fun z => q (keyS_inj.mp z))
      rw [e1, ih]
      simp [headOf, q]
theorem putK_toK (h : List (Nat × Nat)) (a b : Nat) : putK (toK h) (Sum.inr ⟨#[a]⟩ : Key) (sg b) = toK (putN h a b) := by
  have e : ((toK h).any fun kv => decide (kv.1 = (Sum.inr ⟨#[a]⟩ : Key))) = h.any fun e => decide (e.1 = a) := by
    unfold toK
    rw [List.any_map]
    congr 1
    funext x
    simp only [Function.comp]
    rw [decide_eq_decide]
    exact keyS_inj
  unfold putK putN
  rw [e]
  split
  · unfold toK
    rw [List.map_map, List.map_map]
    congr 1
    funext x
    simp only [Function.comp]
    by_cases q : x.1 = a
    · rw [if_pos (keyS_inj.mpr q), if_pos q]
    · rw [if_neg (fun z => q (keyS_inj.mp z)), if_neg q]
  · unfold toK
    rw [List.map_append]
    rfl
theorem dget_toK {H : Hp} {p : Addr} {h : List (Nat × Nat)} (a : Nat) (e : H p = some (.dK (toK h))) : DGet H p (sg a) ((headOf h a).map sg) := by
  rw [← valV_toK]
  exact DGet.k (k := Sum.inr ⟨#[a]⟩) e
theorem dput_toK {H : Hp} {p : Addr} {h : List (Nat × Nat)} (a b : Nat) (e : H p = some (.dK (toK h))) (l : h.length < sizeLine) : DPut H p (sg a) (sg b) (upd H p (.dK (toK (putN h a b)))) := by
  rw [← putK_toK]
  exact DPut.k (k := Sum.inr ⟨#[a]⟩) e (by rw [toK, List.length_map]; exact l)
theorem headOf_putN (h : List (Nat × Nat)) (a b c : Nat) : headOf (putN h a b) c = if c = a then some b else headOf h c := by
  have app : ∀ (h : List (Nat × Nat)), (h.any fun e => decide (e.1 = a)) = false → headOf (h ++ [(a, b)]) c = if c = a then some b else headOf h c := by
    intro h hn
    induction h with
    | nil =>
      by_cases q : a = c
      · subst q; simp [headOf]
      · rw [if_neg (fun e => q e.symm)]
        simp [headOf, q]
    | cons e h ih =>
      rw [List.any_cons, Bool.or_eq_false_iff] at hn
      have hne : e.1 ≠ a := of_decide_eq_false hn.1
      by_cases q : e.1 = c
      · have : c ≠ a := fun z => hne (q.trans z)
        rw [if_neg this]
        simp [headOf, q]
      · have ih := ih hn.2
        have r1 : headOf (e :: h ++ [(a, b)]) c = headOf (h ++ [(a, b)]) c := by simp [headOf, q]
        have r2 : headOf (e :: h) c = headOf h c := by simp [headOf, q]
        rw [r1, r2, ih]
  have rep : ∀ (h : List (Nat × Nat)), headOf (h.map fun e => if e.1 = a then (e.1, b) else e) c = if c = a then (if (h.any fun e => decide (e.1 = a)) = true then some b else none) else headOf h c := by
    intro h
    induction h with
    | nil =>
      by_cases q : c = a
      · rw [if_pos q]; rfl
      · rw [if_neg q]; rfl
    | cons e h ih =>
      by_cases k : e.1 = a
      · have e1 : (List.map (fun e => if e.1 = a then (e.1, b) else e) (e :: h)) = (e.1, b) :: List.map (fun e => if e.1 = a then (e.1, b) else e) h := by
          rw [List.map_cons, if_pos k]
        rw [e1]
        by_cases q : c = a
        · rw [if_pos q]
          simp [headOf, k, q]
        · have n1 : ¬ e.1 = c := fun z => q (z.symm.trans k)
          rw [if_neg q] at ih ⊢
          have r1 : headOf ((e.1, b) :: List.map (fun e => if e.1 = a then (e.1, b) else e) h) c = headOf (List.map (fun e => if e.1 = a then (e.1, b) else e) h) c := by simp [headOf, n1]
          have r2 : headOf (e :: h) c = headOf h c := by simp [headOf, n1]
          rw [r1, r2, ih]
      · have e1 : (List.map (fun e => if e.1 = a then (e.1, b) else e) (e :: h)) = e :: List.map (fun e => if e.1 = a then (e.1, b) else e) h := by
          rw [List.map_cons, if_neg k]
        have e2 : ((e :: h).any fun e => decide (e.1 = a)) = h.any fun e => decide (e.1 = a) := by
          rw [List.any_cons, decide_eq_false k, Bool.false_or]
        rw [e1, e2]
        by_cases q : e.1 = c
        · have : c ≠ a := fun z => k (q.trans z)
          rw [if_neg this]
          simp [headOf, q]
        · have r1 : headOf (e :: List.map (fun e => if e.1 = a then (e.1, b) else e) h) c = headOf (List.map (fun e => if e.1 = a then (e.1, b) else e) h) c := by simp [headOf, q]
          have r2 : headOf (e :: h) c = headOf h c := by simp [headOf, q]
          rw [r1, r2, ih]
  unfold putN
  cases hq : (h.any fun e => decide (e.1 = a)) with
  | true =>
    rw [if_pos rfl, rep h, hq, if_pos rfl]
  | false =>
    rw [if_neg Bool.false_ne_true, app h hq]
theorem Paired.length {α β : Type} {R : α → β → Prop} : ∀ {l : List α} {r : List β}, Paired R l r → l.length = r.length
  | _, _, .nil => rfl
  | _, _, .cons _ t => by simp [Paired.length t]
theorem toK_length (h : List (Nat × Nat)) : (toK h).length = h.length := List.length_map _
theorem putN_length (h : List (Nat × Nat)) (a b : Nat) : (putN h a b).length ≤ h.length + 1 := by
  unfold putN
  split
  · rw [List.length_map]; omega
  · rw [List.length_append]; exact Nat.le_refl _
section
variable {X : Cx}
/-- {} -/
def qDNew : TE := fun _ H Q => ∀ p H1, New H p (.dK []) H1 → Q (.ref p) H1
theorem pe_dnew' {pos : Pos} : PE X (.Dict [] [] pos) qDNew := PE.weak pe_dnewK fun σ H Q q p hp => q p _ (.mk' hp)
end
def sp_isPair (K : PySem.W.Frag) : Sp := fun vs H Q _ => ∃ (S : Str) (v : V) (d : PyData) (p : Addr), vs = [.str S, v] ∧ Rp K p H false v d ∧ fit d = true ∧ ∀ H', Same H H' → Q (.bl (pairOf S d).isSome) H'
def sp_isListed (K : PySem.W.Frag) : Sp := fun vs H Q _ => ∃ (v : V) (d : PyData) (p : Addr), vs = [v] ∧ Rp K p H false v d ∧ ∀ H', Same H H' → Q (.bl (isSeqD d)) H'
def sp_kept (K : PySem.W.Frag) : Sp := fun vs H Q _ => ∃ (S : Str) (v : V) (d : PyData) (p : Addr), vs = [.str S, v] ∧ Rp K p H false v d ∧ fit d = true ∧ S.length ≤ 4000 ∧
  (keptD S d = none → ∀ H', Same H H' → Q .non H') ∧ (∀ ps, keptD S d = some ps → ∀ H' r ys, Same H H' → H r = none → H' r = some (.tup ys) → PairsAt H' ps ys → Q (.ref r) H')
theorem rp_pair {K : PySem.W.Frag} {p : Addr} {H : Hp} {st : Bool} {v : V} {x y : Str} (h : Rp K p H st v (.tuple [.str x, .str y])) : ∃ q, v = .ref q ∧ H q = some (.tup [.str x, .str y]) ∧ q ≠ p := by
  cases h with
  | tup ha hp r =>
    cases r with
    | cons r1 r2 =>
      cases r1
      cases r2 with
      | cons r3 r4 =>
        cases r3
        cases r4
        exact ⟨_, rfl, ha, hp⟩
/-- a list or a tuple of data -/
theorem rp_seq {K : PySem.W.Frag} {p : Addr} {H : Hp} {st : Bool} {v : V} {d : PyData} (h : Rp K p H st v d) (hs : isSeqD d = true) : ∃ a xs ds st2, v = .ref a ∧ (SqL K H a xs ∨ SqT K H a xs) ∧ RpAll K p H st2 xs ds ∧ (d = .list ds ∨ d = .tuple ds) := by
  cases h with
  | lst ha hp _ r => exact ⟨_, _, _, _, rfl, .inl (SqL.of ha), r, .inl rfl⟩
  | tup ha hp r => exact ⟨_, _, _, _, rfl, .inr (SqT.of ha), r, .inr rfl⟩
  | emp h => exact ⟨_, [], [], st, rfl, .inr h.sq, .nil _, .inr rfl⟩
  | _ => cases hs
theorem RpAll.but2 {K : PySem.W.Frag} {p : Addr} {H H1 : Hp} (s : Same H H1) {st : Bool} {ds : List PyData} {vs : List V} (h : RpAll K p H st vs ds) : RpAll K p H1 st vs ds := RpAll.but (.of s) h
theorem headsFrom_cons (S : Str) (h : List (Nat × Nat)) (d : PyData) (ds : List PyData) : headsFrom S h (d :: ds) = match pairOf S d with
    | none => none
    | some (a, b) => if (headOf h a).isSome || (headOf h b).isSome then none else headsFrom S (putN (putN h a b) b a) ds := rfl
theorem at0 (a b : V) : atI [a, b] (0 : Int) = some a := atI_nat (j := 0) rfl
theorem at1 (a b : V) : atI [a, b] (1 : Int) = some b := atI_nat (j := 1) rfl
/-- a for over a list or a tuple that stands since H0 -/
theorem tFor_seq {K : PySem.W.Frag} {tl : TE} {g : TG} {tb : TS} {D : Ends} {σ : L2.St} {H H0 : Hp} {a : Addr} {xs : List V} (hv : ∀ C : VK, C (.ref a) H → tl σ H C) (hq : SqL K H0 a xs ∨ SqT K H0 a xs) (Pv : Nat → L2.St → Hp → Prop) (h0 : Pv 0 σ H)
    (hS : ∀ i σ' H', Pv i σ' H' → Same H0 H')
    (hs : ∀ i x σ' H', i < xs.length → xs[i]? = some x → Pv i σ' H' → g x σ' H' fun σ2 H2 => tb { D with nx := Pv (i + 1), ct := Pv (i + 1), bk := D.nx } σ2 H2) (hd : ∀ σ' H', Pv xs.length σ' H' → D.nx σ' H') : tFor (iSeq K tl) g tb D σ H := by
  refine hv _ ⟨a, xs, rfl, ?_⟩
  rcases hq with hq | hq
  · refine .inl ⟨(hS 0 σ H h0).seq hq, for_it walk_list Pv h0 (fun i σ' H' _ p => (hS i σ' H' p).seq hq) (fun i x σ' H1 H2 hi p y => ?_) hd⟩
    obtain ⟨rfl, hx⟩ := y
    exact hs i x σ' _ hi hx p
  · refine .inr ⟨(hS 0 σ H h0).tupl hq, for_it walk_tup Pv h0 (fun i σ' H' _ p => (hS i σ' H' p).tupl hq) (fun i x σ' H1 H2 hi p y => ?_) hd⟩
    obtain ⟨rfl, hx⟩ := y
    exact hs i x σ' _ hi hx p
/-! ### rules within a comprehension: the written part by its name -/
section
variable {X : Cx} {K : PySem.W.Frag}
theorem ix_tupK (h : X.K = K) : IxR X (rIxT K) := h ▸ ix_tup
theorem ix_listK (h : X.K = K) : IxR X (rIxL K) := h ▸ ix_list
theorem pe_bmSK {o e : Expr} {es : List Expr} {to : TE} {t : TA} {name : Str} {apos cpos : Pos} {T id : String} {r : L2.St → V → List V → Hp → VK → Prop} (h : X.K = K) (pa : PlainAttrs T) (slot : Slot T name id) (hty : typeOf (.builtin id) = pure (.type "method_descriptor")) (hm : MtS X id r) (ho : PE X o to) (ha : PA X (e :: es) t)
    (hbase : attributeBase o name X.env (eval o X.env) = eval o X.env := by rfl)
    (hfew : ((backTo cpos (starEach (e :: es) X.env)).all (fun x => !x.1) && (backToKw cpos (keywordEach [] X.env)).all (fun x => x.1.isSome)
      && decide ((e :: es).length + ([] : List Keyword).length + (if ([] : List Keyword).isEmpty then 0 else 1) < 30)) = true := by rfl)
    (hline : (apos.endLine == cpos.line) = true := by rfl) (hs : starEach (e :: es) X.env = (false, eval e X.env) :: starEach es X.env := by rfl) (hplain : (backTo cpos (starEach es X.env)).any (·.1) = false := by rfl) :
    PE X (.Call (.Attribute o name apos) (e :: es) [] cpos) (tBMS K T r to t) := h ▸ pe_bmS pa slot hty hm ho ha hbase hfew hline hs hplain
end
end My
end
section
set_option Elab.async false
set_option linter.all false
set_option maxRecDepth 100000
set_option maxHeartbeats 2000000
namespace My
open PySem PySem.Spec PyProof.Rows L2
def topS (i : Nat) : Stmt := PySem.Challenge.pw_hymnplates_k03_kinds.main.body.getD i (.Pass ⟨0, 0, 0, 0⟩)
abbrev s_pen : Stmt := topS 24
abbrev s_draw : Stmt := topS 25
section
variable {P : Program} {w : World} {K : PySem.W.Frag} {mg : Str → Option Value} {base : Heap}
theorem sc_pen : FnScope ["_law_script"] ["_law_script"] (defScope s_pen) := ⟨rfl, rfl, rfl, by decide +kernel, rfl, by decide +kernel, by decide +kernel⟩
theorem ok_pen {f : Addr} {fd : FuncData} (F : Fun K "_law_pen" "_law_pen" s_pen f fd) (Tlist : mg "list" = none) : FnOk P w K mg base CX0 1 f fd ["_law_script"] (sp_pen K) := by
  refine F.ok sc_pen (fun vs H Q E h => ?_) (fun cdv A outer s H vs Q E hr h => ?_)
  · obtain ⟨a, ns, rfl, _⟩ := h
    rfl
  · obtain ⟨a, ns, rfl, hS, hlen, k⟩ := h
    refine ⟨_, pss_one (ps_ret (pe_disp (pps_cons pe_str (pe_callTy call_listOf (by rfl) Tlist (by decide +kernel) (pa_cons (pe_slice sl_list' (pv 0) po_none (po_some pe_int)) pa_nil)) (pps_cons pe_str pe_int (pps_cons pe_str pe_int pps_nil))) (by rfl) (by rfl) (fun z => by cases z) (by decide))), ?_⟩
    intro p hp
    have n0 : New H p (.dK []) (upd H p (.dK [])) := .mk' hp
    generalize upd H p (HO.dK []) = H0 at n0 ⊢
    refine ⟨_, rfl, 63, rfl, a, _, rfl, n0.same.seq hS, fun q H1 n1 => ⟨q, _, rfl, .inl (SqL.of n1.here), fun l H2 n2 => ?_⟩⟩
    refine ⟨n2.same _ _ (n1.same _ _ n0.here), penK l 0 0, rfl, (by show 3 ≤ 15; omega), ?_⟩
    refine k _ p l ?_ hp ⟨ns.take 63, 0, 0, upd_same, ?_, Int.le_refl _, Int.le_refl _, ?_⟩
    · exact Same.wr ((n0.same.trans n1.same).trans n2.same) hp Wr.mk'
    · rw [upd_ne (ne_of_none (n1.same _ _ n0.here) n2.free).symm, n2.here]
      rw [show (63 : Int) = ((63 : Nat) : Int) from rfl, cutV_to, List.map_take]
    · rw [List.length_take]
      omega
theorem sc_draw : FnScope ["_law_pen_here", "_law_many", "_law_digit", "_law_used", "_law_cell", "_law_blend"] ["_law_pen_here", "_law_many"] (defScope s_draw) := ⟨rfl, rfl, rfl, by decide +kernel, rfl, by decide +kernel, by decide +kernel⟩
structure TDraw (mg : Str → Option Value) : Prop where
  int : mg "int" = none
  len : mg "len" = none
  abs : mg "abs" = none
theorem ok_draw {f : Addr} {fd : FuncData} (F : Fun K "_law_draw" "_law_draw" s_draw f fd) (T : TDraw mg) : FnOk P w K mg base CX0 1 f fd ["_law_pen_here", "_law_many"] sp_draw := by
  refine F.ok sc_draw (fun vs H Q E h => ?_) (fun cdv A outer s H vs Q E hr h => ?_)
  · obtain ⟨a, c, m, n, rfl, _⟩ := h
    rfl
  · obtain ⟨p, c, m, n, rfl, hP, hn, hm0, hm1, k⟩ := h
    have hu := hu_of hr
    refine ⟨_, pss_cons (ps_if (pt_cmpR op_gt (pe_dget hu (pv 0) pe_str (fun _ _ => rfl)) pe_int (nomark _))
        (pss_cons (ps_set (i := 2) sc_draw.nd rfl (Or.inl rfl) (pe_op op_modN (pe_callTy call_int1 (by rfl) T.int (by decide +kernel) (pa_cons (pe_dget hu (pv 0) pe_str (fun _ _ => rfl)) pa_nil)) (pv 1)))
        (pss_cons (ps_dput hu (pv 0) pe_str (pe_op op_fdivW (pe_dget hu (pv 0) pe_str (fun _ _ => rfl)) (pv 1)) rfl)
        (pss_one (ps_ret (pv 2))))) pss_nil)
      (pss_cons (ps_set (i := 3) sc_draw.nd rfl (Or.inl rfl) (pe_dget hu (pv 0) pe_str (fun _ _ => rfl)))
      (pss_cons (ps_dput hu (pv 0) pe_str (pe_op op_add (pv 3) pe_int) rfl)
      (pss_cons (ps_set (i := 4) sc_draw.nd rfl (Or.inl rfl) (pe_op op_add (pe_op op_mul pe_int (pv 3)) pe_int))
      (pss_cons (ps_if (pt_cmpR (op_neNil hr.units0) (pe_dget hu (pv 0) pe_str (fun _ _ => rfl)) (pe_lst' pa_nil) (nomark _))
        (pss_one (ps_set (i := 4) sc_draw.nd rfl (Or.inl rfl) (pe_ix ix_list (pe_dget hu (pv 0) pe_str (fun _ _ => rfl)) (pe_op op_modN (pe_callTy call_int1 (by rfl) T.int (by decide +kernel) (pa_cons (pv 3) pa_nil))
          (pe_callB call_len_seq (by rfl) T.len PySem.boot_len (pa_cons (pe_dget hu (pv 0) pe_str (fun _ _ => rfl)) pa_nil))) (fun _ _ => rfl)))) pss_nil)
      (pss_cons (ps_if (PW.pt (pw_and (pt_cmpR op_lt (pv 3) (pe_callB call_len_seq (by rfl) T.len PySem.boot_len (pa_cons (pe_dget hu (pv 0) pe_str (fun _ _ => rfl)) pa_nil)) (nomark _))
          (pw_and1 (pt_cmpR op_ge (pe_callB call_abs (by rfl) T.abs (by decide +kernel) (pa_cons (pv 4) pa_nil)) (pe_op op_pow pe_int pe_int) (nomark _)))))
        (pss_cons (ps_dput hu (pv 0) pe_str (pe_op op_fdivW (pe_op op_sub (pe_callB call_abs (by rfl) T.abs (by decide +kernel) (pa_cons (pv 4) pa_nil)) (pe_op op_pow pe_int pe_int)) (pv 1)) rfl)
        (pss_one (ps_ret (pe_op op_modN (pe_op op_sub (pe_callB call_abs (by rfl) T.abs (by decide +kernel) (pa_cons (pv 4) pa_nil)) (pe_op op_pow pe_int pe_int)) (pv 1))))) pss_nil)
      (pss_cons (ps_set (i := 5) sc_draw.nd rfl (Or.inl rfl) (pe_op op_add (pe_op op_mulW (pe_op op_modN (pe_callTy call_int1 (by rfl) T.int (by decide +kernel) (pa_cons (pv 4) pa_nil)) pe_int) pe_int) (pe_op op_mulW (pe_op op_mulW pe_int (pv 3)) (pv 3))))
      (pss_cons (ps_set (i := 5) sc_draw.nd rfl (Or.inl rfl) (pe_op op_modN (pe_callTy call_int1 (by rfl) T.int (by decide +kernel) (pa_cons (pe_op op_add (pe_op op_add (pv 5) (pe_op op_mulW pe_int (pv 3))) pe_int) pa_nil)) pe_int))
      (pss_cons (ps_set (i := 5) sc_draw.nd rfl (Or.inl rfl) (pe_op op_modN (pe_callTy call_int1 (by rfl) T.int (by decide +kernel) (pa_cons (pe_op op_add (pe_op op_add (pe_op op_add (pe_op op_mulW (pv 5) (pv 5)) (pe_op op_mulW pe_int (pv 5))) (pe_op op_mulW pe_int (pv 3))) pe_int) pa_nil)) pe_int))
      (pss_cons (ps_set (i := 5) sc_draw.nd rfl (Or.inl rfl) (pe_op op_fdivW (pe_op op_modN (pe_callTy call_int1 (by rfl) T.int (by decide +kernel) (pa_cons (pe_op op_mulW (pv 5) (pe_op op_add (pv 5) pe_int)) pa_nil)) pe_int) pe_int))
      (pss_cons (ps_if (pt_cmpR op_gt (pv 1) pe_int (nomark _)) (pss_one ps_never) pss_nil)
      (pss_one (ps_ret (pe_op op_modN (pe_callTy call_int1 (by rfl) T.int (by decide +kernel) (pa_cons (pv 5) pa_nil)) (pv 1)))))))))))))), ?_⟩
    obtain ⟨cs, u, l, h1, h2, hu0, hun, hc⟩ := hP
    have hdiv : CDivW 0 m := wide_div hm0 (b := 30) (by omega) (by decide) (by decide)
    refine ⟨_, rfl, p, _, rfl, dget_left h1, _, _, rfl, rfl, _, rfl, ite2 (fun hl => ?_) (fun hl => ?_)⟩
    · refine ⟨_, rfl, p, _, rfl, dget_left h1, .inl ⟨_, rfl, _, rfl, _, _, rfl, rfl, (by omega), ?_⟩⟩
      refine ⟨_, rfl, p, _, rfl, dget_left h1, _, rfl, _, _, rfl, rfl, hdiv, _, rfl, p, _, rfl, dput_left h1, ?_⟩
      refine ⟨_, rfl, k _ _ ⟨Wr.mk'.but, cs, u, _, upd_same, ?_, hu0, by omega, hc⟩ (fmod_bounds _ hm0).1 (fmod_bounds _ hm0).2⟩
      rw [upd_ne (ne_of h2 h1 (by intro z; cases z))]
      exact h2
    · refine ⟨_, rfl, p, _, rfl, dget_used h1, ?_⟩
      refine ⟨_, rfl, _, _, rfl, rfl, _, rfl, p, _, rfl, dput_used h1, ?_⟩
      have hpc : c ≠ p := ne_of h2 h1 (by intro z; cases z)
      have w1 : Wr H p (.dK (penK c (u + 1) l)) (upd H p (.dK (penK c (u + 1) l))) := .mk'
      generalize upd H p (HO.dK (penK c (u + 1) l)) = H1 at w1 ⊢
      have g2 : H1 c = some (.lst (cs.map V.int)) := (w1.els c hpc).trans h2
      have hu62 : 0 ≤ u ∧ u < 2 ^ 60 := ⟨hu0, by omega⟩
      refine ⟨_, rfl, _, _, rfl, rfl, .inl (by decide), _, _, rfl, rfl, ?_⟩
      refine ⟨_, rfl, p, _, rfl, dget_cells w1.here, by decide, fun q H2 n2 => ⟨c, q, _, rfl, rfl, SqL.of (n2.same _ _ g2), n2.here, _, rfl, ?_⟩⟩
      have i1 := n2.same _ _ w1.here
      have i2 := n2.same _ _ g2
      have hD : ∀ H3, Same H1 H3 → DrewP H p c (n + 1) H3 := fun H3 s3 => ⟨w1.but.trans (.of s3), cs, u + 1, l, s3 _ _ w1.here, s3 _ _ g2, by omega, by omega, hc⟩
      have sq : Same H1 H2 := n2.same
      have hcl : (cs.map V.int).length = cs.length := List.length_map _
      have hle : ∀ z : Int, 0 ≤ z.fmod m ∧ z.fmod m < m := fun z => fmod_bounds z hm0
      refine ite2 (fun hb => ?_) (fun hb => ?_)
      · have hpos : 0 < cs.length := by
          cases cs with
          | nil => simp at hb
          | cons _ _ => simp
        obtain ⟨h0, h9⟩ := fmod_bounds u (m := ((cs.map V.int).length : Int)) (by rw [hcl]; omega)
        obtain ⟨j, hj⟩ : ∃ j : Nat, u.fmod ((cs.map V.int).length : Int) = j := ⟨_, (Int.toNat_of_nonneg h0).symm⟩
        have hjl : j < cs.length := by rw [hj, hcl] at h9; omega
        refine ⟨_, rfl, p, _, rfl, dget_cells i1, _, rfl, .inl ⟨_, rfl, _, rfl, p, _, rfl, dget_cells i1, c, _, rfl, .inl (SqL.of i2), _, _, rfl, rfl, (by rw [hcl]; omega), c, _, _, V.int cs[j], rfl, rfl, SqL.of i2, ?_, ?_⟩⟩
        · rw [hj, atI_nat]
          simp [hjl]
        generalize cs[j] = cell
        clear hj h0 h9 hjl hpos
        revert cell
        intro cell
        have pw : CPow 10 18 := ⟨by decide, by decide, by decide⟩
        have last : ∀ (b : Int) (H3 : Hp), Same H1 H3 → True := fun _ _ _ => trivial
        refine ⟨_, rfl, _, rfl, p, _, rfl, dget_cells i1, c, _, rfl, .inl (SqL.of i2), _, _, rfl, rfl, _, rfl, ?_⟩
        refine ite2 (fun hlt => ?_) (fun hlt => ?_)
        · refine ⟨_, rfl, _, rfl, _, _, rfl, rfl, pw, _, _, rfl, rfl, _, rfl, ?_⟩
          refine ite2 (fun hge => ?_) (fun hge => ?_)
          · refine ⟨_, rfl, _, rfl, _, _, rfl, rfl, pw, _, _, rfl, rfl, _, rfl, _, _, rfl, rfl, hdiv, _, rfl, p, _, rfl, dput_left i1, ?_⟩
            refine ⟨_, rfl, _, rfl, _, _, rfl, rfl, pw, _, _, rfl, rfl, _, rfl, _, _, rfl, rfl, (by omega), ?_⟩
            refine k _ _ ⟨(hD _ sq).but.trans Wr.mk'.but, cs, u + 1, _, upd_same, ?_, by omega, by omega, hc⟩ (hle _).1 (hle _).2
            rw [upd_ne hpc]
            exact i2
          · refine ⟨_, rfl, .inl ⟨_, rfl, _, _, rfl, rfl, (show (4294967231 : Int) ≠ 0 by decide), _, _, rfl, rfl, ?_, _, rfl, _, _, rfl, rfl, ?_, _, rfl, _, _, rfl, rfl, ?_, _, _, rfl, rfl, ?_⟩⟩
            · have := fmod_bounds cell (m := 4294967231) (by decide)
              exact cmul200 (by omega) (by decide)
            · exact cmul200 (by decide) (by omega)
            · exact cmul200 (by omega) (by omega)
            dsimp only
            generalize cell.fmod 4294967231 * 1103515 + 30011 * u * u = b1
            refine ⟨_, rfl, _, rfl, _, _, rfl, rfl, ?_, _, _, rfl, rfl, _, _, rfl, rfl, .inl ⟨_, rfl, _, _, rfl, rfl, (by intro z; cases z), ?_⟩⟩
            · exact cmul200 (by decide) (by omega)
            obtain ⟨g1, g3⟩ := fmod_bounds (b1 + 178481 * u + 23) (m := 4294967197) (by decide)
            dsimp only
            generalize (b1 + 178481 * u + 23).fmod 4294967197 = b2 at g1 g3 ⊢
            refine ⟨_, rfl, _, rfl, _, _, rfl, rfl, ?_, _, rfl, _, _, rfl, rfl, ?_, _, _, rfl, rfl, _, rfl, _, _, rfl, rfl, ?_, _, _, rfl, rfl, _, _, rfl, rfl, .inl ⟨_, rfl, _, _, rfl, rfl, (by intro z; cases z), ?_⟩⟩
            · exact cmul200 (by omega) (by omega)
            · exact cmul200 (by decide) (by omega)
            · exact cmul200 (by decide) (by omega)
            obtain ⟨g4, g5⟩ := fmod_bounds (b2 * b2 + 16769023 * b2 + 5 * u + 7) (m := 4294967189) (by decide)
            dsimp only
            generalize (b2 * b2 + 16769023 * b2 + 5 * u + 7).fmod 4294967189 = b3 at g4 g5 ⊢
            refine ⟨_, rfl, _, rfl, _, _, rfl, rfl, _, _, rfl, rfl, ?_, .inl ⟨_, rfl, _, _, rfl, rfl, (by intro z; cases z), _, _, rfl, rfl, ?_, ?_⟩⟩
            · exact cmul200 (by omega) (by omega)
            · exact wide_div (by decide) (b := 30) (by decide) (by decide) (by decide)
            refine ⟨_, rfl, _, _, rfl, rfl, _, rfl, ?_⟩
            refine ite2 (fun hgt => absurd (of_decide_eq_true hgt) (by omega)) (fun _ => ?_)
            refine ⟨_, rfl, .inl ⟨_, rfl, _, rfl, _, _, rfl, rfl, (by omega), ?_⟩⟩
            exact k _ _ (hD _ sq) (hle _).1 (hle _).2
        · refine iteF ?_
          refine ⟨_, rfl, .inl ⟨_, rfl, _, _, rfl, rfl, (show (4294967231 : Int) ≠ 0 by decide), _, _, rfl, rfl, ?_, _, rfl, _, _, rfl, rfl, ?_, _, rfl, _, _, rfl, rfl, ?_, _, _, rfl, rfl, ?_⟩⟩
          · have := fmod_bounds cell (m := 4294967231) (by decide)
            exact cmul200 (by omega) (by decide)
          · exact cmul200 (by decide) (by omega)
          · exact cmul200 (by omega) (by omega)
          dsimp only
          generalize cell.fmod 4294967231 * 1103515 + 30011 * u * u = b1
          refine ⟨_, rfl, _, rfl, _, _, rfl, rfl, ?_, _, _, rfl, rfl, _, _, rfl, rfl, .inl ⟨_, rfl, _, _, rfl, rfl, (by intro z; cases z), ?_⟩⟩
          · exact cmul200 (by decide) (by omega)
          obtain ⟨g1, g3⟩ := fmod_bounds (b1 + 178481 * u + 23) (m := 4294967197) (by decide)
          dsimp only
          generalize (b1 + 178481 * u + 23).fmod 4294967197 = b2 at g1 g3 ⊢
          refine ⟨_, rfl, _, rfl, _, _, rfl, rfl, ?_, _, rfl, _, _, rfl, rfl, ?_, _, _, rfl, rfl, _, rfl, _, _, rfl, rfl, ?_, _, _, rfl, rfl, _, _, rfl, rfl, .inl ⟨_, rfl, _, _, rfl, rfl, (by intro z; cases z), ?_⟩⟩
          · exact cmul200 (by omega) (by omega)
          · exact cmul200 (by decide) (by omega)
          · exact cmul200 (by decide) (by omega)
          obtain ⟨g4, g5⟩ := fmod_bounds (b2 * b2 + 16769023 * b2 + 5 * u + 7) (m := 4294967189) (by decide)
          dsimp only
          generalize (b2 * b2 + 16769023 * b2 + 5 * u + 7).fmod 4294967189 = b3 at g4 g5 ⊢
          refine ⟨_, rfl, _, rfl, _, _, rfl, rfl, _, _, rfl, rfl, ?_, .inl ⟨_, rfl, _, _, rfl, rfl, (by intro z; cases z), _, _, rfl, rfl, ?_, ?_⟩⟩
          · exact cmul200 (by omega) (by omega)
          · exact wide_div (by decide) (b := 30) (by decide) (by decide) (by decide)
          refine ⟨_, rfl, _, _, rfl, rfl, _, rfl, ?_⟩
          refine ite2 (fun hgt => absurd (of_decide_eq_true hgt) (by omega)) (fun _ => ?_)
          refine ⟨_, rfl, .inl ⟨_, rfl, _, rfl, _, _, rfl, rfl, (by omega), ?_⟩⟩
          exact k _ _ (hD _ sq) (hle _).1 (hle _).2
      · dsimp only
        generalize 43 * u + 7 = cell
        revert cell
        intro cell
        have pw : CPow 10 18 := ⟨by decide, by decide, by decide⟩
        have last : ∀ (b : Int) (H3 : Hp), Same H1 H3 → True := fun _ _ _ => trivial
        refine ⟨_, rfl, _, rfl, p, _, rfl, dget_cells i1, c, _, rfl, .inl (SqL.of i2), _, _, rfl, rfl, _, rfl, ?_⟩
        refine ite2 (fun hlt => ?_) (fun hlt => ?_)
        · refine ⟨_, rfl, _, rfl, _, _, rfl, rfl, pw, _, _, rfl, rfl, _, rfl, ?_⟩
          refine ite2 (fun hge => ?_) (fun hge => ?_)
          · refine ⟨_, rfl, _, rfl, _, _, rfl, rfl, pw, _, _, rfl, rfl, _, rfl, _, _, rfl, rfl, hdiv, _, rfl, p, _, rfl, dput_left i1, ?_⟩
            refine ⟨_, rfl, _, rfl, _, _, rfl, rfl, pw, _, _, rfl, rfl, _, rfl, _, _, rfl, rfl, (by omega), ?_⟩
            refine k _ _ ⟨(hD _ sq).but.trans Wr.mk'.but, cs, u + 1, _, upd_same, ?_, by omega, by omega, hc⟩ (hle _).1 (hle _).2
            rw [upd_ne hpc]
            exact i2
          · refine ⟨_, rfl, .inl ⟨_, rfl, _, _, rfl, rfl, (show (4294967231 : Int) ≠ 0 by decide), _, _, rfl, rfl, ?_, _, rfl, _, _, rfl, rfl, ?_, _, rfl, _, _, rfl, rfl, ?_, _, _, rfl, rfl, ?_⟩⟩
            · have := fmod_bounds cell (m := 4294967231) (by decide)
              exact cmul200 (by omega) (by decide)
            · exact cmul200 (by decide) (by omega)
            · exact cmul200 (by omega) (by omega)
            dsimp only
            generalize cell.fmod 4294967231 * 1103515 + 30011 * u * u = b1
            refine ⟨_, rfl, _, rfl, _, _, rfl, rfl, ?_, _, _, rfl, rfl, _, _, rfl, rfl, .inl ⟨_, rfl, _, _, rfl, rfl, (by intro z; cases z), ?_⟩⟩
            · exact cmul200 (by decide) (by omega)
            obtain ⟨g1, g3⟩ := fmod_bounds (b1 + 178481 * u + 23) (m := 4294967197) (by decide)
            dsimp only
            generalize (b1 + 178481 * u + 23).fmod 4294967197 = b2 at g1 g3 ⊢
            refine ⟨_, rfl, _, rfl, _, _, rfl, rfl, ?_, _, rfl, _, _, rfl, rfl, ?_, _, _, rfl, rfl, _, rfl, _, _, rfl, rfl, ?_, _, _, rfl, rfl, _, _, rfl, rfl, .inl ⟨_, rfl, _, _, rfl, rfl, (by intro z; cases z), ?_⟩⟩
            · exact cmul200 (by omega) (by omega)
            · exact cmul200 (by decide) (by omega)
            · exact cmul200 (by decide) (by omega)
            obtain ⟨g4, g5⟩ := fmod_bounds (b2 * b2 + 16769023 * b2 + 5 * u + 7) (m := 4294967189) (by decide)
            dsimp only
            generalize (b2 * b2 + 16769023 * b2 + 5 * u + 7).fmod 4294967189 = b3 at g4 g5 ⊢
            refine ⟨_, rfl, _, rfl, _, _, rfl, rfl, _, _, rfl, rfl, ?_, .inl ⟨_, rfl, _, _, rfl, rfl, (by intro z; cases z), _, _, rfl, rfl, ?_, ?_⟩⟩
            · exact cmul200 (by omega) (by omega)
            · exact wide_div (by decide) (b := 30) (by decide) (by decide) (by decide)
            refine ⟨_, rfl, _, _, rfl, rfl, _, rfl, ?_⟩
            refine ite2 (fun hgt => absurd (of_decide_eq_true hgt) (by omega)) (fun _ => ?_)
            refine ⟨_, rfl, .inl ⟨_, rfl, _, rfl, _, _, rfl, rfl, (by omega), ?_⟩⟩
            exact k _ _ (hD _ sq) (hle _).1 (hle _).2
        · refine iteF ?_
          refine ⟨_, rfl, .inl ⟨_, rfl, _, _, rfl, rfl, (show (4294967231 : Int) ≠ 0 by decide), _, _, rfl, rfl, ?_, _, rfl, _, _, rfl, rfl, ?_, _, rfl, _, _, rfl, rfl, ?_, _, _, rfl, rfl, ?_⟩⟩
          · have := fmod_bounds cell (m := 4294967231) (by decide)
            exact cmul200 (by omega) (by decide)
          · exact cmul200 (by decide) (by omega)
          · exact cmul200 (by omega) (by omega)
          dsimp only
          generalize cell.fmod 4294967231 * 1103515 + 30011 * u * u = b1
          refine ⟨_, rfl, _, rfl, _, _, rfl, rfl, ?_, _, _, rfl, rfl, _, _, rfl, rfl, .inl ⟨_, rfl, _, _, rfl, rfl, (by intro z; cases z), ?_⟩⟩
          · exact cmul200 (by decide) (by omega)
          obtain ⟨g1, g3⟩ := fmod_bounds (b1 + 178481 * u + 23) (m := 4294967197) (by decide)
          dsimp only
          generalize (b1 + 178481 * u + 23).fmod 4294967197 = b2 at g1 g3 ⊢
          refine ⟨_, rfl, _, rfl, _, _, rfl, rfl, ?_, _, rfl, _, _, rfl, rfl, ?_, _, _, rfl, rfl, _, rfl, _, _, rfl, rfl, ?_, _, _, rfl, rfl, _, _, rfl, rfl, .inl ⟨_, rfl, _, _, rfl, rfl, (by intro z; cases z), ?_⟩⟩
          · exact cmul200 (by omega) (by omega)
          · exact cmul200 (by decide) (by omega)
          · exact cmul200 (by decide) (by omega)
          obtain ⟨g4, g5⟩ := fmod_bounds (b2 * b2 + 16769023 * b2 + 5 * u + 7) (m := 4294967189) (by decide)
          dsimp only
          generalize (b2 * b2 + 16769023 * b2 + 5 * u + 7).fmod 4294967189 = b3 at g4 g5 ⊢
          refine ⟨_, rfl, _, rfl, _, _, rfl, rfl, _, _, rfl, rfl, ?_, .inl ⟨_, rfl, _, _, rfl, rfl, (by intro z; cases z), _, _, rfl, rfl, ?_, ?_⟩⟩
          · exact cmul200 (by omega) (by omega)
          · exact wide_div (by decide) (b := 30) (by decide) (by decide) (by decide)
          refine ⟨_, rfl, _, _, rfl, rfl, _, rfl, ?_⟩
          refine ite2 (fun hgt => absurd (of_decide_eq_true hgt) (by omega)) (fun _ => ?_)
          refine ⟨_, rfl, .inl ⟨_, rfl, _, rfl, _, _, rfl, rfl, (by omega), ?_⟩⟩
          exact k _ _ (hD _ sq) (hle _).1 (hle _).2
end
end My
end
section
set_option Elab.async false
set_option linter.all false
set_option maxRecDepth 100000
set_option maxHeartbeats 2000000
namespace My
open PySem PySem.Spec PyProof.Rows L2
abbrev s_isSign : Stmt := topS 18
abbrev s_isSet : Stmt := topS 19
section
variable {P : Program} {w : World} {K : PySem.W.Frag} {mg : Str → Option Value} {base : Heap}
theorem sc_isSign : FnScope ["signs", "value"] ["signs", "value"] (defScope s_isSign) := ⟨rfl, rfl, rfl, by decide +kernel, rfl, by decide +kernel, by decide +kernel⟩
theorem ok_isSign {f : Addr} {fd : FuncData} (F : Fun K "is_sign" "is_sign" s_isSign f fd) (T : TB mg) : FnOk P w K mg base CX0 1 f fd ["signs", "value"] (sp_isSign K) := by
  refine F.ok sc_isSign (fun vs H Q E h => ?_) (fun cdv A outer s H vs Q E hr h => ?_)
  · obtain ⟨S, v, d, p, rfl, _⟩ := h
    rfl
  · obtain ⟨S, v, d, p, rfl, hd, hz, k⟩ := h
    refine ⟨_, pss_one (ps_ret (pe_and (pe_callB call_isi (by rfl) T.isi (by decide +kernel) (pa_cons (pv 1) (pa_cons (pe_bltn (v := .ty "str") (by rfl) T.str (by decide +kernel) rfl) pa_nil)))
      (pe_and (pe_cmpR op_eq (pe_callB call_len (by rfl) T.len PySem.boot_len (pa_cons (pv 1) pa_nil)) pe_int (nomark _)) (pe_one (pe_cmpR op_in_sign (pv 1) (pv 0) (by rfl)))))), ?_⟩
    refine ⟨_, rfl, _, _, _, _, _, rfl, .ty "str", hd.ty, kit_str d, _, rfl, ?_⟩
    cases d with
    | str z =>
      cases hd
      refine iteT ⟨_, rfl, _, z.length, rfl, ⟨hz, rfl⟩, rfl, _, rfl, ?_⟩
      refine ite2 (fun h1 => ?_) (fun h1 => ?_)
      · have h1 : z.length = 1 := by
          have := of_decide_eq_true h1
          injection this with e
          omega
        obtain ⟨c, rfl⟩ := one_sign h1
        refine ⟨_, rfl, _, rfl, c, S, rfl, rfl, ?_⟩
        have e : signD S (.str ⟨#[c]⟩) = decide (c ∈ S.cps.toList) := by
          rw [signD_str, h1]
          simp
        rw [e] at k
        exact k
      · have h2 : z.length ≠ 1 := fun e => h1 (by rw [e]; rfl)
        have e : signD S (.str z) = false := by
          rw [signD_str, decide_eq_false h2, Bool.false_and]
        rw [e] at k
        exact k
    | _ => exact iteF k
theorem sc_isSet : FnScope ["signs", "value", "sign"] ["signs", "value"] (defScope s_isSet) := ⟨rfl, rfl, rfl, by decide +kernel, rfl, by decide +kernel, by decide +kernel⟩
theorem ok_isSet {f : Addr} {fd : FuncData} (F : Fun K "is_set" "is_set" s_isSet f fd) (T : TB mg) : FnOk P w K mg base CX0 1 f fd ["signs", "value"] (sp_isSet K) := by
  refine F.ok sc_isSet (fun vs H Q E h => ?_) (fun cdv A outer s H vs Q E hr h => ?_)
  · obtain ⟨S, v, d, p, rfl, _⟩ := h
    rfl
  · obtain ⟨S, v, d, p, rfl, hd, hz, k⟩ := h
    refine ⟨_, pss_one (ps_ret (pe_and (pe_callB call_isi (by rfl) T.isi (by decide +kernel) (pa_cons (pv 1) (pa_cons (pe_bltn (v := .ty "str") (by rfl) T.str (by decide +kernel) rfl) pa_nil)))
      (pe_and (pe_cmpR op_eq (pe_lenSet (by rfl) T.len (by rfl) T.set (pv 1)) (pe_callB call_len (by rfl) T.len PySem.boot_len (pa_cons (pv 1) pa_nil)) (nomark _))
      (pe_one (pe_callB (cr_all rfl) (by rfl) T.all (by decide +kernel) (pa_cons (pe_lc (own := [("sign", 2)]) (g := gName 2) (tt := tYes) rfl sc_isSet.nd (pi_str (pv 1)) (blkOk_by (own := [("sign", 2)]) (N := ["signs", "value", "sign"]) (sc := defScope s_isSet) (by decide +kernel))
        (fun _ _ _ _ _ => pg_name (i := 2) sc_isSet.nd rfl (Or.inl rfl)) (fun _ _ _ _ _ => pts_nil) (fun _ _ _ _ _ => pe_cmpR op_in_sign (pv 2) (pv 0) (by rfl))) pa_nil)))))), ?_⟩
    refine ⟨_, rfl, _, _, _, _, _, rfl, .ty "str", hd.ty, kit_str d, _, rfl, ?_⟩
    cases d with
    | str z =>
      cases hd
      have hz : z.length ≤ 4000 := hz
      refine iteT ⟨_, rfl, z, rfl, hz, _, rfl, _, z.length, rfl, ⟨Nat.le_trans hz (by decide), rfl⟩, rfl, _, rfl, ?_⟩
      have ol := once_eq z.cps.toList
      have zl : z.cps.toList.length = z.length := Array.length_toList
      rw [zl] at ol
      refine ite2 (fun h1 => ?_) (fun h1 => ?_)
      · have h1 : z.cps.toList.Nodup := by
          have := of_decide_eq_true h1
          injection this with e
          exact ol.mp (by omega)
        refine ⟨_, rfl, z, rfl, fun D hD => lc_ff walk_signs (fun _ => true) (fun x => match x with | .str y => .bl (y.cps.toList.all fun c => decide (c ∈ S.cps.toList)) | _ => .non) hD (fun _ _ => trivial) (by rw [signs_len]; exact Nat.lt_of_le_of_lt hz (by decide)) (fun x => rfl) (fun x H' C _ _ h => h _ (Same.refl _)) ?_ ?_⟩
        · intro x H' C hx _ _ hC
          obtain ⟨c, _, rfl⟩ := mem_signs hx
          refine ⟨_, rfl, _, rfl, c, S, rfl, rfl, ?_⟩
          have := hC H' (Same.refl _)
          simpa using this
        · intro H' sm hl
          refine ⟨D, z.cps.toList.map fun c => decide (c ∈ S.cps.toList), rfl, SqL.of ?_, ?_⟩
          · rw [hl, pv_filter_true]
            simp [signs]
          · have e : setD S (.str z) = (z.cps.toList.map fun c => decide (c ∈ S.cps.toList)).all id := by
              rw [setD_str, decide_eq_true h1, Bool.true_and, List.all_map]
              rfl
            rw [← e]
            exact k H' sm
      · have h2 : ¬ z.cps.toList.Nodup := fun n => h1 (by rw [ol.mpr n]; simp)
        have e : setD S (.str z) = false := by
          rw [setD_str, decide_eq_false h2, Bool.false_and]
        rw [e] at k
        exact k H (Same.refl H)
    | _ => exact iteF (k H (Same.refl H))
abbrev s_isFont : Stmt := topS 17
theorem sc_isFont : FnScope ["value"] ["value"] (defScope s_isFont) := ⟨rfl, rfl, rfl, by decide +kernel, rfl, by decide +kernel, by decide +kernel⟩
theorem ok_isFont {f fS C : Addr} {fd fdS : FuncData} (F : Fun K "is_font_signs" "is_font_signs" s_isFont f fd) (T : TB mg) (D : Def K mg "is_set" fS fdS ["signs", "value"]) (G : FnOk P w K mg base CX0 1 fS fdS ["signs", "value"] (sp_isSet K))
    (gF : mg "Font" = some (.ref C)) (cM : ClassV K C "MAX_SIGNS" (.int 10)) {tA : Tok} (gA : mg "ALPHABET" = some (.str alphabet tA)) : FnOk P w K mg base CX0 2 f fd ["value"] (sp_isFont K) := by
  refine F.ok sc_isFont (fun vs H Q E h => ?_) (fun cdv A outer s H vs Q E hr h => ?_)
  · obtain ⟨v, d, p, rfl, _⟩ := h
    rfl
  · obtain ⟨v, d, p, rfl, hd, hz, k⟩ := h
    obtain ⟨mc, u, c1, c2⟩ := cM.ok
    refine ⟨_, pss_one (ps_ret (pe_and (pe_callB call_isi (by rfl) T.isi (by decide +kernel) (pa_cons (pv 0) (pa_cons (pe_bltn (v := .ty "str") (by rfl) T.str (by decide +kernel) rfl) pa_nil)))
      (pe_and (pe_chain op_le op_le pe_int (pe_callB call_len (by rfl) T.len PySem.boot_len (pa_cons (pv 0) pa_nil)) (ClX.pe_cval (pe_glob (v := .ref C) rfl gF rfl)))
      (pe_one (pe_call G hr rfl D.mgf D.kp D.bd .nil pass0 (pa_cons (pe_glob (v := .str alphabet) rfl gA ⟨_, rfl⟩) (pa_cons (pv 0) pa_nil))))))), ?_⟩
    refine ⟨_, rfl, _, _, _, _, _, rfl, .ty "str", hd.ty, kit_str d, _, rfl, ?_⟩
    cases d with
    | str z =>
      cases hd
      have hz : z.length ≤ 4000 := hz
      refine iteT ⟨_, rfl, _, z.length, rfl, ⟨Nat.le_trans hz (by decide), rfl⟩, _, _, rfl, rfl, _, rfl, ?_⟩
      refine ite2 (fun h1 => ?_) (fun h1 => ?_)
      · refine ⟨C, mc, _, u, rfl, c1, c2, _, _, rfl, rfl, _, rfl, ?_⟩
        refine ite2 (fun h2 => ?_) (fun h2 => ?_)
        · refine ⟨_, rfl, alphabet, _, _, p, rfl, Rp.str _ z, hz, fun H' sm => ?_⟩
          have e : fontD (.str z) = setD alphabet (.str z) := by
            rw [fontD_str, decide_eq_true (p := 2 ≤ z.length ∧ z.length ≤ 10) ⟨by have := of_decide_eq_true h1; omega, by have := of_decide_eq_true h2; omega⟩, Bool.true_and]
          rw [e] at k
          exact k H' sm
        · have e : fontD (.str z) = false := by
            rw [fontD_str, decide_eq_false (p := 2 ≤ z.length ∧ z.length ≤ 10) (fun q => h2 (decide_eq_true (by omega))), Bool.false_and]
          rw [e] at k
          exact k H (Same.refl H)
      · have e : fontD (.str z) = false := by
          rw [fontD_str, decide_eq_false (p := 2 ≤ z.length ∧ z.length ≤ 10) (fun q => h1 (decide_eq_true (by omega))), Bool.false_and]
        rw [e] at k
        exact ⟨_, rfl, iteF (k H (Same.refl H))⟩
    | _ => exact iteF (k H (Same.refl H))
abbrev s_isListed : Stmt := topS 2
theorem sc_isListed : FnScope ["value"] ["value"] (defScope s_isListed) := ⟨rfl, rfl, rfl, by decide +kernel, rfl, by decide +kernel, by decide +kernel⟩
theorem ok_isListed {f : Addr} {fd : FuncData} (F : Fun K "is_listed" "is_listed" s_isListed f fd) (T : TB mg) : FnOk P w K mg base CX0 1 f fd ["value"] (sp_isListed K) := by
  refine F.ok sc_isListed (fun vs H Q E h => ?_) (fun cdv A outer s H vs Q E hr h => ?_)
  · obtain ⟨v, d, p, rfl, _⟩ := h
    rfl
  · obtain ⟨v, d, p, rfl, hd, k⟩ := h
    refine ⟨_, pss_one (ps_ret (pe_callB call_isiT (by rfl) T.isi (by decide +kernel) (pa_cons (pv 0) (pa_cons (pe_tup' (pa_cons (pe_bltn (v := .ty "list") (by rfl) T.list (by decide +kernel) rfl) (pa_cons (pe_bltn (v := .ty "tuple") (by rfl) T.tuple (by decide +kernel) rfl) pa_nil))) pa_nil)))), ?_⟩
    refine ⟨_, rfl, by decide, fun q H1 n1 => ⟨_, q, _, _, _, _, rfl, n1.here, .cons (.ty "list") (.cons (.ty "tuple") .nil), (hd.but (.of n1.same) : Rp K p H1 false v d).ty, kit_seq d, k H1 n1.same⟩⟩
abbrev s_isPair : Stmt := topS 22
theorem sc_isPair : FnScope ["signs", "value", "sign"] ["signs", "value"] (defScope s_isPair) := ⟨rfl, rfl, rfl, by decide +kernel, rfl, by decide +kernel, by decide +kernel⟩
theorem ok_isPair {f fS : Addr} {fd fdS : FuncData} (F : Fun K "_is_pair" "_is_pair" s_isPair f fd) (T : TB mg) (D : Def K mg "is_sign" fS fdS ["signs", "value"]) (G : FnOk P w K mg base CX0 1 fS fdS ["signs", "value"] (sp_isSign K)) : FnOk P w K mg base CX0 2 f fd ["signs", "value"] (sp_isPair K) := by
  refine F.ok sc_isPair (fun vs H Q E h => ?_) (fun cdv A outer s H vs Q E hr h => ?_)
  · obtain ⟨S, v, d, p, rfl, _⟩ := h
    rfl
  · obtain ⟨S, v, d, p, rfl, hd, hf, k⟩ := h
    refine ⟨_, pss_one (ps_ret (pe_and (pe_callB call_isi (by rfl) T.isi (by decide +kernel) (pa_cons (pv 1) (pa_cons (pe_bltn (v := .ty "tuple") (by rfl) T.tuple (by decide +kernel) rfl) pa_nil)))
      (pe_and (pe_cmpR op_eq (pe_callB call_len_seq (by rfl) T.len PySem.boot_len (pa_cons (pv 1) pa_nil)) pe_int (nomark _))
      (pe_one (pe_callB (cr_all rfl) (by rfl) T.all (by decide +kernel) (pa_cons (pe_lc (own := [("sign", 2)]) (g := gName 2) (tt := tYes) rfl sc_isPair.nd (pi_tup (pv 1)) (blkOk_by (own := [("sign", 2)]) (N := ["signs", "value", "sign"]) (sc := defScope s_isPair) (by decide +kernel))
        (fun _ _ _ _ _ => pg_name (i := 2) sc_isPair.nd rfl (Or.inl rfl)) (fun _ _ _ _ _ => pts_nil) (fun _ _ _ _ _ => pe_call G hr rfl D.mgf D.kp D.bd .nil pass0 (pa_cons (pv 0) (pa_cons (pv 2) pa_nil)))) pa_nil)))))), ?_⟩
    refine ⟨_, rfl, _, _, _, _, _, rfl, .ty "tuple", hd.ty, kit_tup d, _, rfl, ?_⟩
    cases d with
    | tuple ds =>
      obtain ⟨a, xs, st2, rfl, ha, hr2⟩ := hd.tupS
      · simp only [fit, Bool.and_eq_true, decide_eq_true_eq] at hf
        have hlen := hr2.len
        refine iteT ⟨_, rfl, a, xs, rfl, .inr (ha), rfl, _, rfl, ?_⟩
        refine ite2 (fun h1 => ?_) (fun h1 => ?_)
        · have h2 : xs.length = 2 := by
            have := of_decide_eq_true h1
            injection this with e
            omega
          refine ⟨_, rfl, a, rfl, ⟨_, ha⟩, fun D hD => lc_pair walk_tup ds hlen.symm (fun _ => true) (fun d y _ => y = .bl (signD S d)) (fun _ _ _ _ _ _ h => h) hD (fun H' sm => sm.tupl (ha)) (by rw [h2]; decide) (fun x => rfl) (fun _ _ _ H' C _ _ _ h => h H' (Same.refl _)) ?_ ?_⟩
          · intro j x d' H' C hx hd' _ sm hC
            exact ⟨_, rfl, _, rfl, S, x, d', p, rfl, (hr2.at hx hd').loose2.but (.of sm), (fit.text (fitAll.at hf.2 hd')).more (by decide), hC H' _ (Same.refl _) rfl⟩
          · intro H' ys sm hD' hP
            refine ⟨D, ds.map (signD S), rfl, SqL.of ?_, ?_⟩
            · rw [pv_filter_true] at hP
              rw [hD', paired_eq hP, List.map_map]
              rfl
            · have e : (pairOf S (.tuple ds)).isSome = (ds.map (signD S)).all id := by
                match ds, (show ds.length = 2 by omega) with
                | [x, y], _ => rw [pairOf_two]; simp
              rw [← e]
              exact k H' sm
        · have h2 : ds.length ≠ 2 := fun e => h1 (by rw [hlen, e]; rfl)
          rw [pairOf_len S h2] at k
          exact k H (Same.refl H)
    | _ => exact iteF (k H (Same.refl H))
end
end My
end
section
set_option Elab.async false
set_option linter.all false
set_option maxRecDepth 100000
set_option maxHeartbeats 4000000
namespace My
open PySem PySem.Spec PyProof.Rows L2
/-- heads of turns: each put both ways -/
def headsAll (ps : List (Nat × Nat)) : List (Nat × Nat) := ps.foldl (fun h e => putN (putN h e.1 e.2) e.2 e.1) []
theorem headsAll_snoc (ps : List (Nat × Nat)) (e : Nat × Nat) : headsAll (ps ++ [e]) = putN (putN (headsAll ps) e.1 e.2) e.2 e.1 := by
  unfold headsAll
  rw [List.foldl_append]
  rfl
theorem headsAll_in {S : List Nat} (ps : List (Nat × Nat)) (h : ∀ e ∈ ps, e.1 ∈ S ∧ e.2 ∈ S) : ∀ c b, headOf (headsAll ps) c = some b → b ∈ S := by
  have aux : ∀ (ps h0 : List (Nat × Nat)), (∀ e ∈ ps, e.1 ∈ S ∧ e.2 ∈ S) → (∀ c b, headOf h0 c = some b → b ∈ S) → ∀ c b, headOf (ps.foldl (fun h e => putN (putN h e.1 e.2) e.2 e.1) h0) c = some b → b ∈ S := by
    intro ps
    induction ps with
    | nil => intro h0 _ i c b q; exact i c b q
    | cons e ps ih =>
      intro h0 m i c b q
      refine ih _ (fun x hx => m x (List.mem_cons_of_mem _ hx)) ?_ c b q
      intro c b hcb
      rw [headOf_putN, headOf_putN] at hcb
      have me := m e List.mem_cons_self
      split at hcb
      · exact Option.some.inj hcb ▸ me.1
      · split at hcb
        · exact Option.some.inj hcb ▸ me.2
        · exact i c b hcb
  exact aux ps [] h (fun c b e => by cases e)
theorem headsAll_le (ps : List (Nat × Nat)) : (headsAll ps).length ≤ 2 * ps.length := by
  have aux : ∀ (ps h0 : List (Nat × Nat)), (ps.foldl (fun h e => putN (putN h e.1 e.2) e.2 e.1) h0).length ≤ h0.length + 2 * ps.length := by
    intro ps
    induction ps with
    | nil => intro h0; exact Nat.le_refl _
    | cons e ps ih =>
      intro h0
      refine Nat.le_trans (ih _) ?_
      have l1 := putN_length h0 e.1 e.2
      have l2 := putN_length (putN h0 e.1 e.2) e.2 e.1
      rw [List.length_cons]
      dsimp only
      omega
  have := aux ps []
  simpa [headsAll] using this
def sp_heads (K : PySem.W.Frag) : Sp := fun vs H Q _ => ∃ (a : Addr) (ys : List V) (ps : List (Nat × Nat)), vs = [.ref a] ∧ SqL K H a ys ∧ PairsAt H ps ys ∧ ps.length ≤ 4000 ∧ ∀ H' r, Same H H' → H r = none → H' r = some (.dK (toK (headsAll ps))) → Q (.ref r) H'
abbrev s_heads : Stmt := topS 30
section
variable {P : Program} {w : World} {K : PySem.W.Frag} {mg : Str → Option Value} {base : Heap}
theorem sc_heads : FnScope ["_law_turns", "_law_found", "_law_one", "_law_other"] ["_law_turns"] (defScope s_heads) := ⟨rfl, rfl, rfl, by decide +kernel, rfl, by decide +kernel, by decide +kernel⟩
theorem ok_heads {f : Addr} {fd : FuncData} (F : Fun K "_law_heads" "_law_heads" s_heads f fd) : FnOk P w K mg base CX0 1 f fd ["_law_turns"] (sp_heads K) := by
  refine F.ok sc_heads (fun vs H Q E h => ?_) (fun cdv A outer s H vs Q E hr h => ?_)
  · obtain ⟨a, ys, ps, rfl, _⟩ := h
    rfl
  · obtain ⟨a, ys, ps, rfl, hS, hP, hl, k⟩ := h
    have hu := hu_of hr
    refine ⟨_, pss_cons (ps_set (i := 1) sc_heads.nd rfl (Or.inl rfl) pe_dnew')
      (pss_cons (ps_for PassesOwn.never rfl (pi_list (pv 0)) (pg_tup rfl (pgs_cons (pg_name (i := 2) sc_heads.nd rfl (Or.inl rfl)) (pgs_cons (pg_name (i := 3) sc_heads.nd rfl (Or.inl rfl)) pgs_nil)))
        (pss_cons (ps_dput hu (pv 1) (pv 2) (pv 3) rfl)
        (pss_one (ps_dput hu (pv 1) (pv 3) (pv 2) rfl))))
      (pss_one (ps_ret (pv 1)))), ?_⟩
    intro p H1 n1
    have hpl := hP.length
    refine ⟨_, rfl, a, rfl, ⟨ys, n1.same.seq hS⟩, ?_⟩
    have sm : ∀ i σ H', (∃ o1 o2 : Option V, σ = [some (.ref a), some (.ref p), o1, o2] ∧ Same H H' ∧ H' p = some (.dK (toK (headsAll (ps.take i))))) → SqL K H' a ys := fun i σ H' q => by
      obtain ⟨_, _, _, s, _⟩ := q
      exact s.seq hS
    refine for_list (K := K) (a := a) (xs := ys) (fun i σ H' => ∃ o1 o2 : Option V, σ = [some (.ref a), some (.ref p), o1, o2] ∧ Same H H' ∧ H' p = some (.dK (toK (headsAll (ps.take i)))))
      ⟨none, none, rfl, n1.same, n1.here⟩ (fun i σ H' _ q => sm i σ H' q) ?_ ?_
    · rintro i x σ H2 hx ⟨o1, o2, rfl, s2, h2⟩
      obtain ⟨⟨x1, x2⟩, he, q, rfl, hq⟩ := Paired.at hP hx
      have hil : i < ps.length := (List.getElem?_eq_some_iff.mp he).1
      have nx : headsAll (ps.take (i + 1)) = putN (putN (headsAll (ps.take i)) x1 x2) x2 x1 := by
        rw [List.take_add_one, he]
        exact headsAll_snoc _ _
      have ll := headsAll_le (ps.take i)
      rw [List.length_take] at ll
      have l1 := putN_length (headsAll (ps.take i)) x1 x2
      have hq2 := s2 _ _ hq
      refine ⟨q, _, rfl, SqT.of hq2, rfl, _, _, rfl, _, _, rfl, rfl, ?_⟩
      refine ⟨_, rfl, _, rfl, _, rfl, p, _, rfl, dput_toK x1 x2 h2 (Nat.lt_of_le_of_lt (show (headsAll (ps.take i)).length ≤ 9000 by omega) (by decide)), ?_⟩
      have w3 : Wr H2 p (.dK (toK (putN (headsAll (ps.take i)) x1 x2))) (upd H2 p (.dK (toK (putN (headsAll (ps.take i)) x1 x2)))) := .mk'
      generalize upd H2 p (HO.dK (toK (putN (headsAll (ps.take i)) x1 x2))) = H3 at w3 ⊢
      refine ⟨_, rfl, _, rfl, _, rfl, p, _, rfl, dput_toK x2 x1 w3.here (Nat.lt_of_le_of_lt (show (putN (headsAll (ps.take i)) x1 x2).length ≤ 9000 by omega) (by decide)), ?_⟩
      refine ⟨_, _, rfl, Same.wr (Same.wr s2 n1.free w3) n1.free .mk', ?_⟩
      rw [upd_same, nx]
    · rintro σ H2 ⟨o1, o2, rfl, s2, h2⟩
      rw [← hpl, List.take_length] at h2
      exact ⟨_, rfl, k _ _ s2 n1.free h2⟩
end
end My
end
section
set_option Elab.async false
set_option linter.all false
set_option maxRecDepth 100000
set_option maxHeartbeats 4000000
namespace My
open PySem PySem.Spec PyProof.Rows L2
/-! ### a pair turned round: t[::-1] -/
section
variable {prog : Program} {w : World} {A : Around} {E : Value → Shared → Prop} {s : Shared}
theorem applied2 {sl : Addr} {vl vu vs : Value} {Q : Int × Int × Nat → Shared → Prop} (hs : s.heap.IsSliceOf sl vl vu vs) (pl : IsPart vl none) (pu : IsPart vu none) (ps : IsPart vs (some (-1)))
    (h : Q ((1 : Int), -1, 2) s) : wpAny (model prog w) A (Builtin.Slice.sliceApplied (.ref sl) (pure (2 : Int))) Q E s := by
  obtain ⟨os, hos, hcs, hds⟩ := id hs
  unfold Builtin.Slice.sliceApplied Builtin.Slice.sliceFields
  refine wpAny_bind (wpAny_bind (wpAny_field hos hds (x := vl) rfl (wpAny_bind (wpAny_field hos hds (x := vu) rfl
    (wpAny_bind (wpAny_field hos hds (x := vs) rfl (wpAny_pure ?_)))))))
  refine wpAny_bind (HT.slicePart_ ps ?_)
  show wpAny _ _ (if ((-1 : Int) == 0) = true then _ else _) _ _ s
  rw [if_neg (by decide)]
  refine wpAny_bind (HT.slicePart_ pl (wpAny_bind (HT.slicePart_ pu (wpAny_bind (wpAny_pure ?_)))))
  exact wpAny_pure h
theorem get_turned {t sl : Addr} {u v vl vu vs : Value} {Q : Value → Shared → Prop} (ht : IsTup s.heap t #[u, v]) (hs : s.heap.IsSliceOf sl vl vu vs) (pl : IsPart vl none) (pu : IsPart vu none) (ps : IsPart vs (some (-1)))
    (h : Q (.ref s.heap.objs.size) { s with heap := s.heap.push { cls := .type "tuple", data := .seq #[v, u] } }) : wpAny (model prog w) A (getItem (.ref t) (.ref sl)) Q E s := by
  have fits : sizeOk (.seq #[v, u]) := by
    show 2 ≤ sizeLine
    rw [sizeLine_eq]
    decide
  obtain ⟨os, hos, hcs, hds⟩ := id hs
  have isS : s.TypeIs (.ref sl) "slice" := ⟨os, hos, hcs⟩
  unfold getItem
  try with_reducible refine wpAny_holding ?_
  first
    | refine wpAny_bind (wpAny_pure ?_)
    | skip
  refine wpAny_bind (wpAny_sequenceKey ht.typeIs (by decide) ?_)
  refine wpAny_bind (wpAny_callSpecial?_slot (name := Str.ofString "__getitem__") ht.typeIs PyProof.Rows.slot_tuple_getitem
    (wpAny_call_entry PyProof.Rows.slot_tuple_getitem ht.typeIs entry_tuple_getitem ?_ (args_tuple_getitem _ _)))
  show wpAny _ _ (Builtin.Tuple.tupleItemsOf (.ref t) >>= _) _ _ s
  refine wpAny_bind (tupleItemsOf_ ht ?_)
  refine wpAny_bind (wpAny_typeOf isS ?_)
  rw [if_pos (by decide)]
  refine wpAny_bind (applied2 hs pl pu ps ?_)
  show wpAny _ _ (if ((1 : Int) == 0 && (-1 : Int) == 1 && (2 : Nat) == 2) = true then _ else _) _ _ s
  rw [if_neg (by decide)]
  first
    | exact wpAny_bind (m := Builtin.Tuple.tupleExact _) (wpAny_newObj_type (wpAny_pure ⟨_, rfl, wpAny_pure h⟩) fits)
    | exact wpAny_bind (wpAny_bind (m := Builtin.Tuple.tupleExact _) (wpAny_newObj_type (wpAny_pure (wpAny_pure ⟨_, rfl, wpAny_pure h⟩)) fits))
    | exact wpAny_bind (wpAny_bind (m := Builtin.Tuple.tupleExact _) (wpAny_newObj_type (wpAny_pure ⟨_, rfl, wpAny_pure h⟩) fits))
end
/-- t[::-1], t a pair -/
def tTurn (K : PySem.W.Frag) (te : TE) : TE := fun σ H Q => te σ H fun x H1 => ∃ a x1 x2, x = .ref a ∧ SqT K H1 a [x1, x2] ∧ ∀ p H2, New H1 p (.tup [x2, x1]) H2 → Q (.ref p) H2
theorem pe_turn {X : Cx} {e : Expr} {te : TE} {k : Nat} {p1 p2 p3 pos : Pos} (he : PE X e te) : PE X (.Subscript e (.Slice none none (some (.UnaryOp .USub (.Constant (.int 1) k p1) p2)) p3) pos) (tTurn X.K te) := by
  refine ⟨fun pins s σ H Q I h => ?_⟩
  refine Subscript_ (thn (he.run pins s σ H _ I h) fun v s1 ⟨x, H1, I1, r1, q1⟩ => ?_)
  obtain ⟨a, x1, x2, ex, hx, q⟩ := q1
  subst ex
  cases r1
  have step : PO X (some (.UnaryOp .USub (.Constant (.int 1) k p1) p2)) (tPart (tUn (rU fun i => .int (-i)) (tC (.int 1)))) := po_some (pe_un un_neg pe_int)
  refine wpAny_Slice (thn (po_none.run pins s1 σ H1 (fun o H2 => o = none ∧ H2 = H1) I1 ⟨rfl, rfl⟩) fun vl s2 ⟨l, H2, I2, pl, el, e2⟩ => ?_)
  subst el e2
  refine thn (po_none.run pins s2 σ H2 (fun o H3 => o = none ∧ H3 = H2) I2 ⟨rfl, rfl⟩) fun vu s3 ⟨u, H3, I3, pu, eu, e3⟩ => ?_
  subst eu e3
  refine thn (step.run pins s3 σ H3 (fun o H4 => o = some (-1) ∧ H4 = H3) I3 ⟨1, rfl, -1, rfl, rfl, rfl⟩) fun vs s4 ⟨o, H4, I4, ps, eo, e4⟩ => ?_
  subst eo e4
  have I5 : Inv X pins σ H4 { s4 with heap := s4.heap.push { cls := .type "slice", data := .fields #[vl, vu, vs] } } := I4.kept (t' := s4.toks) fun b ob q => Heap.get?_push_of_some _ q
  obtain ⟨its, r, ht, hz⟩ := I5.tuple hx
  cases r with
  | cons r1 r2 =>
    cases r2 with
    | cons r3 r4 =>
      cases r4
      show wpAny (model X.prog X.w) X.A (subscriptTail e (.Slice none none (some (.UnaryOp .USub (.Constant (.int 1) k p1) p2)) p3) (.ref a) (.ref s4.heap.objs.size)) (EP X pins σ Q) X.xe { s4 with heap := s4.heap.push { cls := .type "slice", data := .fields #[vl, vu, vs] } }
      refine tail_any (ops := [.ref a, .ref s4.heap.objs.size]) (show Shared.TypeIs _ (.ref a) "tuple" from ht.typeIs) PyProof.Rows.slot_tuple_getitem.lookup ?_ (by with_unfolding_all rfl)
      refine get_turned ht (Heap.IsSliceOf.new _ vl vu vs) pl pu ps ?_
      refine ⟨.ref _, _, I5.laid (t' := s4.toks) (o := .tup [x2, x1]) (fun b ob q => Heap.get?_push_of_some _ q) (Nat.le_refl _) ?_, rfl, q _ _ (.mk' (I5.hok.fresh (Nat.le_refl _)))⟩
      exact ⟨by show 2 ≤ sizeLine; decide, _, .cons r3 (.cons r1 .nil), IsTup.new _ _⟩
end My
end
section
set_option Elab.async false
set_option linter.all false
set_option maxRecDepth 100000
set_option maxHeartbeats 2000000
namespace My
open PySem PySem.Spec PyProof.Rows L2
abbrev s_pick : Stmt := topS 26
abbrev s_shuf : Stmt := topS 27
section
variable {P : Program} {w : World} {K : PySem.W.Frag} {mg : Str → Option Value} {base : Heap}
theorem sc_pick : FnScope ["_law_pen_here", "_law_options"] ["_law_pen_here", "_law_options"] (defScope s_pick) := ⟨rfl, rfl, rfl, by decide +kernel, rfl, by decide +kernel, by decide +kernel⟩
theorem ok_pick {f fD : Addr} {fd fdD : FuncData} (F : Fun K "_law_pick" "_law_pick" s_pick f fd) (T : TDraw mg) (D : Def K mg "_law_draw" fD fdD ["_law_pen_here", "_law_many"]) (G : FnOk P w K mg base CX0 1 fD fdD ["_law_pen_here", "_law_many"] sp_draw) :
    FnOk P w K mg base CX0 2 f fd ["_law_pen_here", "_law_options"] (sp_pick K) := by
  refine F.ok sc_pick (fun vs H Q E h => ?_) (fun cdv A outer s H vs Q E hr h => ?_)
  · obtain ⟨p, c, a, xs, n, rfl, _⟩ := h
    rfl
  · obtain ⟨p, c, a, xs, n, rfl, hP, hn, hS, hap, h0, h1, k⟩ := h
    refine ⟨_, pss_one (ps_ret (pe_ix ix_list (pv 1) (pe_call G hr rfl D.mgf D.kp D.bd .nil pass0 (pa_cons (pv 0) (pa_cons (pe_callB call_len_seq (by rfl) T.len PySem.boot_len (pa_cons (pv 1) pa_nil)) pa_nil))) (fun _ _ => rfl))), ?_⟩
    refine ⟨_, rfl, _, rfl, _, rfl, a, _, rfl, .inl hS, p, c, _, n, rfl, hP, hn, by omega, by omega, fun H' r hD r0 r1 => ?_⟩
    obtain ⟨j, rfl⟩ : ∃ j : Nat, r = j := ⟨_, (Int.toNat_of_nonneg r0).symm⟩
    have hj : j < xs.length := by omega
    exact ⟨a, xs, _, xs[j], rfl, rfl, hD.but.seq hap hS, atI_nat (by simp [hj]), k _ _ hD (List.getElem_mem hj)⟩
theorem sc_shuf : FnScope ["_law_pen_here", "_law_items", "_law_left", "_law_found"] ["_law_pen_here", "_law_items"] (defScope s_shuf) := ⟨rfl, rfl, rfl, by decide +kernel, rfl, by decide +kernel, by decide +kernel⟩
theorem ok_shuf {f fD : Addr} {fd fdD : FuncData} (F : Fun K "_law_shuffled" "_law_shuffled" s_shuf f fd) (T : TDraw mg) (Tl : mg "list" = none) (D : Def K mg "_law_draw" fD fdD ["_law_pen_here", "_law_many"]) (G : FnOk P w K mg base CX0 1 fD fdD ["_law_pen_here", "_law_many"] sp_draw) :
    FnOk P w K mg base CX0 2 f fd ["_law_pen_here", "_law_items"] (sp_shuf K) := by
  refine F.ok sc_shuf (fun vs H Q E h => ?_) (fun cdv A outer s H vs Q E hr h => ?_)
  · obtain ⟨p, c, x, xs, n, rfl, _⟩ := h
    rfl
  · obtain ⟨p, c, x, xs, n, rfl, hP, hn, hS, hxl, k⟩ := h
    refine ⟨_, pss_cons (ps_par (i := 2) (j := 3) rfl sc_shuf.nd rfl rfl (by decide) rfl rfl (pa_cons (pe_callTy (call_listAny hr.hd) (by rfl) Tl (by decide +kernel) (pa_cons (pv 1) pa_nil)) (pa_cons (pe_lst' pa_nil) pa_nil)) (by rfl))
      (pss_cons (ps_while PassesOwn.never (pt_cmpR (op_neNil hr.units0) (pv 2) (pe_lst' pa_nil) (nomark _))
        (pss_one (ps_expr (pe_bm PySem.F.plainAttrs_list PySem.F.slot_list_append PySem.F.type_list_append mt_append' (pv 3) (pa_cons
          (pe_bm PySem.F.plainAttrs_list PySem.F.slot_list_pop PySem.F.type_list_pop mt_popAt' (pv 2) (pa_cons (pe_call G hr rfl D.mgf D.kp D.bd .nil pass0 (pa_cons (pv 0) (pa_cons (pe_callB call_len_seq (by rfl) T.len PySem.boot_len (pa_cons (pv 2) pa_nil)) pa_nil))) pa_nil)) pa_nil)))))
      (pss_one (ps_ret (pv 3)))), ?_⟩
    refine ⟨_, rfl, x, xs, rfl, hS, fun a H1 n1 => ⟨by decide, fun b H2 n2 => ⟨_, _, rfl, ?_⟩⟩⟩
    have hpa : p ≠ a := hP.ne n1.free
    have hpb : p ≠ b := (hP.same n1.same).ne n2.free
    have hca : c ≠ a := hP.neC n1.free
    have hcb : c ≠ b := (hP.same n1.same).neC n2.free
    have hab : a ≠ b := ne_of_none n1.here n2.free
    have hb0 : H b = none := by
      cases e : H b with
      | none => rfl
      | some o => have := n1.same _ _ e; rw [n2.free] at this; cases this
    have s2 : Same H H2 := n1.same.trans n2.same
    refine while_by (fun σ H' => ∃ (left found : List V) (m : Nat), σ = [some (.ref p), some x, some (.ref a), some (.ref b)] ∧ H' a = some (.lst left) ∧ H' b = some (.lst found) ∧ But p H H' ∧ PenAt H' p c m ∧ m + left.length ≤ n + xs.length ∧ (found ++ left).Perm xs)
      (fun _ H' => match H' a with | some (.lst l) => l.length | _ => 0) ⟨xs, [], n, rfl, n2.same _ _ n1.here, n2.here, .of s2, hP.same s2, Nat.le_refl _, by simp⟩ ?_ ?_
    · rintro σ H3 ⟨left, found, m, rfl, ha, hb, hB, hP3, hm, hperm⟩
      have hlen := hperm.length_eq
      rw [List.length_append] at hlen
      refine ⟨_, rfl, by decide, fun q H4 n4 => ⟨a, q, left, rfl, rfl, SqL.of (n4.same _ _ ha), n4.here, _, rfl, ?_⟩⟩
      have ha4 := n4.same _ _ ha
      have hb4 := n4.same _ _ hb
      have hP4 := hP3.same n4.same
      refine ite2 (fun ht => ?_) (fun hf => ?_)
      · have hpos : 0 < left.length := by
          cases left with
          | nil => simp at ht
          | cons _ _ => simp
        refine ⟨_, rfl, .inl ⟨rfl, _, SqL.of hb4⟩, _, rfl, .inl ⟨rfl, _, SqL.of ha4⟩, _, rfl, _, rfl, a, _, rfl, .inl (SqL.of ha4), p, c, _, m, rfl, hP4, by omega, by omega, by omega, fun H5 r hD r0 r1 => ?_⟩
        obtain ⟨j, rfl⟩ : ∃ j : Nat, r = j := ⟨_, (Int.toNat_of_nonneg r0).symm⟩
        have hj : j < left.length := by omega
        have ha5 := hD.but a _ hpa.symm ha4
        have hb5 := hD.but b _ hpb.symm hb4
        refine ⟨a, left, left[j], j, rfl, rfl, ha5, by simp [hj], by omega, fun H6 w6 => ?_⟩
        have hb6 : H6 b = some (.lst found) := (w6.els b hab.symm).trans hb5
        have fits : found.length < sizeLine := Nat.lt_of_le_of_lt (show found.length ≤ 1000000 by omega) (by decide)
        refine ⟨b, found, left[j], rfl, rfl, hb6, fits, fun H7 w7 => ?_⟩
        refine ⟨⟨left.eraseIdx j, found ++ [left[j]], m + 1, rfl, (w7.els a hab).trans w6.here, w7.here, ?_, ?_, ?_, ?_⟩, ?_⟩
        · exact But.wr (But.wr ((hB.trans (.of n4.same)).trans hD.but) n1.free w6) hb0 w7
        · exact (hD.pen.els w6 hpa hca).els w7 hpb hcb
        · rw [List.length_eraseIdx_of_lt hj]
          omega
        · rw [List.append_assoc]
          exact (List.Perm.append_left found (perm_eraseIdx hj)).trans hperm
        · show (match H7 a with | some (.lst l) => l.length | _ => 0) < (match H3 a with | some (.lst l) => l.length | _ => 0)
          rw [(w7.els a hab).trans w6.here, ha]
          show (left.eraseIdx j).length < left.length
          rw [List.length_eraseIdx_of_lt hj]
          omega
      · have hnil : left = [] := by
          cases left with
          | nil => rfl
          | cons _ _ => simp at hf
        subst hnil
        rw [List.append_nil] at hperm
        exact ⟨_, rfl, k _ b found ⟨hB.trans (.of n4.same), hP4.mono (by rw [List.length_nil] at hm; omega)⟩ hb0 hb4 hperm⟩
    · intro σ H Q Q' m h
      obtain ⟨v, e, h0, h⟩ := h
      refine ⟨v, e, h0, fun q H' n => ?_⟩
      obtain ⟨a, b, xs, e1, e2, h1, h2, k, e3, h3⟩ := h q H' n
      exact ⟨a, b, xs, e1, e2, h1, h2, k, e3, m _ _ h3⟩
end
end My
end
section
set_option Elab.async false
set_option linter.all false
set_option maxRecDepth 100000
set_option maxHeartbeats 4000000
namespace My
open PySem PySem.Spec PyProof.Rows L2
abbrev s_flip : Stmt := topS 33
abbrev s_font : Stmt := topS 29
def sp_flip (K : PySem.W.Frag) : Sp := fun vs H Q _ => ∃ (p c q : Addr) (x y : V) (n : Nat), vs = [.ref p, .ref q] ∧ PenAt H p c n ∧ n < 2 ^ 60 ∧ H q = some (.tup [x, y]) ∧
  ∀ H' r, DrewP H p c (n + 1) H' → (H' r = some (.tup [x, y]) ∨ H' r = some (.tup [y, x])) → Q (.ref r) H'
/-- the signs of a turn -/
def spread (e : Nat × Nat) : List Nat := if e.1 = e.2 then [e.1] else [e.1, e.2]
/-- a font: signs and turns -/
structure Good (m : Nat) (S : Str) (ps : List (Nat × Nat)) : Prop where
  lo : 2 ≤ S.length
  hi : S.length ≤ m
  nd : S.cps.toList.Nodup
  ab : ∀ c ∈ S.cps.toList, c ∈ alphabet.cps.toList
  tnd : (ps.flatMap spread).Nodup
  tin : ∀ c ∈ ps.flatMap spread, c ∈ S.cps.toList
def sp_font (K : PySem.W.Frag) : Sp := fun vs H Q _ => ∃ (p c : Addr) (m n : Nat), vs = [.ref p, .int m] ∧ PenAt H p c n ∧ n < 2 ^ 50 ∧ 2 ≤ m ∧ m ≤ 10 ∧
  ∀ H' t a S ys ps, DrewP H p c (n + 40) H' → H t = none → H a = none → H' t = some (.tup [.str S, .ref a]) → H' a = some (.lst ys) → PairsAt H' ps ys → Good m S ps → Q (.ref t) H'
/-- the sign of a text of one sign -/
def ofSg : V → Nat
  | .str z => z.cps.toList.headD 0
  | _ => 0
theorem perm_signs {l : List Nat} {ys : List V} (h : ys.Perm (l.map sg)) : ∃ k : List Nat, ys = k.map sg ∧ k.Perm l := by
  have back : ∀ k : List Nat, (k.map sg).map ofSg = k := by
    intro k
    rw [List.map_map]
    exact List.map_id k
  refine ⟨ys.map ofSg, ?_, ?_⟩
  · rw [List.map_map]
    have : ∀ y ∈ ys, (sg ∘ ofSg) y = y := by
      intro y hy
      obtain ⟨c, _, rfl⟩ := List.mem_map.mp (h.mem_iff.mp hy)
      rfl
    rw [List.map_congr_left this]
    exact (List.map_id ys).symm
  · have := h.map ofSg
    rw [back] at this
    exact this
theorem join_signs : ∀ l : List Nat, Str.join Str.empty (l.map fun c => (⟨#[c]⟩ : Str)) = ⟨l.toArray⟩
  | [] => rfl
  | [c] => rfl
  | c :: d :: r => by
    have ih := join_signs (d :: r)
    show (⟨#[c]⟩ : Str) ++ Str.empty ++ Str.join Str.empty ((d :: r).map fun c => (⟨#[c]⟩ : Str)) = _
    rw [ih]
    show (⟨(#[c] ++ #[]) ++ (d :: r).toArray⟩ : Str) = _
    congr 1
    simp
theorem sum_ones : ∀ l : List Nat, ((l.map fun c => (⟨#[c]⟩ : Str)).map (·.length)).sum = l.length
  | [] => rfl
  | c :: l => by
    have ih := sum_ones l
    rw [List.map_cons, List.map_cons, List.sum_cons, ih, List.length_cons]
    show 1 + l.length = _
    omega
section
variable {P : Program} {w : World} {K : PySem.W.Frag} {mg : Str → Option Value} {base : Heap}
theorem sc_flip : FnScope ["_law_pen_here", "_law_pair"] ["_law_pen_here", "_law_pair"] (defScope s_flip) := ⟨rfl, rfl, rfl, by decide +kernel, rfl, by decide +kernel, by decide +kernel⟩
theorem ok_flip {f fP : Addr} {fd fdP : FuncData} (F : Fun K "_law_flipped" "_law_flipped" s_flip f fd) (D : Def K mg "_law_pick" fP fdP ["_law_pen_here", "_law_options"]) (G : FnOk P w K mg base CX0 2 fP fdP ["_law_pen_here", "_law_options"] (sp_pick K)) :
    FnOk P w K mg base CX0 3 f fd ["_law_pen_here", "_law_pair"] (sp_flip K) := by
  refine F.ok sc_flip (fun vs H Q E h => ?_) (fun cdv A outer s H vs Q E hr h => ?_)
  · obtain ⟨p, c, q, x, y, n, rfl, _⟩ := h
    rfl
  · obtain ⟨p, c, q, x, y, n, rfl, hP, hn, hq, k⟩ := h
    refine ⟨_, pss_one (ps_ret (pe_call G hr rfl D.mgf D.kp D.bd .nil pass0 (pa_cons (pv 0) (pa_cons (pe_lst' (pa_cons (pv 1) (pa_cons (pe_turn (pv 1)) pa_nil))) pa_nil)))), ?_⟩
    refine ⟨_, rfl, _, rfl, _, rfl, q, x, y, rfl, SqT.of hq, fun r H1 n1 => ⟨by show 2 ≤ sizeLine; decide, fun a H2 n2 => ?_⟩⟩
    have s2 : Same H H2 := n1.same.trans n2.same
    have ha : a ≠ p := fun e => (hP.same n1.same).ne n2.free e.symm
    have hqp : q ≠ p := hP.neT hq
    have hrp : r ≠ p := fun e => hP.ne n1.free e.symm
    refine ⟨p, c, a, _, n, rfl, hP.same s2, hn, SqL.of n2.here, ha, by show 0 < 2; decide, by show 2 ≤ 1000000; decide, fun H3 v hD hv => ?_⟩
    have dr : DrewP H p c (n + 1) H3 := ⟨(But.of s2).trans hD.but, hD.pen⟩
    rcases List.mem_cons.mp hv with rfl | hv
    · exact k _ _ dr (.inl (hD.but _ _ hqp (s2 _ _ hq)))
    · rcases List.mem_cons.mp hv with rfl | hv
      · exact k _ _ dr (.inr (hD.but _ _ hrp (n2.same _ _ n1.here)))
      · cases hv
theorem sc_font : FnScope ["_law_pen_here", "_law_most", "_law_many", "_law_pool", "_law_signs", "_law_left", "_law_turns", "_law_one", "_law_way"] ["_law_pen_here", "_law_most"] (defScope s_font) := ⟨rfl, rfl, rfl, by decide +kernel, rfl, by decide +kernel, by decide +kernel⟩
theorem ok_font {f fD fP fS : Addr} {fd fdD fdP fdS : FuncData} (F : Fun K "_law_font" "_law_font" s_font f fd) (D : Def K mg "_law_draw" fD fdD ["_law_pen_here", "_law_many"]) (G : FnOk P w K mg base CX0 1 fD fdD ["_law_pen_here", "_law_many"] sp_draw)
    (DP : Def K mg "_law_pick" fP fdP ["_law_pen_here", "_law_options"]) (GP : FnOk P w K mg base CX0 2 fP fdP ["_law_pen_here", "_law_options"] (sp_pick K))
    (DS : Def K mg "_law_shuffled" fS fdS ["_law_pen_here", "_law_items"]) (GS : FnOk P w K mg base CX0 2 fS fdS ["_law_pen_here", "_law_items"] (sp_shuf K)) :
    FnOk P w K mg base CX0 3 f fd ["_law_pen_here", "_law_most"] (sp_font K) := by
  refine F.ok sc_font (fun vs H Q E h => ?_) (fun cdv A outer s H vs Q E hr h => ?_)
  · obtain ⟨p, c, m, n, rfl, _⟩ := h
    rfl
  · obtain ⟨p, c, m, n, rfl, hP, hn, hm2, hm, k⟩ := h
    have hr1 : Room 1 _ := hr.mono (by decide)
    refine ⟨_, pss_cons (ps_set (i := 2) sc_font.nd rfl (Or.inl rfl) (pe_op op_add pe_int (pe_call G hr1 rfl D.mgf D.kp D.bd .nil pass0 (pa_cons (pv 0) (pa_cons (pe_op op_sub (pv 1) pe_int) pa_nil)))))
      (pss_cons (ps_set (i := 3) sc_font.nd rfl (Or.inl rfl) (pe_call GP hr rfl DP.mgf DP.kp DP.bd .nil pass0 (pa_cons (pv 0) (pa_cons (pe_lst' (pa_cons pe_str (pa_cons pe_str (pa_cons pe_str (pa_cons pe_str pa_nil))))) pa_nil))))
      (pss_cons (ps_set (i := 4) sc_font.nd rfl (Or.inl rfl) (pe_join pe_str (pe_slice sl_list' (pe_call GS hr rfl DS.mgf DS.kp DS.bd .nil pass0 (pa_cons (pv 0) (pa_cons (pe_slice sl_str (pv 3) po_none (po_some pe_int)) pa_nil))) po_none (po_some (pv 2)))))
      (pss_cons (ps_par (i := 5) (j := 6) rfl sc_font.nd rfl rfl (by decide) rfl rfl (pa_cons (pe_call GS hr rfl DS.mgf DS.kp DS.bd .nil pass0 (pa_cons (pv 0) (pa_cons (pv 4) pa_nil))) (pa_cons (pe_lst' pa_nil) pa_nil)) (by rfl))
      (pss_cons (ps_while PassesOwn.never (pt_cmpR (op_neNil hr.units0) (pv 5) (pe_lst' pa_nil) (nomark _))
        (pss_cons (ps_par (i := 7) (j := 8) rfl sc_font.nd rfl rfl (by decide) rfl rfl (pa_cons (pe_bm0 PySem.F.plainAttrs_list PySem.F.slot_list_pop PySem.F.type_list_pop mt_pop' (pv 5)) (pa_cons (pe_call G hr1 rfl D.mgf D.kp D.bd .nil pass0 (pa_cons (pv 0) (pa_cons pe_int pa_nil))) pa_nil)) (by rfl))
        (pss_cons (ps_if (pt_cmpR op_eq (pv 8) pe_int (nomark _)) (pss_one (ps_expr (pe_bm PySem.F.plainAttrs_list PySem.F.slot_list_append PySem.F.type_list_append mt_append' (pv 6) (pa_cons (pe_tup' (pa_cons (pv 7) (pa_cons (pv 7) pa_nil))) pa_nil)))) pss_nil)
        (pss_one (ps_if (PW.pt (pw_and (pt_cmpR op_eq (pv 8) pe_int (nomark _)) (pw_and1 (pt_cmpR (op_neNil hr.units0) (pv 5) (pe_lst' pa_nil) (nomark _)))))
          (pss_one (ps_expr (pe_bm PySem.F.plainAttrs_list PySem.F.slot_list_append PySem.F.type_list_append mt_append' (pv 6) (pa_cons (pe_tup' (pa_cons (pv 7) (pa_cons (pe_bm0 PySem.F.plainAttrs_list PySem.F.slot_list_pop PySem.F.type_list_pop mt_pop' (pv 5)) pa_nil))) pa_nil)))) pss_nil)))))
      (pss_one (ps_ret (pe_tup' (pa_cons (pv 4) (pa_cons (pv 6) pa_nil))))))))), ?_⟩
    refine ⟨_, rfl, _, rfl, _, _, rfl, rfl, p, c, (m : Int) - 1, n, rfl, hP, by omega, by omega, by omega, fun H1 r d1 r0 r1 => ?_⟩
    refine ⟨_, _, rfl, rfl, ?_⟩
    obtain ⟨j, rfl⟩ : ∃ j : Nat, r = j := ⟨_, (Int.toNat_of_nonneg r0).symm⟩
    have hk2 : ((2 : Int) + (j : Int)) = ((2 + j : Nat) : Int) := by omega
    have hkm : 2 + j ≤ m := by omega
    refine ⟨_, rfl, by show 4 ≤ sizeLine; decide, fun a2 H2 n2 => ?_⟩
    have P2 := d1.pen.same n2.same
    refine ⟨p, c, a2, _, n + 1, rfl, P2, by omega, SqL.of n2.here, fun e => d1.pen.ne n2.free e.symm, by show 0 < 4; decide, by show 4 ≤ 1000000; decide, fun H3 v d3 hv => ?_⟩
    have pool : ∃ z : Str, v = .str z ∧ 10 ≤ z.length ∧ z.length ≤ 26 ∧ z.cps.toList.Nodup ∧ ∀ c ∈ z.cps.toList, c ∈ alphabet.cps.toList := by
      rcases List.mem_cons.mp hv with rfl | hv
      · exact ⟨_, rfl, by decide, by decide, by decide +kernel, by decide +kernel⟩
      rcases List.mem_cons.mp hv with rfl | hv
      · exact ⟨_, rfl, by decide, by decide, by decide +kernel, by decide +kernel⟩
      rcases List.mem_cons.mp hv with rfl | hv
      · exact ⟨_, rfl, by decide, by decide, by decide +kernel, by decide +kernel⟩
      rcases List.mem_cons.mp hv with rfl | hv
      · exact ⟨_, rfl, by decide, by decide, by decide +kernel, by decide +kernel⟩
      cases hv
    obtain ⟨z, rfl, z10, z26, znd, zab⟩ := pool
    have cutE : (cutS z none (some (10 : Int))).cps.toList = z.cps.toList.take 10 := by
      show (((z.cps.toList.drop (HT.sIx z.length 0 none)).take (HT.sIx z.length z.length (some ((10 : Nat) : Int)) - HT.sIx z.length 0 none)).toArray).toList = _
      rw [HT.sIx_none, HT.sIx_nat, List.drop_zero, Nat.sub_zero, Nat.min_eq_left z10]
    have cutL : (signs (cutS z none (some (10 : Int)))).length = 10 := by
      unfold signs
      rw [List.length_map, cutE, List.length_take]
      have : z.cps.toList.length = z.length := Array.length_toList
      omega
    have dA : DrewP H p c (n + 2) H3 := ⟨(d1.but.trans (.of n2.same)).trans d3.but, d3.pen⟩
    refine ⟨⟨_, rfl⟩, _, rfl, _, rfl, 10, rfl, z, rfl, Nat.le_trans z26 (by decide), ?_⟩
    refine ⟨p, c, _, _, n + 2, rfl, dA.pen, by rw [cutL]; omega, SqA.str (by rw [← signs_len, cutL]; decide), by rw [cutL]; decide, fun H4 r4 ys4 d4 f4 h4 hp4 => ?_⟩
    obtain ⟨l4, rfl, hl4⟩ := perm_signs hp4
    rw [cutE] at hl4
    have len4 : l4.length = 10 := by
      rw [hl4.length_eq, List.length_take]
      have : z.cps.toList.length = z.length := Array.length_toList
      omega
    refine ⟨_, rfl, _, rfl, r4, _, rfl, SqL.of h4, fun q5 H5 n5 => ?_⟩
    have cut5 : cutV (l4.map sg) none (some ((2 : Int) + (j : Int))) = ((l4.take (2 + j)).map fun c => (⟨#[c]⟩ : Str)).map V.str := by
      rw [hk2, cutV_to, List.map_map, ← List.map_take]
      rfl
    have n5' : New H4 q5 (.lst (((l4.take (2 + j)).map fun c => (⟨#[c]⟩ : Str)).map V.str)) H5 := by
      rw [← cut5]
      exact n5
    have hjl : (l4.take (2 + j)).length = 2 + j := by
      rw [List.length_take]
      omega
    refine ⟨_, q5, _, rfl, rfl, .inl (SqL.of n5'.here), ?_, ?_⟩
    · rw [sum_ones, hjl]
      have : (PySem.Str.ofString "").length = 0 := by decide
      rw [this]
      omega
    have jE : Txt.join (PySem.Str.ofString "") ((l4.take (2 + j)).map fun c => (⟨#[c]⟩ : Str)) = ⟨(l4.take (2 + j)).toArray⟩ := by
      rw [TL.join_eq]
      exact join_signs _
    rw [jE]
    have good : ∃ S : Str, S = ⟨(l4.take (2 + j)).toArray⟩ ∧ 2 ≤ S.length ∧ S.length ≤ m ∧ S.cps.toList.Nodup ∧ ∀ c ∈ S.cps.toList, c ∈ alphabet.cps.toList := by
      refine ⟨_, rfl, ?_, ?_, ?_, ?_⟩
      · show 2 ≤ (l4.take (2 + j)).toArray.size
        rw [List.size_toArray, hjl]
        omega
      · show (l4.take (2 + j)).toArray.size ≤ m
        rw [List.size_toArray, hjl]
        exact hkm
      · show (l4.take (2 + j)).Nodup
        exact (hl4.nodup_iff.mpr (znd.sublist (List.take_sublist _ _))).sublist (List.take_sublist _ _)
      · intro c hc
        have hc : c ∈ l4.take (2 + j) := hc
        exact zab c (List.mem_of_mem_take (hl4.mem_iff.mp (List.mem_of_mem_take hc)))
    obtain ⟨S, eS, S2, Sm, Snd, Sab⟩ := good
    rw [← eS]
    have dB : DrewP H p c (n + 12) H5 := by
      have d4' : DrewP H3 p c (n + 12) H4 := by
        have e : n + 2 + (signs (cutS z none (some (10 : Int)))).length = n + 12 := by rw [cutL]
        rw [← e]
        exact d4
      exact (dA.trans d4').new n5
    have lS : (signs S).length = S.length := signs_len S
    refine ⟨_, rfl, _, rfl, p, c, .str S, _, n + 12, rfl, dB.pen, by omega, SqA.str (Nat.le_trans Sm (Nat.le_trans hm (by decide))), by rw [lS]; omega, fun H6 a ys6 d6 f6 h6 hp6 => ⟨by decide, fun b H7 n7 => ⟨_, _, rfl, ?_⟩⟩⟩
    obtain ⟨l6, rfl, hl6⟩ := perm_signs hp6
    have dC : DrewP H p c (n + 22) H7 := ((dB.trans d6).new n7).mono (by rw [lS]; omega)
    have len6 : l6.length ≤ 10 := by
      rw [hl6.length_eq]
      have : S.cps.toList.length = S.length := Array.length_toList
      omega
    have hpa : p ≠ a := dB.pen.ne f6
    have hca : c ≠ a := dB.pen.neC f6
    have hpb : p ≠ b := d6.pen.ne n7.free
    have hcb : c ≠ b := d6.pen.neC n7.free
    have hab : a ≠ b := ne_of_none h6 n7.free
    have ha0 : H a = none := dB.but.free hpa.symm f6
    have hb0 : H b = none := (dB.but.trans d6.but).free hpb.symm n7.free
    refine while_by (fun σ H' => ∃ (l : List Nat) (ps : List (Nat × Nat)) (ys : List V) (w1 w2 : Option V) (cnt : Nat), σ = [some (.ref p), some (.int m), some (.int ((2 : Int) + (j : Int))), some (.str z), some (.str S), some (.ref a), some (.ref b), w1, w2] ∧
        H' a = some (.lst (l.map sg)) ∧ H' b = some (.lst ys) ∧ PairsAt H' ps ys ∧ But p H H' ∧ PenAt H' p c cnt ∧ cnt + l.length ≤ n + 32 ∧ l.length + ps.length ≤ 10 ∧ (l ++ ps.flatMap spread).Nodup ∧ ∀ c ∈ l ++ ps.flatMap spread, c ∈ S.cps.toList)
      (fun _ H' => match H' a with | some (.lst l) => l.length | _ => 0)
      ⟨l6, [], [], none, none, n + 22, rfl, n7.same _ _ h6, n7.here, .nil, dC.but, dC.pen, by omega, by simpa using len6, by simpa using hl6.nodup_iff.mpr Snd, by simpa using fun c hc => hl6.mem_iff.mp hc⟩ ?_ ?_
    · rintro σ H3 ⟨l, ps, ys, w1, w2, cnt, rfl, ha, hb, hPs, hB, hPen, hcnt, hlp, hnd, hin⟩
      refine ⟨_, rfl, by decide, fun q H4 n4 => ⟨a, q, _, rfl, rfl, SqL.of (n4.same _ _ ha), n4.here, _, rfl, ?_⟩⟩
      have ha4 := n4.same _ _ ha
      have hb4 := n4.same _ _ hb
      have hP4 := hPen.same n4.same
      have hPs4 := hPs.same n4.same
      have hB4 : But p H H4 := hB.trans (.of n4.same)
      refine ite2 (fun ht => ?_) (fun hf => ?_)
      · have lne : l ≠ [] := by
          intro e
          rw [e] at ht
          simp at ht
        obtain ⟨l', o, rfl⟩ : ∃ l' o, l = l' ++ [o] := ⟨l.dropLast, l.getLast lne, (List.dropLast_concat_getLast lne).symm⟩
        have hmap : (l' ++ [o]).map sg = l'.map sg ++ [sg o] := by simp
        rw [hmap] at ha4
        refine ⟨_, rfl, .inl ⟨rfl, _, SqL.of ha4⟩, a, _, sg o, rfl, rfl, ha4, by simp, fun H5 w5 => ⟨_, rfl, p, c, 3, cnt, rfl, hP4.els w5 hpa hca, by omega, by decide, by decide, fun H8 r d8 r0 r1 => ⟨_, _, rfl, ?_⟩⟩⟩
        rw [List.dropLast_concat] at w5
        rw [List.length_append, List.length_singleton] at hcnt hlp
        have hb5 : H5 b = some (.lst ys) := (w5.els b hab.symm).trans hb4
        have hPs5 : PairsAt H5 ps ys := Paired.map (fun e y hy => by
          obtain ⟨q', e1, e2⟩ := hy
          exact ⟨q', e1, (w5.els q' (ne_of e2 ha4 (by intro z; cases z))).trans e2⟩) hPs4
        have ha8 : H8 a = some (.lst (l'.map sg)) := d8.but _ _ hpa.symm w5.here
        have hb8 : H8 b = some (.lst ys) := d8.but _ _ hpb.symm hb5
        have hPs8 : PairsAt H8 ps ys := Paired.map (fun e y hy => by
          obtain ⟨q', e1, e2⟩ := hy
          exact ⟨q', e1, d8.but _ _ ((hP4.els w5 hpa hca).neT e2) e2⟩) hPs5
        have hB8 : But p H H8 := (But.wr hB4 ha0 w5).trans d8.but
        have ylen := hPs8.length
        have small : ys.length < sizeLine := Nat.lt_of_le_of_lt (show ys.length ≤ 100 by omega) (by decide)
        have less : l'.length < (l' ++ [o]).length := by simp
        have hr3 : r = 0 ∨ r = 1 ∨ r = 2 := by omega
        rcases hr3 with rfl | rfl | rfl
        · refine ⟨_, rfl, rfl, _, rfl, ?_⟩
          refine iteF ⟨_, rfl, rfl, _, rfl, ?_⟩
          refine iteF (iteF ?_)
          refine ⟨⟨l', ps, ys, _, _, cnt + 1, rfl, ha8, hb8, hPs8, hB8, d8.pen, by omega, by omega, ?_, ?_⟩, ?_⟩
          · exact (hnd.sublist (List.Sublist.append_right (List.sublist_append_left _ _) _))
          · intro c hc
            refine hin c ?_
            rw [List.append_assoc]
            rcases List.mem_append.mp hc with hc | hc
            · exact List.mem_append_left _ hc
            · exact List.mem_append_right _ (List.mem_append_right _ hc)
          · show (match H8 a with | some (.lst l) => l.length | _ => 0) < (match H3 a with | some (.lst l) => l.length | _ => 0)
            rw [ha8, ha]
            simp
        · refine ⟨_, rfl, rfl, _, rfl, ?_⟩
          refine iteT ⟨_, rfl, .inl ⟨rfl, _, SqL.of hb8⟩, _, rfl, _, rfl, by show 2 ≤ sizeLine; decide, fun e H9 n9 => ⟨b, ys, .ref e, rfl, rfl, n9.same _ _ hb8, small, fun H10 w10 => ?_⟩⟩
          refine ⟨_, rfl, rfl, _, rfl, ?_⟩
          refine iteF (iteF ?_)
          have hbe : e ≠ b := (ne_of_none hb8 n9.free).symm
          have hb9 : H9 b = some (.lst ys) := n9.same _ _ hb8
          have hP9 : PairsAt H10 (ps ++ [(o, o)]) (ys ++ [.ref e]) := Paired.snoc (Paired.map (fun e' y hy => by
            obtain ⟨q', e1, e2⟩ := hy
            exact ⟨q', e1, (w10.els q' (ne_of e2 hb9 (by intro z; cases z))).trans e2⟩) (hPs8.same n9.same)) ⟨e, rfl, (w10.els e hbe).trans n9.here⟩
          have fm : (ps ++ [(o, o)]).flatMap spread = ps.flatMap spread ++ [o] := by
            rw [List.flatMap_append]
            simp [spread]
          have pm : (l' ++ (ps ++ [(o, o)]).flatMap spread).Perm (l' ++ [o] ++ ps.flatMap spread) := by
            rw [fm, List.append_assoc]
            exact List.Perm.append_left l' List.perm_append_comm
          refine ⟨⟨l', ps ++ [(o, o)], ys ++ [.ref e], _, _, cnt + 1, rfl, (w10.els a hab).trans (n9.same _ _ ha8), w10.here, hP9, But.wr (hB8.trans (.of n9.same)) hb0 w10, (d8.pen.same n9.same).els w10 hpb hcb, by omega, by rw [List.length_append, List.length_singleton]; omega, pm.nodup_iff.mpr hnd, fun c hc => hin c (pm.mem_iff.mp hc)⟩, ?_⟩
          show (match H10 a with | some (.lst l) => l.length | _ => 0) < (match H3 a with | some (.lst l) => l.length | _ => 0)
          rw [(w10.els a hab).trans (n9.same _ _ ha8), ha]
          simp
        · refine ⟨_, rfl, rfl, _, rfl, ?_⟩
          refine iteF ⟨_, rfl, rfl, _, rfl, ?_⟩
          refine iteT ⟨_, rfl, by decide, fun q2 H9 n9 => ⟨a, q2, _, rfl, rfl, SqL.of (n9.same _ _ ha8), n9.here, _, rfl, ?_⟩⟩
          have ha9 := n9.same _ _ ha8
          have hb9 := n9.same _ _ hb8
          refine ite2 (fun ht2 => ?_) (fun hf2 => ?_)
          · have lne2 : l' ≠ [] := by
              intro e
              rw [e] at ht2
              simp at ht2
            obtain ⟨k', o2, rfl⟩ : ∃ k' o2, l' = k' ++ [o2] := ⟨l'.dropLast, l'.getLast lne2, (List.dropLast_concat_getLast lne2).symm⟩
            have hmap2 : (k' ++ [o2]).map sg = k'.map sg ++ [sg o2] := by simp
            rw [hmap2] at ha9
            refine ⟨_, rfl, .inl ⟨rfl, _, SqL.of hb9⟩, _, rfl, _, rfl, .inl ⟨rfl, _, SqL.of ha9⟩, a, _, sg o2, rfl, rfl, ha9, by simp, fun H10 w10 => ⟨by show 2 ≤ sizeLine; decide, fun e H11 n11 => ?_⟩⟩
            rw [List.dropLast_concat] at w10
            have hb10 : H10 b = some (.lst ys) := (w10.els b hab.symm).trans hb9
            have hb11 : H11 b = some (.lst ys) := n11.same _ _ hb10
            refine ⟨b, ys, .ref e, rfl, rfl, hb11, small, fun H12 w12 => ?_⟩
            have hbe : e ≠ b := (ne_of_none hb10 n11.free).symm
            have hP10 : PairsAt H10 ps ys := Paired.map (fun e' y hy => by
              obtain ⟨q', e1, e2⟩ := hy
              exact ⟨q', e1, (w10.els q' (ne_of e2 ha9 (by intro z; cases z))).trans e2⟩) (hPs8.same n9.same)
            have hP12 : PairsAt H12 (ps ++ [(o, o2)]) (ys ++ [.ref e]) := Paired.snoc (Paired.map (fun e' y hy => by
              obtain ⟨q', e1, e2⟩ := hy
              exact ⟨q', e1, (w12.els q' (ne_of e2 hb11 (by intro z; cases z))).trans e2⟩) (hP10.same n11.same)) ⟨e, rfl, (w12.els e hbe).trans n11.here⟩
            have one : o ≠ o2 := by
              intro z
              rw [z] at hnd
              have h1 : (k' ++ [o2] ++ [o2]).Nodup := hnd.sublist (List.sublist_append_left _ _)
              rw [List.append_assoc] at h1
              have h2 : ([o2] ++ [o2] : List Nat).Nodup := h1.sublist (List.sublist_append_right _ _)
              simp at h2
            have fm : (ps ++ [(o, o2)]).flatMap spread = ps.flatMap spread ++ [o, o2] := by
              rw [List.flatMap_append]
              simp [spread, one]
            have pm : (k' ++ (ps ++ [(o, o2)]).flatMap spread).Perm (k' ++ [o2] ++ [o] ++ ps.flatMap spread) := by
              rw [fm, List.append_assoc, List.append_assoc]
              refine List.Perm.append_left k' ?_
              refine List.perm_append_comm.trans ?_
              show (o :: o2 :: ps.flatMap spread).Perm (o2 :: o :: ps.flatMap spread)
              exact List.Perm.swap _ _ _
            have ha12 : H12 a = some (.lst (k'.map sg)) := (w12.els a hab).trans (n11.same _ _ w10.here)
            rw [List.length_append, List.length_singleton] at hcnt hlp
            refine ⟨⟨k', ps ++ [(o, o2)], ys ++ [.ref e], _, _, cnt + 1, rfl, ha12, w12.here, hP12, But.wr ((But.wr (hB8.trans (.of n9.same)) ha0 w10).trans (.of n11.same)) hb0 w12, (((d8.pen.same n9.same).els w10 hpa hca).same n11.same).els w12 hpb hcb, by omega, by rw [List.length_append, List.length_singleton]; omega, pm.nodup_iff.mpr hnd, fun c hc => hin c (pm.mem_iff.mp hc)⟩, ?_⟩
            show (match H12 a with | some (.lst l) => l.length | _ => 0) < (match H3 a with | some (.lst l) => l.length | _ => 0)
            rw [ha12, ha]
            simp
          · refine ⟨⟨l', ps, ys, _, _, cnt + 1, rfl, ha9, hb9, hPs8.same n9.same, hB8.trans (.of n9.same), d8.pen.same n9.same, by omega, by omega, ?_, ?_⟩, ?_⟩
            · exact (hnd.sublist (List.Sublist.append_right (List.sublist_append_left _ _) _))
            · intro c hc
              refine hin c ?_
              rw [List.append_assoc]
              rcases List.mem_append.mp hc with hc | hc
              · exact List.mem_append_left _ hc
              · exact List.mem_append_right _ (List.mem_append_right _ hc)
            · show (match H9 a with | some (.lst l) => l.length | _ => 0) < (match H3 a with | some (.lst l) => l.length | _ => 0)
              rw [ha9, ha]
              simp
      · have lnil : l = [] := by
          cases l with
          | nil => rfl
          | cons _ _ => simp at hf
        subst lnil
        rw [List.nil_append] at hnd hin
        refine ⟨_, rfl, _, rfl, by show 2 ≤ sizeLine; decide, fun t H9 n9 => k H9 t b S ys ps ⟨hB4.trans (.of n9.same), (hP4.same n9.same).mono (by rw [List.length_nil] at hcnt; omega)⟩ ?_ hb0 n9.here (n9.same _ _ hb4) (hPs4.same n9.same) ⟨S2, Sm, Snd, Sab, hnd, hin⟩⟩
        exact hB4.free (fun e => by rw [e] at n9; exact hP4.ne n9.free rfl) n9.free
    · intro σ H Q Q' m h
      obtain ⟨v, e, h0, h⟩ := h
      refine ⟨v, e, h0, fun q H' n => ?_⟩
      obtain ⟨a, b, xs, e1, e2, h1, h2, k, e3, h3⟩ := h q H' n
      exact ⟨a, b, xs, e1, e2, h1, h2, k, e3, m _ _ h3⟩
end
end My
end
section
set_option Elab.async false
set_option linter.all false
set_option maxRecDepth 100000
set_option maxHeartbeats 4000000
namespace My
open PySem PySem.Spec PyProof.Rows L2
abbrev s_odd : Stmt := topS 28
/-- some value of any kind -/
def sp_odd (K : PySem.W.Frag) : Sp := fun vs H Q _ => ∃ (p c : Addr) (n : Nat), vs = [.ref p] ∧ PenAt H p c n ∧ n < 2 ^ 60 ∧ ∀ H' v d, DrewP H p c (n + 1) H' → Rp K p H' d.hasDict v d → fit d = true → d.depth ≤ 4 → d.showable = true → d.shown.length ≤ 200 → Q v H'
section
variable {P : Program} {w : World} {K : PySem.W.Frag} {mg : Str → Option Value} {base : Heap}
theorem sc_odd : FnScope ["_law_pen_here", "_law_some"] ["_law_pen_here"] (defScope s_odd) := ⟨rfl, rfl, rfl, by decide +kernel, rfl, by decide +kernel, by decide +kernel⟩
theorem ok_odd {f fP : Addr} {fd fdP : FuncData} (F : Fun K "_law_odd" "_law_odd" s_odd f fd) (D : Def K mg "_law_pick" fP fdP ["_law_pen_here", "_law_options"]) (G : FnOk P w K mg base CX0 2 fP fdP ["_law_pen_here", "_law_options"] (sp_pick K)) :
    FnOk P w K mg base CX0 3 f fd ["_law_pen_here"] (sp_odd K) := by
  refine F.ok sc_odd (fun vs H Q E h => ?_) (fun cdv A outer s H vs Q E hr h => ?_)
  · obtain ⟨p, c, n, rfl, _⟩ := h
    rfl
  · obtain ⟨p, c, n, rfl, hP, hn, k⟩ := h
    refine ⟨_, pss_cons (ps_set (i := 1) sc_odd.nd rfl (Or.inl rfl) (pe_lst' (pa_cons pe_non (pa_cons pe_bl (pa_cons pe_bl (pa_cons pe_int (pa_cons pe_int (pa_cons (pe_un un_neg pe_int) (pa_cons pe_int (pa_cons pe_int
        (pa_cons (pe_op op_pow pe_int pe_int) (pa_cons (pe_op op_add (pe_op op_pow pe_int pe_int) pe_int) (pa_cons (pe_op op_mulW (pe_op op_pow pe_int pe_int) (pe_op op_pow pe_int pe_int))
        (pa_cons pe_str (pa_cons pe_str (pa_cons pe_str (pa_cons pe_str (pa_cons pe_str (pa_cons pe_str pa_nil)))))))))))))))))))
      (pss_cons (ps_set (i := 1) sc_odd.nd rfl (Or.inl rfl) (pe_op op_cat' (pv 1) (pe_lst' (pa_cons pe_str (pa_cons pe_str (pa_cons pe_str (pa_cons (pe_tup' pa_nil) (pa_cons (pe_lst' pa_nil) (pa_cons pe_dnew' (pa_cons (pe_tup' (pa_cons pe_str pa_nil))
        (pa_cons (pe_lst' (pa_cons pe_str pa_nil)) (pa_cons (pe_disp (pps_cons pe_str pe_int pps_nil) (by rfl) (by rfl) (fun z => by cases z) (by decide)) (pa_cons (pe_tup' (pa_cons pe_str (pa_cons pe_str pa_nil))) (pa_cons (pe_tup' (pa_cons pe_str (pa_cons pe_int pa_nil)))
        (pa_cons (pe_lst' (pa_cons (pe_tup' (pa_cons pe_str (pa_cons pe_int pa_nil))) pa_nil)) (pa_cons pe_str pa_nil))))))))))))))))
      (pss_one (ps_ret (pe_call G hr rfl D.mgf D.kp D.bd .nil pass0 (pa_cons (pv 0) (pa_cons (pv 1) pa_nil)))))), ?_⟩
    have pw : ∀ e : Int, 0 ≤ e → e ≤ 1000000 → CPow 10 e := fun e h1 h2 => ⟨h1, h2, by decide⟩
    have mulw : CMulW ((10 : Int) ^ (49 : Int).toNat) ((10 : Int) ^ (50 : Int).toNat) := by
      refine wide_mul (a := 200) (b := 200) ?_ ?_ (by decide) (by decide) (by decide) <;> decide +kernel
    refine ⟨1, rfl, _, _, rfl, rfl, pw 30 (by decide) (by decide), _, _, rfl, rfl, pw 30 (by decide) (by decide), _, _, rfl, rfl, _, _, rfl, rfl, pw 49 (by decide) (by decide), _, _, rfl, rfl, pw 50 (by decide) (by decide), _, _, rfl, rfl, mulw, by show 17 ≤ sizeLine; decide, fun a H1 n1 => ?_⟩
    refine ⟨_, rfl, by show 0 ≤ sizeLine; decide, fun q1 H2 n2 => ⟨by show 0 ≤ sizeLine; decide, fun q2 H3 n3 => fun q3 H4 n4 => ⟨by show 1 ≤ sizeLine; decide, fun q4 H5 n5 => ⟨by show 1 ≤ sizeLine; decide, fun q5 H6 n6 => fun q6 hq6 => ⟨upd_same, [(.inr "a", .int 1)], rfl, by decide, ?_⟩⟩⟩⟩⟩
    have n7 : New H6 q6 (.dK [(.inr "a", .int 1)]) (upd (upd H6 q6 (.dK [])) q6 (.dK (mergeK [] [(.inr "a", .int 1)]))) := ⟨hq6, upd_same, fun b hb => by rw [upd_ne hb, upd_ne hb]⟩
    generalize upd (upd H6 q6 (HO.dK [])) q6 (HO.dK (mergeK [] [(Sum.inr (PySem.Str.ofString "a"), V.int 1)])) = H7 at n7 ⊢
    refine ⟨by show 2 ≤ sizeLine; decide, fun q7 H8 n8 => ⟨by show 2 ≤ sizeLine; decide, fun q8 H9 n9 => ⟨by show 2 ≤ sizeLine; decide, fun q9 H10 n10 => ⟨by show 1 ≤ sizeLine; decide, fun q10 H11 n11 => ⟨by show 13 ≤ sizeLine; decide, fun b H12 n12 => ?_⟩⟩⟩⟩⟩
    have sB : Same H1 H12 := ((((((((((n2.same.trans n3.same).trans n4.same).trans n5.same).trans n6.same).trans n7.same).trans n8.same).trans n9.same).trans n10.same).trans n11.same).trans n12.same)
    refine ⟨a, b, _, _, rfl, rfl, sB _ _ n1.here, n12.here, by show 30 ≤ sizeLine; decide, fun e H13 n13 => ?_⟩
    have s13 : Same H H13 := (n1.same.trans sB).trans n13.same
    have nep : ∀ {q : Addr} {G : Hp}, Same H G → G q = none → q ≠ p := fun s f z => (hP.same s).ne f z.symm
    have t1 : Same H H1 := n1.same
    have t2 := t1.trans n2.same
    have t3 := t2.trans n3.same
    have t4 := t3.trans n4.same
    have t5 := t4.trans n5.same
    have t6 := t5.trans n6.same
    have t7 := t6.trans n7.same
    have t8 := t7.trans n8.same
    have t9 := t8.trans n9.same
    have t10 := t9.trans n10.same
    have t11 := t10.trans n11.same
    have t12 := t11.trans n12.same
    refine ⟨_, rfl, _, rfl, p, c, e, _, n, rfl, hP.same s13, hn, SqL.of n13.here, nep t12 n13.free, by show 0 < 30; decide, by show 30 ≤ 1000000; decide, fun H14 v d14 hv => ?_⟩
    have dr : DrewP H p c (n + 1) H14 := ⟨(But.of s13).trans d14.but, d14.pen⟩
    have back : ∀ {q : Addr} {o : HO} {G : Hp}, q ≠ p → G q = some o → Same G H13 → H14 q = some o := fun hq hg s => d14.but _ _ hq (s _ _ hg)
    have u12 : Same H12 H13 := n13.same
    have u11 := n12.same.trans u12
    have u10 := n11.same.trans u11
    have u9 := n10.same.trans u10
    have u8 := n9.same.trans u9
    have u7 := n8.same.trans u8
    have u6 := n7.same.trans u7
    have u5 := n6.same.trans u6
    have u4 := n5.same.trans u5
    have u3 := n4.same.trans u4
    have u2 := n3.same.trans u3
    have i1 := back (nep t1 n2.free) n2.here u2
    have i2 := back (nep t2 n3.free) n3.here u3
    have i3 := back (nep t3 n4.free) n4.here u4
    have i4 := back (nep t4 n5.free) n5.here u5
    have i5 := back (nep t5 n6.free) n6.here u6
    have i6 := back (nep t6 n7.free) n7.here u7
    have i7 := back (nep t7 n8.free) n8.here u8
    have i8 := back (nep t8 n9.free) n9.here u9
    have i9 := back (nep t9 n10.free) n10.here u10
    have i10 := back (nep t10 n11.free) n11.here u11
    have fine : ∀ (v : V) (d : PyData), Rp K p H14 d.hasDict v d → (fit d && decide (d.depth ≤ 4) && d.showable && decide (d.shown.length ≤ 200)) = true → Q v H14 := fun v d hd ho => by
      simp only [Bool.and_eq_true, decide_eq_true_eq] at ho
      exact k H14 v d dr hd ho.1.1.1 ho.1.1.2 ho.1.2 ho.2
    rcases List.mem_cons.mp hv with rfl | hv
    · exact fine _ _ (.non _) (by decide +kernel)
    rcases List.mem_cons.mp hv with rfl | hv
    · exact fine _ _ (.bl _ _) (by decide +kernel)
    rcases List.mem_cons.mp hv with rfl | hv
    · exact fine _ _ (.bl _ _) (by decide +kernel)
    iterate 8
      rcases List.mem_cons.mp hv with rfl | hv
      · exact fine _ _ (.int _ _) (by decide +kernel)
    iterate 9
      rcases List.mem_cons.mp hv with rfl | hv
      · exact fine _ _ (.str _ _) (by decide +kernel)
    have no : ∀ {P : Prop}, false = true → P := fun z => by cases z
    rcases List.mem_cons.mp hv with rfl | hv
    · exact fine _ (.tuple []) (.tup i1 (nep t1 n2.free) (.nil _)) (by decide +kernel)
    rcases List.mem_cons.mp hv with rfl | hv
    · exact fine _ (.list []) (.lst i2 (nep t2 n3.free) no (.nil _)) (by decide +kernel)
    rcases List.mem_cons.mp hv with rfl | hv
    · exact fine _ (.dict (([] : List PyData).zip [])) (.dct i3 (nep t3 n4.free) (.nil _) (.nil _) rfl) (by decide +kernel)
    rcases List.mem_cons.mp hv with rfl | hv
    · exact fine _ (.tuple [.str "a"]) (.tup i4 (nep t4 n5.free) (.cons (.str _ _) (.nil _))) (by decide +kernel)
    rcases List.mem_cons.mp hv with rfl | hv
    · exact fine _ (.list [.str "a"]) (.lst i5 (nep t5 n6.free) no (.cons (.str _ _) (.nil _))) (by decide +kernel)
    rcases List.mem_cons.mp hv with rfl | hv
    · exact fine _ (.dict ([PyData.str "a"].zip [PyData.int 1])) (.dct i6 (nep t6 n7.free) (.cons (.str _ _) (.nil _)) (.cons (.int _ _) (.nil _)) rfl) (by decide +kernel)
    rcases List.mem_cons.mp hv with rfl | hv
    · exact fine _ (.tuple [.str "a", .str "a"]) (.tup i7 (nep t7 n8.free) (.cons (.str _ _) (.cons (.str _ _) (.nil _)))) (by decide +kernel)
    rcases List.mem_cons.mp hv with rfl | hv
    · exact fine _ (.tuple [.str "0", .int 1]) (.tup i8 (nep t8 n9.free) (.cons (.str _ _) (.cons (.int _ _) (.nil _)))) (by decide +kernel)
    rcases List.mem_cons.mp hv with rfl | hv
    · exact fine _ (.list [.tuple [.str "0", .int 1]]) (.lst i10 (nep t10 n11.free) no (.cons (.tup i9 (nep t9 n10.free) (.cons (.str _ _) (.cons (.int _ _) (.nil _)))) (.nil _))) (by decide +kernel)
    rcases List.mem_cons.mp hv with rfl | hv
    · exact fine _ _ (.str _ _) (by decide +kernel)
    cases hv
end
end My
end
section
set_option Elab.async false
set_option linter.all false
set_option maxRecDepth 100000
set_option maxHeartbeats 4000000
namespace My
open PySem PySem.Spec PyProof.Rows L2
open PySem.HandSPX (excO)
/-! ### own errors over any built-in error -/
/-- what is asked of the chain of an own error's class -/
structure Chain (F : String) (bm : List Value) : Prop where
  base : bm.contains (.type F) = true
  attr : bm.contains (.type "AttributeError") = false
  name : bm.contains (.type "NameError") = false
  obj : bm.contains (.type "object") = true
  some : bm.isEmpty = false
  pass : ∀ self : Value, refuseLoop self "__setattr__" bm = pure ()
section
variable {prog : Program} {w : World} {A : Around} {E : Value → Shared → Prop} {R : Result → Shared → Prop} {h : Heap} {g : Array GenState} {d : Drawn} {t : Nat} {os : OsState}
variable {nm q : Str} {C N : Addr} {bs bm bmB : List Value} {sn : List Str} {sub : List Value} {ab : Bool} {col : Option Bool} {dd : Option Addr} {k0 k1 k2 k3 k5 : Option Value} {B newId initId : String}
/-- C(..): a fresh error, then the class's own __init__ -/
theorem make_own (F : ExcBaseFacts B newId initId bmB) (T : Chain B bm) {rest : List Value} {fI : Addr}
    (hC : h.get? C = some (excClassObj nm q C N bs bm true sn sub ab col dd k0 k1 k2 k3 k5 newId))
    (hi : PySem.W.Looks (model prog w) h (typeLookup (.ref C) "__init__") (some (.ref fI)))
    (hb : ∀ self, PySem.W.Looks (model prog w) h (bindSpecial (.ref fI) self) (.ref fI, [self])) (hl : rest.length ≤ sizeLine)
    (hq : codeAny (model prog w) (A.under (.builtin "type.__call__" ⟨.ref C :: rest, []⟩)) (.call (.ref fI) ⟨.ref (h.objs.size + 1) :: rest, []⟩) (PySem.W.InitBack (h.objs.size + 1) R)
      ⟨(h.push (PySem.W.kdv_tup rest)).push (excO C h.objs.size), g, d, t, os⟩) :
    codeAny (model prog w) A (.call (.ref C) ⟨rest, []⟩) R ⟨h, g, d, t, os⟩ := by
  have isB : (Value.ref C :: bm).contains (.type B) = true := by
    rw [List.contains_cons, T.base, Bool.or_true]
  have notA : (Value.ref C :: bm).contains (.type "AttributeError") = false := by
    rw [List.contains_cons, T.attr]; rfl
  have notN : (Value.ref C :: bm).contains (.type "NameError") = false := by
    rw [List.contains_cons, T.name]; rfl
  have isC : (Value.ref C :: bm).contains (.ref C) = true := by simp
  have ty : (⟨h, g, d, t, os⟩ : Shared).TypeIs (.ref C) "type" := ⟨_, hC, rfl⟩
  have t1 := tc_lookup
  have t2 := tc_bind (.ref C)
  have star := F.noStar
  have ends := F.ends
  have k : ∀ b o, h.get? b = some o → ((h.push (PySem.W.kdv_tup rest)).push (excO C h.objs.size)).get? b = some o := fun b o e =>
    Heap.get?_push_of_some _ (Heap.get?_push_of_some _ e)
  have i1 := hi.keeps k
  have b1 := (hb (.ref (h.objs.size + 1))).keeps k
  have new1 : ((h.push (PySem.W.kdv_tup rest)).push (excO C h.objs.size)).get? (h.objs.size + 1) = some (excO C h.objs.size) := by heap_get
  have hC1 := k _ _ hC
  refine codeAny_of_tree ?_
  show wpAny _ _ (callAny (.ref C) _) _ _ _
  repeat (any_goals (first
    | assumption
    | with_reducible refine wpAny_loadPart_at hC ?_
    | wp_step))
  refine ⟨rfl, ?_⟩
  refine codeAny_call_builtin_at (Code.quiet_builtin _ (by decide +kernel)) entry_typeCall (wpAny_check_type_call_sub hC ?_)
  repeat (first
    | with_reducible refine wpAny_loadPart_at hC ?_
    | with_reducible refine wpAny_madeBy_exc hC ?_
    | wp_step)
  refine codeAny_call_builtin_code (Code.quiet_builtin _ F.quiet) ?_
  · simp only [checkBuiltinCall, F.newKind, F.newSplit, F.newRow]
    repeat (first
      | refine wpAny_loadPart_at hC ?_
      | (refine wpAny_isSubtype_exc hC ?_
         rw [isB])
      | refine wpAny_staticBase_exc hC ?_
      | refine wpAny_madeBy_exc hC ?_
      | simp only [bne_self_eq_false, Bool.false_eq_true, if_false]
      | wp_step)
    refine codeAny_builtinAt F.entry ?_
    unfold Builtin.«BaseException.__new__»
    refine PySem.wpAt_bind ?_
    show PySem.wpAt _ _ _ (stack >>= _) _ _ _
    refine PySem.wpAt_bind (PySem.wpAt_stack fun p below => PySem.wpAt_of_wpAny ?_)
    wp_walk
    refine PySem.wpAt_of_wpAny ?_
    rw [F.owner]
    repeat (first
      | with_reducible refine wpAny_madeHere_exc F.canon hC ?_
      | with_reducible refine wpAny_loadPart_at hC ?_
      | (with_reducible refine wpAny_isSubtype_exc hC ?_
         first
           | rw [isB]
           | rw [notA]
           | rw [notN])
      | wp_step)
    rw [Heap.size_push]
    show wpAny _ _ (isSubtype (.ref C) (.ref C)) _ _ ⟨(h.push (PySem.W.kdv_tup rest)).push (excO C h.objs.size), g, d, t, os⟩
    refine wpAny_isSubtype_exc hC1 ?_
    rw [isC]
    repeat (first
      | with_reducible refine wpAny_loadPart_at new1 ?_
      | wp_step)
    show wpAny _ _ (typeLookup (.ref C) _) _ _ _
    refine i1.at ?_
    refine wpAny_holding (wpAny_bind (b1.at ?_))
    refine wpAny_bind (wpAny_call (codeAny_mono hq fun r s' z => ?_))
    rcases r with e | (v | _ | _ | _) <;> first | exact z | exact z.elim | skip
    obtain ⟨rfl, z⟩ := z
    first
      | exact wpAny_pure (wpAny_pure z)
      | (wp_walk; exact z)
end
end My
end
section
set_option Elab.async false
set_option linter.all false
set_option maxRecDepth 100000
set_option maxHeartbeats 4000000
namespace My
open PySem PySem.Spec PyProof.Rows L2
open PySem.HandSPX (excO)
/-! ### the field of an own error -/
section
open Builtin Builtin.ObjectAttr
variable {prog : Program} {w : World} {A : Around} {E : Value → Shared → Prop} {R : Result → Shared → Prop} {hp : Heap} {g : Array GenState} {d : Drawn} {t : Nat} {os : OsState}
/-- e.f = v, e an own error without a dict as yet -/
theorem err_store {K : PySem.W.Frag} {B : String} {bm : List Value} {f : Str} {tk : Tok} {v : Value} {x C : Addr} {fv : Array Value} {cd : ClassData} (T : Chain B bm)
    (X : K.In hp) (hx : hp.get? x = some { cls := .ref C, data := .fields fv }) (hcd : PySem.W.clsIn K C = some cd) (hm : cd.mro = .ref C :: bm) (hh : cd.hasDict = true)
    (ha : PySem.W.findIn K (.ref C) f = some none)
    (hq : ∀ h' tk' dx, (∀ b o, b ≠ x → hp.get? b = some o → h'.get? b = some o) → hp.objs.size ≤ dx → dx ≠ x →
      h'.get? x = some { cls := .ref C, dict := some dx, data := .fields fv } → h'.Ns1 dx (fun y => if y = f then some v else none) → R (.ok (.ret .none)) ⟨h', g, d, tk', os⟩) :
    codeAny (model prog w) A (.call (.builtin "object.__setattr__") ⟨[.ref x, .str f tk, v], []⟩) R ⟨hp, g, d, t, os⟩ := by
  have at0 : PySem.W.InstAt hp x { cls := .ref C, data := .fields fv } C none := ⟨hx, rfl, rfl, trivial⟩
  have st := F.store_object
  have obj : cd.mro.contains (.type "object") = true := by
    rw [hm, List.contains_cons, T.obj, Bool.or_true]
  have full : cd.mro.isEmpty = false := by rw [hm]; rfl
  have free : refuseLoop (.ref x) "__setattr__" cd.mro = pure () := by
    rw [hm, refuseLoop_ref]
    exact T.pass _
  have other : x ≠ hp.objs.size := Nat.ne_of_lt (Heap.lt_size hx)
  have isO : PySem.W.Looks (model prog w) hp (isInstance (.ref x) (.type "object")) true := at0.type.andThen
    (PySem.W.looks_mroIn X (by unfold PySem.W.mroIn; rw [hcd, Option.bind_some, if_neg (by rw [full]; decide), obj]))
  refine codeAny_call_builtin st.slot.plain st.entry (@PySem.W.check_slot (model prog w) _ _ ⟨hp, g, d, t, os⟩ "object.__setattr__" "object" "__setattr__"
    (.ref x) [.str f tk, v] [] _ st.kind st.split isO (st.args (.ref x) (.str f tk) v) ?_)
  have mro : PySem.W.Looks (model prog w) hp (mroOf (.ref C)) cd.mro := (PySem.W.looks_clsIn X hcd).andThen .now
  have taker : PySem.W.Looks (model prog w) hp (storeTaker? none) none := .now
  have data : PySem.W.Looks (model prog w) hp (classData C) cd := PySem.W.looks_clsIn X hcd
  rw [PySem.W.osa_eq, refuse_eq]
  refine wpAny_bind (wpAny_bind (at0.type.at (wpAny_bind (mro.at ?_))))
  rw [free]
  refine wpAny_pure (wpAny_bind (at0.type.at (wpAny_bind ((PySem.W.looks_findIn X ha).at (wpAny_bind (taker.at ?_))))))
  show wpAny _ _ (storeInOwnDict (.ref x) (.ref C) (.str f tk) f v false) _ _ _
  obtain ⟨nm, bs, mro, ns, qn, hd, sn, sb, ab, col, del⟩ := cd
  dsimp only at hh
  subst hh
  unfold storeInOwnDict ownDictForStores
  repeat (first
    | with_reducible refine PySem.HandSPX.store_in_new ?_ ?_
    | with_reducible refine wpAny_loadPart_at hx ?_
    | with_reducible refine data.at ?_
    | wp_step)
  · exact ⟨_, #[], _, (Heap.get?_update_ne _ _ _ _ other.symm).trans (Heap.get?_push_at rfl rfl), rfl, fun e he => absurd he (by simp), fun _ => rfl⟩
  · intro h' tk' hn' hs
    have hx1 : (hp.push { cls := .type "dict", data := .dict #[] }).get? x = some { cls := .ref C, data := .fields fv } := Heap.get?_push_of_some _ hx
    refine hq h' tk' hp.objs.size (fun b o hb ho => ?_) (Nat.le_refl _) other.symm ?_ hn'
    · exact (hs.2 b (Nat.ne_of_lt (Heap.lt_size ho))).trans ((Heap.get?_update_ne _ _ _ _ hb).trans (Heap.get?_push_of_some _ ho))
    · exact (hs.2 x other).trans (Heap.get?_update_self _ hx1 rfl)
end
/-! ### the class of an error that keeps one value -/
def eArgs (f : Str) (p1 p2 : Pos) : Arguments := { posonlyargs := [], args := [{ arg := "self", annotation := none, pos := p1 }, { arg := f, annotation := none, pos := p2 }], vararg := none, kwonlyargs := [], kw_defaults := [], kwarg := none, defaults := [] }
def eBody (f : Str) (q1 q2 q3 q4 : Pos) : List Stmt := [.Assign [.Attribute (.Name "self" q1) f q2] (.Name f q3) q4]
def eScope (f : Str) : Scope := { kind := .function, names := [(PySem.Str.ofString "self", .local), (f, .local)], isGenerator := false, isCoroutine := false, more := [] }
/-- the name of a field: no name that means something else in __init__ -/
structure Fld (f : Str) : Prop where
  bind : ∀ (qi : Str) (p1 p2 : Pos) (b : List Stmt) (doc pm : Value) (an : Option Addr) (cdv ct a v : Value),
    bindArgs (PySem.W.fnOf "__init__" qi (eArgs f p1 p2) b (eScope f) .none .none doc pm an cdv ct) ⟨[a, v], []⟩ = pure [(("self" : Str), a), (f, v)]
  loc : (eScope f).names.lookup f = some .local
  first : ∀ (qi : Str) (L a : Addr) (cd p v : Value), bindL (envOfC qi (eScope f) L a cd).kindOf [("self", p), (f, v)] (fun _ => none) "self" = some p
  snd : ∀ (qi : Str) (L a : Addr) (cd p v : Value), bindL (envOfC qi (eScope f) L a cd).kindOf [("self", p), (f, v)] (fun _ => none) f = some v
  dbg : (f == ("__debug__" : Str)) = false
theorem fld_value : Fld "value" where
  bind := fun _ _ _ _ _ _ _ _ _ _ _ => by first | rfl | with_unfolding_all rfl
  loc := by decide +kernel
  first := fun _ _ _ _ _ _ => by first | rfl | with_unfolding_all rfl
  snd := fun _ _ _ _ _ _ => by first | rfl | with_unfolding_all rfl
  dbg := by decide
/-- what the written part says of the class x at C, over the built-in error B, with the field f, and of its __init__ at fI -/
structure ErrC (K : PySem.W.Frag) (mg : Str → Option Value) (x f qi : Str) (B newId initId : String) (bmB bm : List Value) (C fI : Addr) : Prop where
  facts : ExcBaseFacts B newId initId bmB
  chain : Chain B bm
  gC : mg x = some (.ref C)
  cls : ∃ nm q N bs sn sub ab col dd k0 k1 k2 k3 k5, K.lookup C = some (excClassObj nm q C N bs bm true sn sub ab col dd k0 k1 k2 k3 k5 newId)
  sa : PySem.W.findIn K (.ref C) "__setattr__" = some (some (.builtin "object.__setattr__"))
  ga : PySem.W.findIn K (.ref C) "__getattribute__" = some (some (.builtin "BaseException.__getattribute__"))
  gg : PySem.W.findIn K (.ref C) "__getattr__" = some none
  noN : PySem.W.findIn K (.ref C) f = some none
  iC : PySem.W.findIn K (.ref C) "__init__" = some (some (.ref fI))
  tC : PySem.W.typeIn K (.ref fI) = some (.type "function")
  kC : PySem.W.keepIn K (.ref C) = true
  exC : PySem.W.subIn K (.ref C) (.type "BaseException") = some true
  tyC : PySem.W.typeIn K (.ref C) = some (.type "type")
  hdC : PySem.W.hasDictIn K C = true
  te : PySem.W.exmOne K (.ref C) (.ref C) = some true
  fn : ∃ (oc : Value) (od : Option Addr) (doc pm : Value) (an : Option Addr) (cdv ct : Value) (osl : Array (Option Value)) (p1 p2 q1 q2 q3 q4 : Pos),
    K.lookup fI = some ⟨oc, od, .func (PySem.W.fnOf "__init__" qi (eArgs f p1 p2) (eBody f q1 q2 q3 q4) (eScope f) .none .none doc pm an cdv ct), osl⟩ ∧ PySem.W.codeIn K cdv qi = true
/-- what __init__ leaves -/
structure Kept1 (h h' : Heap) (x C dx t1 : Addr) (f : Str) (v : Value) : Prop where
  keep : ∀ b o, b ≠ x → h.get? b = some o → h'.get? b = some o
  obj : h'.get? x = some { cls := .ref C, dict := some dx, data := .fields #[.ref t1, .none, .none, .none, .bool false, .none] }
  big : h.objs.size ≤ dx
  ne : dx ≠ x
  ns : h'.Ns1 dx (fun y => if y = f then some v else none)
/-- what C(v) leaves: the error at e, its dict at dx -/
structure Made1 (h h' : Heap) (e C dx : Addr) (f : Str) (v : Value) : Prop where
  keep : ∀ b o, h.get? b = some o → h'.get? b = some o
  new : h.objs.size ≤ e
  obj : ∃ oe vs, h'.get? e = some oe ∧ oe.cls = .ref C ∧ oe.dict = some dx ∧ oe.data = .fields vs ∧ vs[1]? = some .none
  big : h.objs.size ≤ dx
  ne : dx ≠ e
  ns : h'.Ns1 dx (fun y => if y = f then some v else none)
section
variable {prog : Program} {w : World} {A : Around} {E : Value → Shared → Prop} {R : Result → Shared → Prop} {s : Shared} {K : PySem.W.Frag} {mg : Str → Option Value} {x f qi : Str} {B newId initId : String} {bmB bm : List Value} {C fI : Addr}
theorem ld_local {M : Model} {s : Shared} {name : Str} {scope : Scope} {L a : Addr} {cd : Value} {m : Str → Option Value} {x : Str} {pos : Pos} {v : Value} {Q : Value → Shared → Prop} {A : Around} {E : Value → Shared → Prop}
    (hn : s.heap.Ns L m) (hv : m x = some v) (h : Q v s) (hk : scope.kind = .function) (hl : (envOfC name scope L a cd).kindOf x = some .local) (hd : (x == ("__debug__" : Str)) = false) :
    wpAny M A (eval (.Name x pos) (envOfC name scope L a cd)) Q E s :=
  wpAny_Name (wpAny_loadName_local hk hl hn hv h) hd
theorem err_init (T : ErrC K mg x f qi B newId initId bmB bm C fI) (Z : Fld f) {p t0 : Addr} {v : Value} (X : K.In s.heap) (hlim : s.heap.NoLimit) (hx : s.heap.get? p = some (excO C t0)) (room : A.depth < recursionLimit)
    (hq : ∀ h' tk dx, Kept1 s.heap h' p C dx t0 f v → R (.ok (.ret .none)) { s with heap := h', toks := tk }) :
    codeAny (model prog w) A (.call (.ref fI) ⟨[.ref p, v], []⟩) R s := by
  obtain ⟨oc, od, doc, pm, an, cdv, ct, osl, p1, p2, q1, q2, q3, q4, ho, hcd⟩ := T.fn
  obtain ⟨nm, q, N, bs, sn, sub, ab, col, dd, k0, k1, k2, k3, k5, hC⟩ := T.cls
  have hcl : PySem.W.clsIn K C = some { name := nm, bases := bs, mro := .ref C :: bm, ns := N, qualname := q, hasDict := true, slotNames := sn, subclasses := sub, abstract := ab, collection := col, hasDel := false } := by
    unfold PySem.W.clsIn
    rw [hC] <;> rfl
  refine Att.call_fn (binds := [("self", .ref p), (f, v)]) X hlim ho hcd room (BindsTo.of_eq (Z.bind ..)) ?_ (fun s₁ IC => ?_) rfl rfl rfl
  · have e : (eScope f).names.lookup ("self" : Str) = some .local := rfl
    show ((((eScope f).names.lookup ("self" : Str) == some .local) || ((eScope f).names.lookup ("self" : Str) == some .cell)) && ((((eScope f).names.lookup f == some .local) || ((eScope f).names.lookup f == some .cell)) && true)) = true
    rw [e, Z.loc]
    rfl
  obtain ⟨h₁, tk₁, rfl⟩ := IC.toInCall.same
  have k : ∀ b o, s.heap.get? b = some o → h₁.get? b = some o := IC.toInCall.keep
  have hn := IC.toInCall.ns
  have X1 : K.In h₁ := X.keeps k
  have hx1 := k _ _ hx
  show wpAny _ _ (execs _ _) _ _ _
  refine wpAny_execs_cons (plainObj_wpAny_Assign_Attribute ?_)
  refine ld_local (v := v) hn (Z.snd ..) (ld_local (v := .ref p) hn (Z.first ..) ?_ rfl rfl (by decide)) rfl Z.loc Z.dbg
  refine PySem.W.set_plain X1 (ox := excO C t0) (od := none) ⟨hx1, rfl, rfl, trivial⟩ T.sa ?_
  refine err_store T.chain X1 hx1 hcl rfl rfl T.noN (fun h₃ tk₃ dx k₃ dn dne hx₃ hn₃ => ?_)
  show wpAny _ _ (execs _ _) _ _ _
  have z : s.heap.objs.size < h₁.objs.size := hn.lt
  exact wpAny_execs_nil (hq h₃ tk₃ dx ⟨fun b o hb e => k₃ b o hb (k b o e), hx₃, Nat.le_of_lt (Nat.lt_of_lt_of_le z dn), dne, hn₃⟩)
theorem err_made (T : ErrC K mg x f qi B newId initId bmB bm C fI) (Z : Fld f) {v : Value} (X : K.In s.heap) (hlim : s.heap.NoLimit) (room : A.depth + 1 < recursionLimit)
    (hq : ∀ h' tk e d, Made1 s.heap h' e C d f v → R (.ok (.ret (.ref e))) { s with heap := h', toks := tk }) :
    codeAny (model prog w) A (.call (.ref C) ⟨[v], []⟩) R s := by
  obtain ⟨nm, q, N, bs, sn, sub, ab, col, dd, k0, k1, k2, k3, k5, hC⟩ := T.cls
  obtain ⟨hp, g, dr, tk, os⟩ := s
  have k : ∀ b o, hp.get? b = some o → ((hp.push (PySem.W.kdv_tup [v])).push (excO C hp.objs.size)).get? b = some o := fun b o e =>
    Heap.get?_push_of_some _ (Heap.get?_push_of_some _ e)
  have here : ((hp.push (PySem.W.kdv_tup [v])).push (excO C hp.objs.size)).get? (hp.objs.size + 1) = some (excO C hp.objs.size) := by heap_get
  have one : [v].length ≤ sizeLine := by
    rw [sizeLine_eq]
    exact (by decide : 1 ≤ 16777216)
  refine make_own T.facts T.chain (X _ _ hC) (PySem.W.looks_findIn X T.iC) (fun self => PySem.W.bind_fn X self T.tC) one ?_
  refine err_init (s := ⟨(hp.push (PySem.W.kdv_tup [v])).push (excO C hp.objs.size), g, dr, tk, os⟩) T Z (X.keeps k) (hlim.keeps k) here ?_ fun h' tk' dx ⟨k', hx, dn, dne, hns⟩ => ?_
  · show A.depth + 1 < recursionLimit
    exact room
  · have old : ∀ b o, hp.get? b = some o → h'.get? b = some o := fun b o e => k' b o (Nat.ne_of_lt (Nat.lt_succ_of_lt (Heap.lt_size e))) (k b o e)
    have z : hp.objs.size + 1 + 1 ≤ dx := by
      have q := dn
      rw [Heap.size_push, Heap.size_push] at q
      exact q
    exact ⟨rfl, hq h' tk' (hp.objs.size + 1) dx ⟨old, Nat.le_succ _, ⟨_, _, hx, rfl, rfl, rfl, rfl⟩, Nat.le_trans (Nat.le_trans (Nat.le_succ _) (Nat.le_succ _)) z, dne, hns⟩⟩
end
/-! ### the error in rules -/
theorem relO_one {f : Str} {v : V} {v' : Value} (r : RelV v v') (y : Str) : RelO (List.lookup y [(f, v)]) (if y = f then some v' else none) := by
  by_cases e : y = f
  · subst e
    rw [if_pos rfl]
    have q : List.lookup y [(y, v)] = some v := by simp [List.lookup]
    rw [q]
    exact r
  · rw [if_neg e]
    have q1 : (y == f) = false := by simpa using e
    have q2 : List.lookup y [(f, v)] = none := by simp [List.lookup, q1]
    rw [q2]
    trivial
section
variable {X : Cx} {x f qi : Str} {B newId initId : String} {bmB bm : List Value} {C fI : Addr}
/-- C(e) -/
def tErr (C : Addr) (f : Str) (ta : TA) : L2.St → Hp → XK → Prop := fun σ H Q => ta σ H fun vs H1 => ∃ v, vs = [v] ∧ ∀ d, H1 d = none → Q (.ref C) (some d) (upd H1 d (.xd [(f, v)]))
theorem pmk_err {a : Expr} {ta : TA} {p pos : Pos} {k : Nat} (T : ErrC X.K X.mg x f qi B newId initId bmB bm C fI) (Z : Fld f) (hr : Room k X.A) (hk : 1 ≤ k) (ha : PA X [a] ta) (hg : Gl X x)
    (hdb : (x == ("__debug__" : Str)) = false := by decide)
    (he : starEach (a :: []) X.env = (false, eval a X.env) :: starEach [] X.env := by rfl) (hpl : (backTo pos (starEach [] X.env)).any (·.1) = false := by rfl) :
    PMk X (.Call (.Name x p) [a] [] pos) (tErr C f ta) := by
  intro pins s σ H Q I h
  refine wpAny_Call_Name_kw (ld_glob I hg T.gC ?_ hdb)
  refine PySem.W.callWith_K (h₀ := X.base) I.ok.mod.kin T.kC (thn (ha.run pos pins s σ H _ I h) fun us s1 hh => ?_) he hpl
  obtain ⟨vs, H1, I1, r1, v, ev, q1⟩ := hh
  subst ev
  refine ⟨I1.kIn, ?_⟩
  obtain ⟨v', rfl, rv⟩ := vals1 r1
  show wpAny _ _ (call (.ref C) [v']) _ _ _
  have hlim := I1.nolimit
  obtain ⟨hp, g, dr, tk, os⟩ := s1
  refine wpAny_call (err_made T Z I1.kIn hlim (by have := hr.dp; omega) fun h' tk' e d M => ?_)
  show MkP X pins σ Q (.ref e) ⟨h', g, dr, tk', os⟩
  obtain ⟨oe, fv, hoe, hc, hd, hdat, h1⟩ := M.obj
  have hns := M.ns
  obtain ⟨G', g1, g2⟩ := restrict h' fun b => decide (b ≠ e)
  have gk : ∀ b, b ≠ e → G'.get? b = h'.get? b := fun b hb => g1 b (decide_eq_true hb)
  have ge : G'.get? e = none := g2 e (by simp)
  have old : ∀ b o, hp.get? b = some o → G'.get? b = some o := fun b o q => (gk b (Nat.ne_of_lt (Nat.lt_of_lt_of_le (Heap.lt_size q) M.new))).trans (M.keep b o q)
  have ob : ObjOk X.prog X.w (upd H1 d (.xd [(f, v)])) G' d (.xd [(f, v)]) := ⟨_, hns.at (fun o q => (gk d M.ne).trans q), fun y => relO_one rv y⟩
  have J : Inv X pins σ (upd H1 d (.xd [(f, v)])) ⟨G', g, dr, tk', os⟩ := I1.laid (t' := tk') old M.big ob
  refine ⟨e, oe, fv, ⟨G', g, dr, tk', os⟩, _, .ref C, some d, rfl, J, fun b o q => ?_, ge, hoe, ⟨hc, hd⟩, hdat, h1, ?_, rfl, I1.bare, raises_own T.exC T.tyC, q1 d (I1.hok.fresh M.big)⟩
  · by_cases hb : b = e
    · have q' : G'.get? b = some o := q
      rw [hb, ge] at q'
      cases q'
    · exact (gk b hb).symm.trans q
  · rw [upd_ne (Ne.symm M.ne)]
    exact I1.hok.fresh M.new
/-- raise C(e) -/
def tRaiseErr (C : Addr) (f : Str) (W : WX) (ta : TA) : TS := fun _ σ H => tErr C f ta σ H fun cls d H' => W cls d σ H'
theorem ps_raiseErr {a : Expr} {ta : TA} {W : WX} {p pos pos2 : Pos} {k : Nat} (hc : X.calm = true) (T : ErrC X.K X.mg x f qi B newId initId bmB bm C fI) (Z : Fld f) (hr : Room k X.A) (hk : 1 ≤ k) (tk : Takes X W) (ha : PA X [a] ta) (hg : Gl X x)
    (hdb : (x == ("__debug__" : Str)) = false := by decide)
    (he : starEach (a :: []) X.env = (false, eval a X.env) :: starEach [] X.env := by rfl) (hpl : (backTo pos (starEach [] X.env)).any (·.1) = false := by rfl) :
    PS X (.Raise (some (.Call (.Name x p) [a] [] pos)) none pos2) (tRaiseErr C f W ta) := ps_raise hc tk (pmk_err T Z hr hk ha hg hdb he hpl)
/-- e.f in the suite that holds e -/
def tErrF (C : Addr) (f : Str) (a : Addr) (cls : Value) (d : Option Addr) (te : TE) : TE := fun σ H Q => te σ H fun y H1 => y = .ref a ∧ cls = .ref C ∧ ∃ (dd : Addr) (v : V), d = some dd ∧ H1 dd = some (.xd [(f, v)]) ∧ Q v H1
theorem pe_errF {a : Addr} {oe : Obj} {cls : Value} {d : Option Addr} {pn : List (Addr × Obj)} {e : Expr} {te : TE} {pos : Pos} (T : ErrC X.K X.mg x f qi B newId initId bmB bm C fI) (hz : Zc cls d oe) (hf : ∃ vs, oe.data = .fields vs) (he : PE (X.suite a ((a, oe) :: pn)) e te)
    (hb : attributeBase e f X.env (eval e X.env) = eval e X.env := by rfl) :
    PE (X.suite a ((a, oe) :: pn)) (.Attribute e f pos) (tErrF C f a cls d te) := by
  refine ⟨fun pins s σ H Q I h => ?_⟩
  refine attr_of hb (thn (he.run pins s σ H _ I h) fun u s1 hh => ?_)
  obtain ⟨y, H1, I1, ry, ey, ec, dd, v, ed, ea, q⟩ := hh
  subst ey
  obtain rfl : u = Value.ref a := ry
  subst ec
  subst ed
  obtain ⟨ha, _⟩ := I1.pin (a, oe) (List.mem_append_left _ List.mem_cons_self)
  obtain ⟨vs, hd⟩ := hf
  have hx : ObjOk X.prog X.w H1 s1.heap dd (.xd [(f, v)]) := I1.hok dd _ ea
  obtain ⟨mA, hns, hr⟩ := hx
  obtain ⟨od, ho, hl⟩ := lookIn_ns hns
  have l : List.lookup f [(f, v)] = some v := by simp [List.lookup]
  obtain ⟨u, hu, ru⟩ := RelO.some_of (v := v) (o := mA f) (by rw [← l]; exact hr f)
  have J : PySem.W.InstAt s1.heap a oe C (some od) := ⟨ha, hz.1, by unfold PySem.W.notCls; rw [hd] <;> rfl, by rw [hz.2]; exact ho⟩
  exact HandSPX.exc_get I1.kIn J T.ga T.gg T.exC (PySem.W.findObj_own T.hdC T.noN rfl (by rw [hl, hu])) (handed_of ru) ⟨v, H1, I1.tok _, ru, q⟩
end
/-! ### the chains of the built-in errors -/
abbrev bmValue : List Value := [.type "ValueError", .type "Exception", .type "BaseException", .type "object"]
abbrev bmLookup : List Value := [.type "LookupError", .type "Exception", .type "BaseException", .type "object"]
abbrev bmKey : List Value := [.type "KeyError", .type "LookupError", .type "Exception", .type "BaseException", .type "object"]
theorem chain_Value : Chain "ValueError" bmValue := ⟨by decide +kernel, by decide +kernel, by decide +kernel, by decide +kernel, rfl, PySem.F.store_ValueError.passes⟩
theorem key_pass (self : Value) : refuseLoop self "__setattr__" bmKey = pure () := by
  first
    | kernel_rfl
    | rfl
theorem chain_Key : Chain "LookupError" bmKey := ⟨by decide +kernel, by decide +kernel, by decide +kernel, by decide +kernel, rfl, key_pass⟩
end My
end
section
set_option Elab.async false
set_option linter.all false
set_option maxRecDepth 100000
set_option maxHeartbeats 4000000
namespace My
open PySem PySem.Spec PyProof.Rows L2
/-- a statement of a class body -/
def inCls (s : Stmt) (i : Nat) : Stmt := match s with
  | .ClassDef _ _ _ b _ _ _ _ _ _ _ => b.getD i (.Pass ⟨0, 0, 0, 0⟩)
  | _ => .Pass ⟨0, 0, 0, 0⟩
abbrev s_cls : Stmt := topS 16
abbrev s_init : Stmt := inCls s_cls 1
/-- what a font keeps -/
def fontFs (S : Str) (r : Addr) : List (Str × V) := putF "_turns" (.ref r) (putF "_signs" (.str S) [])
theorem fs_signs (S : Str) (r : Addr) : List.lookup ("_signs" : Str) (fontFs S r) = some (V.str S) := rfl
theorem fs_turns (S : Str) (r : Addr) : List.lookup ("_turns" : Str) (fontFs S r) = some (V.ref r) := rfl
/-- a font at a -/
structure FontAt (H : Hp) (C a : Addr) (S : Str) (ps : List (Nat × Nat)) : Prop where
  at_ : ∃ dx r ys, H a = some (.ins C dx (fontFs S r)) ∧ H r = some (.tup ys) ∧ PairsAt H ps ys
theorem FontAt.same {H H1 : Hp} {C a : Addr} {S : Str} {ps : List (Nat × Nat)} (s : Same H H1) (h : FontAt H C a S ps) : FontAt H1 C a S ps := by
  obtain ⟨dx, r, ys, h1, h2, h3⟩ := h.at_
  exact ⟨dx, r, ys, s _ _ h1, s _ _ h2, h3.same s⟩
def sp_init (K : PySem.W.Frag) (C : Addr) : Sp := fun vs H Q _ => ∃ (a dx p : Addr) (S : Str) (v : V) (d : PyData) (ps : List (Nat × Nat)), vs = [.ref a, .str S, v] ∧ H a = some (.ins C dx []) ∧ Rp K p H false v d ∧ fit d = true ∧ fontD (.str S) = true ∧ keptD S d = some ps ∧
  ∀ H', But a H H' → FontAt H' C a S ps → Q .non H'
section
variable {P : Program} {w : World} {K : PySem.W.Frag} {mg : Str → Option Value} {base : Heap}
theorem sc_init : FnScope ["self", "signs", "turns", "pairs"] ["self", "signs", "turns"] (defScope s_init) := ⟨rfl, rfl, rfl, by decide +kernel, rfl, by decide +kernel, by decide +kernel⟩
theorem ok_init {f fF fK C : Addr} {fd fdF fdK : FuncData} {dvs : List V} (F : FunD K "__init__" "Font.__init__" (defArgs s_init) (defBody s_init) (defScope s_init) dvs [] f fd) (c : Cls K C) (n1 : NoAttr K C "_signs") (n2 : NoAttr K C "_turns")
    (DF : Def K mg "is_font_signs" fF fdF ["value"]) (GF : FnOk P w K mg base CX0 2 fF fdF ["value"] (sp_isFont K)) (DK : Def K mg "kept_turns" fK fdK ["signs", "turns"]) (GK : FnOk P w K mg base CX0 3 fK fdK ["signs", "turns"] (sp_kept K)) :
    FnOk P w K mg base CX0 4 f fd ["self", "signs", "turns"] (sp_init K C) := by
  refine F.ok sc_init (fun vs H Q E h => ?_) (fun cdv A outer s H vs Q E hr h => ?_)
  · obtain ⟨a, dx, p, S, v, d, ps, rfl, _⟩ := h
    rfl
  · obtain ⟨a, dx, p, S, v, d, ps, rfl, ha, hd, hf, hF, hK, k⟩ := h
    have hr2 : Room 2 _ := hr.mono (by decide)
    refine ⟨_, PSs.nox (pss_cons (ps_if (pt_not (pt_val (pe_call GF hr2 rfl DF.mgf DF.kp DF.bd .nil pass0 (pa_cons (pv 1) pa_nil)))) (pss_one ps_never) pss_nil)
      (pss_cons (ps_set (i := 3) sc_init.nd rfl (Or.inl rfl) (pe_call GK hr rfl DK.mgf DK.kp DK.bd .nil pass0 (pa_cons (pv 1) (pa_cons (pv 2) pa_nil))))
      (pss_cons (ps_if (pt_cmp (pc_isN (pv 3))) (pss_one ps_never) pss_nil)
      (pss_cons (ps_fld (pv 0) (pv 1) rfl)
      (pss_one (ps_fld (pv 0) (pv 3) rfl)))))), ?_⟩
    have hlen : S.length ≤ 10 := by
      rw [fontD_str, Bool.and_eq_true, decide_eq_true_eq] at hF
      exact hF.1.2
    refine ⟨_, rfl, .str S, .str S, p, rfl, Rp.str _ S, Nat.le_trans hlen (by decide), fun H1 s1 => ⟨_, rfl, ?_⟩⟩
    rw [hF]
    refine iteF ?_
    refine ⟨_, rfl, _, rfl, S, v, d, p, rfl, hd.but (.of s1), hf, Nat.le_trans hlen (by decide), fun e => absurd (e.symm.trans hK) (by intro z; cases z), fun ps' hps H2 r ys s2 f2 h2 hP2 => ?_⟩
    rw [hK] at hps
    obtain rfl := Option.some.inj hps
    have s12 : Same H H2 := s1.trans s2
    have ha2 := s12 _ _ ha
    refine ⟨_, rfl, _, rfl, iteF ?_⟩
    refine ⟨_, rfl, _, rfl, a, C, dx, [], rfl, ha2, c, n1, by decide, ?_⟩
    have w3 : Wr H2 a (.ins C dx (putF "_signs" (.str S) [])) (upd H2 a (.ins C dx (putF "_signs" (.str S) []))) := .mk'
    generalize upd H2 a (HO.ins C dx (putF "_signs" (V.str S) [])) = H3 at w3 ⊢
    refine ⟨_, rfl, _, rfl, a, C, dx, _, rfl, w3.here, c, n2, (show 1 < 1000 by decide), ?_⟩
    have w4 : Wr H3 a (.ins C dx (putF "_turns" (.ref r) (putF "_signs" (.str S) []))) (upd H3 a (.ins C dx (putF "_turns" (.ref r) (putF "_signs" (.str S) [])))) := .mk'
    generalize upd H3 a (HO.ins C dx (putF "_turns" (V.ref r) (putF "_signs" (V.str S) []))) = H4 at w4 ⊢
    have el : ∀ {q : Addr} {xs : List V}, H2 q = some (.tup xs) → H4 q = some (.tup xs) := fun {q xs} e => by
      have ne : q ≠ a := ne_of e ha2 (by intro z; cases z)
      exact (w4.els q ne).trans ((w3.els q ne).trans e)
    refine k _ (((But.of s12).trans w3.but).trans w4.but) ⟨dx, r, ys, w4.here, el h2, Paired.map (fun e y hy => ?_) hP2⟩
    obtain ⟨q, e1, e2⟩ := hy
    exact ⟨q, e1, el e2⟩
end
end My
end
section
set_option Elab.async false
set_option linter.all false
set_option maxRecDepth 100000
set_option maxHeartbeats 4000000
namespace My
open PySem PySem.Spec PyProof.Rows L2
/-! ### len(x), v in x, v not in x, x of an own class -/
/-- the class has the name as a def at f -/
structure Own (K : PySem.W.Frag) (C : Addr) (m : Str) (f : Addr) : Prop where
  at_ : PySem.W.findIn K (.ref C) m = some (some (.ref f))
  fn : PySem.W.isFn K (.ref f) = true
section
variable {X : Cx} {k : Nat} {C f : Addr} {fd : FuncData} {sp : Sp}
/-- len(x) -/
def qLenO (C : Addr) (sp : Sp) : List V → Hp → VK → Prop := fun xs H Q => ∃ a dx fs, xs = [.ref a] ∧ H a = some (.ins C dx fs) ∧ sp [.ref a] H (fun v H' => ∃ n : Nat, v = .int n ∧ n < 2 ^ 60 ∧ Q (.int n) H') E0
theorem call_lenO (O : Own X.K C "__len__" f) (F : FnOk X.prog X.w X.K X.mg X.base CX0 k f fd ["self"] sp) (hr : Room (k + 1) X.A) (hb : Binds X.K fd ["self"] []) : CallR X (.builtin "len") (qLenO C sp) := by
  intro pins s σ H xs us Q I r h
  obtain ⟨a, dx, fs, rfl, ea, q⟩ := h
  obtain ⟨u, rfl, rx⟩ := vals1 r
  obtain rfl : u = Value.ref a := rx
  obtain ⟨mA, od0, _, _, _, _⟩ := ins_get I.hok ea
  obtain ⟨od, J, _⟩ := od0.look
  obtain ⟨m, fr⟩ := I.fr
  refine PySem.W.len_K fr I.ok.mod.kin J O.at_ O.fn (wpAny_call ?_)
  refine codeAny_mono (F.run X.A.in1 X.stack s H ⟨[.ref a], []⟩ [.ref a] [.ref a] _ _ hr.in1 I.env0.in1 (hb _ [.ref a] I.kIn rfl) (.cons rfl .nil) q) fun r s' hq => ?_
  cases r with
  | error er => exact False.elim hq
  | ok fl =>
    cases fl with
    | ret u =>
      obtain ⟨v, H', I3, rv, n, ev, hn, q3⟩ := I.after hq
      subst ev
      obtain ⟨t, rfl⟩ := rv
      exact ⟨⟨by omega, by omega⟩, .int n, H', I3.tok _, ⟨_, rfl⟩, q3⟩
    | next => exact False.elim hq
    | brk => exact False.elim hq
    | cont => exact False.elim hq
/-- v in x -/
def qInO (C : Addr) (sp : Sp) (neg : Bool) : R2 := fun y x H Q => ∃ a dx fs, x = .ref a ∧ H a = some (.ins C dx fs) ∧ sp [.ref a, y] H (fun v H' => ∃ b : Bool, v = .bl b ∧ Q (.bl (if neg then !b else b)) H') E0
variable {it : Str}
theorem op_inO (O : Own X.K C "__contains__" f) (F : FnOk X.prog X.w X.K X.mg X.base CX0 k f fd ["self", it] sp) (hr : Room k X.A) (hb : Binds X.K fd ["self", it] []) : OpR X (compareOp .In) (qInO C sp false) := by
  intro pins s σ H y x v u Q I ry rx h
  obtain ⟨a, dx, fs, rfl, ea, q⟩ := h
  obtain rfl : u = Value.ref a := rx
  obtain ⟨mA, od0, _, _, _, _⟩ := ins_get I.hok ea
  obtain ⟨od, J, _⟩ := od0.look
  obtain ⟨m, fr⟩ := I.fr
  refine PySem.W.in_K fr I.ok.mod.kin J O.at_ O.fn (wpAny_call ?_)
  refine codeAny_mono (F.run X.A X.stack s H ⟨[.ref a, v], []⟩ [.ref a, v] [.ref a, y] _ _ hr I.env0 (hb _ [.ref a, v] I.kIn rfl) (.cons rfl (.cons ry .nil)) q) fun r s' hq => ?_
  cases r with
  | error er => exact False.elim hq
  | ok fl =>
    cases fl with
    | ret u =>
      obtain ⟨z, H', I3, rv, b, ev, q3⟩ := I.after hq
      subst ev
      obtain rfl : u = Value.bool b := rv
      exact wpAny_truthy_bool ⟨.bl b, H', I3, rfl, q3⟩
    | next => exact False.elim hq
    | brk => exact False.elim hq
    | cont => exact False.elim hq
theorem op_notInO (O : Own X.K C "__contains__" f) (F : FnOk X.prog X.w X.K X.mg X.base CX0 k f fd ["self", it] sp) (hr : Room k X.A) (hb : Binds X.K fd ["self", it] []) : OpR X (compareOp .NotIn) (qInO C sp true) := by
  intro pins s σ H y x v u Q I ry rx h
  obtain ⟨a, dx, fs, rfl, ea, q⟩ := h
  obtain rfl : u = Value.ref a := rx
  obtain ⟨mA, od0, _, _, _, _⟩ := ins_get I.hok ea
  obtain ⟨od, J, _⟩ := od0.look
  obtain ⟨m, fr⟩ := I.fr
  refine PySem.W.notIn_K fr I.ok.mod.kin J O.at_ O.fn (wpAny_call ?_)
  refine codeAny_mono (F.run X.A X.stack s H ⟨[.ref a, v], []⟩ [.ref a, v] [.ref a, y] _ _ hr I.env0 (hb _ [.ref a, v] I.kIn rfl) (.cons rfl (.cons ry .nil)) q) fun r s' hq => ?_
  cases r with
  | error er => exact False.elim hq
  | ok fl =>
    cases fl with
    | ret u =>
      obtain ⟨z, H', I3, rv, b, ev, q3⟩ := I.after hq
      subst ev
      obtain rfl : u = Value.bool b := rv
      exact wpAny_truthy_bool ⟨.bl (!b), H', I3, rfl, q3⟩
    | next => exact False.elim hq
    | brk => exact False.elim hq
    | cont => exact False.elim hq
end
end My
end
section
set_option Elab.async false
set_option linter.all false
set_option maxRecDepth 100000
set_option maxHeartbeats 4000000
namespace My
open PySem PySem.Spec PyProof.Rows L2
abbrev s_flen : Stmt := inCls s_cls 6
abbrev s_fcont : Stmt := inCls s_cls 7
abbrev s_turned : Stmt := inCls s_cls 9
/-- the sign that another shows on its head -/
def turnOf : List (Nat × Nat) → Nat → Option Nat
  | [], _ => none
  | e :: r, c => if c = e.1 then some e.2 else if c = e.2 then some e.1 else turnOf r c
def sgO : Option Nat → V
  | some b => sg b
  | none => .non
def sp_flen (C : Addr) : Sp := fun vs H Q _ => ∃ (a : Addr) (S : Str) (ps : List (Nat × Nat)), vs = [.ref a] ∧ FontAt H C a S ps ∧ S.length ≤ 4000 ∧ Q (.int S.length) H
def sp_fcont (K : PySem.W.Frag) (C : Addr) : Sp := fun vs H Q _ => ∃ (a p : Addr) (S : Str) (ps : List (Nat × Nat)) (v : V) (d : PyData), vs = [.ref a, v] ∧ FontAt H C a S ps ∧ Rp K p H false v d ∧ textFits sizeLine d ∧ Q (.bl (signD S d)) H
def sp_turned (K : PySem.W.Frag) (C U : Addr) : Sp := fun vs H Q E => ∃ (a p : Addr) (S : Str) (ps : List (Nat × Nat)) (v : V) (d : PyData), vs = [.ref a, v] ∧ FontAt H C a S ps ∧ Rp K p H false v d ∧ textFits sizeLine d ∧
  (signD S d = false → ∀ dd, H dd = none → E (.ref U) (some dd) (upd H dd (.xd [("value", v)]))) ∧ (∀ c, d = .str ⟨#[c]⟩ → c ∈ S.cps.toList → Q (sgO (turnOf ps c)) H)
section
variable {P : Program} {w : World} {K : PySem.W.Frag} {mg : Str → Option Value} {base : Heap}
theorem sc_flen : FnScope ["self"] ["self"] (defScope s_flen) := ⟨rfl, rfl, rfl, by decide +kernel, rfl, by decide +kernel, by decide +kernel⟩
theorem ok_flen {f C : Addr} {fd : FuncData} (F : Fun K "__len__" "Font.__len__" s_flen f fd) (T : TB mg) (c : Cls K C) (n1 : NoAttr K C "_signs") : FnOk P w K mg base CX0 1 f fd ["self"] (sp_flen C) := by
  refine F.ok sc_flen (fun vs H Q E h => ?_) (fun cdv A outer s H vs Q E hr h => ?_)
  · obtain ⟨a, S, ps, rfl, _⟩ := h
    rfl
  · obtain ⟨a, S, ps, rfl, hF, hS, k⟩ := h
    obtain ⟨dx, r, ys, h1, h2, h3⟩ := hF.at_
    refine ⟨_, pss_one (ps_ret (pe_callB call_len_str (by rfl) T.len PySem.boot_len (pa_cons (pe_fld (pv 0) rfl) pa_nil))), ?_⟩
    exact ⟨_, rfl, a, C, dx, _, _, rfl, h1, c, n1, fs_signs S r, S, rfl, Nat.le_trans hS (by decide), k⟩
theorem sc_fcont : FnScope ["self", "x"] ["self", "x"] (defScope s_fcont) := ⟨rfl, rfl, rfl, by decide +kernel, rfl, by decide +kernel, by decide +kernel⟩
theorem ok_fcont {f C fI : Addr} {fd fdI : FuncData} (F : Fun K "__contains__" "Font.__contains__" s_fcont f fd) (c : Cls K C) (n1 : NoAttr K C "_signs") (D : Def K mg "is_sign" fI fdI ["signs", "value"]) (G : FnOk P w K mg base CX0 1 fI fdI ["signs", "value"] (sp_isSign K)) :
    FnOk P w K mg base CX0 2 f fd ["self", "x"] (sp_fcont K C) := by
  refine F.ok sc_fcont (fun vs H Q E h => ?_) (fun cdv A outer s H vs Q E hr h => ?_)
  · obtain ⟨a, p, S, ps, v, d, rfl, _⟩ := h
    rfl
  · obtain ⟨a, p, S, ps, v, d, rfl, hF, hd, hz, k⟩ := h
    obtain ⟨dx, r, ys, h1, h2, h3⟩ := hF.at_
    refine ⟨_, pss_one (ps_ret (pe_call G hr rfl D.mgf D.kp D.bd .nil pass0 (pa_cons (pe_fld (pv 0) rfl) (pa_cons (pv 1) pa_nil)))), ?_⟩
    exact ⟨_, rfl, a, C, dx, _, _, rfl, h1, c, n1, fs_signs S r, _, rfl, S, v, d, p, rfl, hd, hz, k⟩
theorem sc_turned : FnScope ["self", "sign", "one", "other"] ["self", "sign"] (defScope s_turned) := ⟨rfl, rfl, rfl, by decide +kernel, rfl, by decide +kernel, by decide +kernel⟩
theorem ok_turned {f C fC U fI : Addr} {fd fdC : FuncData} (F : Fun K "turned" "Font.turned" s_turned f fd) (c : Cls K C) (n2 : NoAttr K C "_turns") (O : Own K C "__contains__" fC) (G : FnOk P w K mg base CX0 2 fC fdC ["self", "x"] (sp_fcont K C)) (hb : Binds K fdC ["self", "x"] [])
    (T : ErrC K mg "UnknownSign" "value" "UnknownSign.__init__" "LookupError" "LookupError.__new__" "LookupError.__init__" bmLookup bmKey U fI) :
    FnOk P w K mg base (L2.CX P w) 3 f fd ["self", "sign"] (sp_turned K C U) := by
  refine F.okX sc_turned (fun vs H Q E h => ?_) (fun cdv A outer s H vs Q E hr h => ?_)
  · obtain ⟨a, p, S, ps, v, d, rfl, _⟩ := h
    rfl
  · obtain ⟨a, p, S, ps, v, d, rfl, hF, hd, hz, kE, kQ⟩ := h
    obtain ⟨dx, r, ys, h1, h2, h3⟩ := hF.at_
    refine ⟨_, pss_cons (ps_if (pt_cmpR (op_notInO O G hr hb) (pv 1) (pv 0) (by rfl)) (pss_one (ps_raiseErr rfl T fld_value hr (show 1 ≤ 2 by decide) (takes_of rfl rfl rfl rfl) (by exact (pa_cons (pv 1) pa_nil)) rfl)) pss_nil)
      (PSs.nox (pss_cons (ps_for PassesOwn.never rfl (pi_seq (pe_fld (pv 0) rfl)) (pg_tup rfl (pgs_cons (pg_name (i := 2) sc_turned.nd rfl (Or.inl rfl)) (pgs_cons (pg_name (i := 3) sc_turned.nd rfl (Or.inl rfl)) pgs_nil)))
        (pss_cons (ps_if (pt_cmpR op_eq (pv 1) (pv 2) (nomark _)) (pss_one (ps_ret (pv 3))) pss_nil)
        (pss_one (ps_if (pt_cmpR op_eq (pv 1) (pv 3) (nomark _)) (pss_one (ps_ret (pv 2))) pss_nil))))
      (pss_one (ps_ret pe_non)))), ?_⟩
    refine ⟨_, rfl, _, rfl, a, dx, _, rfl, h1, a, p, S, ps, v, d, rfl, hF, hd, hz, signD S d, rfl, _, rfl, ?_⟩
    cases hs : signD S d with
    | false => exact iteT ⟨_, rfl, _, rfl, fun dd hdd => kE hs dd hdd⟩
    | true =>
      obtain ⟨ch, rfl, hch⟩ : ∃ ch, d = .str ⟨#[ch]⟩ ∧ ch ∈ S.cps.toList := by
        cases d with
        | str z =>
          obtain ⟨ch, rfl, h⟩ := signD_some hs
          exact ⟨ch, rfl, h⟩
        | _ => cases hs
      cases hd
      have fin := kQ ch rfl hch
      refine iteF ?_
      have hpl := h3.length
      show tFor (iSeq K (tFld K (tVar 0) "_turns")) _ _ _ [some (.ref a), some (sg ch), none, none] H
      refine tFor_seq (H0 := H) (fun C h => ⟨_, rfl, a, _, dx, _, _, rfl, h1, c, n2, fs_turns S r, h⟩) (.inr (SqT.of h2)) (fun i σ' H' => ∃ o1 o2 : Option V, σ' = [some (.ref a), some (sg ch), o1, o2] ∧ H' = H ∧ turnOf ps ch = turnOf (ps.drop i) ch)
        ⟨none, none, rfl, rfl, rfl⟩ (fun i σ' H' q => by obtain ⟨_, _, _, e, _⟩ := q; exact e ▸ Same.refl _) ?_ ?_
      · rintro i x σ' H' hi hx ⟨o1, o2, rfl, rfl, hT⟩
        obtain ⟨⟨e1, e2⟩, he, q, rfl, hq⟩ := Paired.at h3 hx
        have hil : i < ps.length := (List.getElem?_eq_some_iff.mp he).1
        have hdrop : ps.drop i = (e1, e2) :: ps.drop (i + 1) := by
          have ee := (List.getElem?_eq_some_iff.mp he).2
          rw [← ee, List.getElem_cons_drop]
        rw [hdrop] at hT
        have hT : turnOf ps ch = if ch = e1 then some e2 else if ch = e2 then some e1 else turnOf (ps.drop (i + 1)) ch := hT
        have sq : ∀ b : Nat, (V.str ⟨#[ch]⟩ = V.str ⟨#[b]⟩) ↔ ch = b := fun b => ⟨fun z => sign_inj.mp (by injection z), fun z => by rw [z]⟩
        refine ⟨q, _, rfl, SqT.of hq, rfl, _, _, rfl, _, _, rfl, rfl, ?_⟩
        refine ⟨_, rfl, _, rfl, rfl, _, rfl, ?_⟩
        refine ite2 (fun t1 => ?_) (fun t1 => ?_)
        · have t1 := (sq e1).mp (of_decide_eq_true t1)
          rw [if_pos t1] at hT
          rw [hT] at fin
          exact ⟨_, rfl, fin⟩
        · have t1 : ch ≠ e1 := fun z => t1 (decide_eq_true ((sq e1).mpr z))
          rw [if_neg t1] at hT
          refine ⟨_, rfl, _, rfl, rfl, _, rfl, ?_⟩
          refine ite2 (fun t2 => ?_) (fun t2 => ?_)
          · have t2 := (sq e2).mp (of_decide_eq_true t2)
            rw [if_pos t2] at hT
            rw [hT] at fin
            exact ⟨_, rfl, fin⟩
          · have t2 : ch ≠ e2 := fun z => t2 (decide_eq_true ((sq e2).mpr z))
            rw [if_neg t2] at hT
            exact ⟨_, _, rfl, rfl, hT⟩
      · rintro σ' H' ⟨o1, o2, rfl, rfl, hT⟩
        rw [← hpl, List.drop_length] at hT
        rw [hT] at fin
        exact fin
end
end My
end
section
set_option Elab.async false
set_option linter.all false
set_option maxRecDepth 100000
set_option maxHeartbeats 4000000
namespace My
open PySem PySem.Spec PyProof.Rows L2
/-! ### what turns tell of heads -/
theorem headsAll_at (ps : List (Nat × Nat)) (e : Nat × Nat) (c : Nat) : headOf (headsAll (ps ++ [e])) c = if c = e.2 then some e.1 else if c = e.1 then some e.2 else headOf (headsAll ps) c := by
  rw [headsAll_snoc, headOf_putN, headOf_putN]
theorem mem_spread {e : Nat × Nat} {c : Nat} : c ∈ spread e ↔ c = e.1 ∨ c = e.2 := by
  unfold spread
  split
  · rename_i h
    rw [List.mem_singleton]
    exact ⟨.inl, fun q => q.elim id fun q => q.trans h.symm⟩
  · simp
/-- by the last turn -/
theorem snoc_ind {P : List (Nat × Nat) → Prop} (h0 : P []) (h1 : ∀ l e, P l → P (l ++ [e])) (l : List (Nat × Nat)) : P l := by
  have : ∀ n (l : List (Nat × Nat)), l.length = n → P l := by
    intro n
    induction n with
    | zero =>
      intro l hl
      rw [List.length_eq_zero_iff.mp hl]
      exact h0
    | succ n ih =>
      intro l hl
      have ne : l ≠ [] := by
        intro e
        rw [e] at hl
        simp at hl
      rw [← List.dropLast_concat_getLast ne]
      exact h1 _ _ (ih _ (by rw [List.length_dropLast]; omega))
  exact this _ l rfl
theorem heads_dom : ∀ (ps : List (Nat × Nat)) (c b : Nat), headOf (headsAll ps) c = some b → c ∈ ps.flatMap spread ∧ b ∈ ps.flatMap spread := by
  intro ps
  induction ps using snoc_ind with
  | h0 => intro c b h; cases h
  | h1 l e ih =>
    intro c b h
    rw [headsAll_at] at h
    rw [List.flatMap_append, List.flatMap_singleton]
    have m : ∀ x, x = e.1 ∨ x = e.2 → x ∈ l.flatMap spread ++ spread e := fun x q => List.mem_append_right _ (mem_spread.mpr q)
    split at h
    · rename_i q
      exact ⟨m c (.inr q), m b (.inl (Option.some.inj h).symm)⟩
    · split at h
      · rename_i q
        exact ⟨m c (.inl q), m b (.inr (Option.some.inj h).symm)⟩
      · obtain ⟨h1, h2⟩ := ih c b h
        exact ⟨List.mem_append_left _ h1, List.mem_append_left _ h2⟩
theorem heads_sym : ∀ (ps : List (Nat × Nat)), (ps.flatMap spread).Nodup → ∀ c b, headOf (headsAll ps) c = some b → headOf (headsAll ps) b = some c := by
  intro ps
  induction ps using snoc_ind with
  | h0 => intro _ c b h; cases h
  | h1 l e ih =>
    intro nd c b h
    rw [List.flatMap_append, List.flatMap_singleton, List.nodup_append] at nd
    obtain ⟨n1, n2, n3⟩ := nd
    rw [headsAll_at] at h ⊢
    split at h
    · rename_i q
      obtain rfl := Option.some.inj h
      by_cases z : e.1 = e.2
      · rw [if_pos z, q, z]
      · rw [if_neg z, if_pos rfl, q]
    · rename_i q
      split at h
      · rename_i q1
        obtain rfl := Option.some.inj h
        rw [if_pos rfl, q1]
      · rename_i q1
        obtain ⟨d1, d2⟩ := heads_dom l c b h
        have b1 : b ≠ e.1 := fun z => n3 b d2 e.1 (mem_spread.mpr (.inl rfl)) z
        have b2 : b ≠ e.2 := fun z => n3 b d2 e.2 (mem_spread.mpr (.inr rfl)) z
        rw [if_neg b2, if_neg b1]
        exact ih n1 c b h
/-- turns found again by what a font keeps -/
theorem turn_due {S : Str} {h : List (Nat × Nat)} (sym : ∀ c b, headOf h c = some b → headOf h b = some c) (inS : ∀ c b, headOf h c = some b → b ∈ S.cps.toList) {c : Nat} (hc : c ∈ S.cps.toList) : turnOf (dueOf S h) c = headOf h c := by
  have mem : ∀ e ∈ dueOf S h, headOf h e.1 = some e.2 := by
    intro e he
    unfold dueOf at he
    obtain ⟨h1, _⟩ := List.mem_filter.mp he
    obtain ⟨x, hx, rfl⟩ := List.mem_map.mp h1
    obtain ⟨_, h3⟩ := List.mem_filter.mp hx
    obtain ⟨b, hb⟩ := Option.isSome_iff_exists.mp h3
    show headOf h x = some ((headOf h x).getD 0)
    rw [hb]
    rfl
  have find : ∀ l : List (Nat × Nat), (∀ e ∈ l, headOf h e.1 = some e.2) → (∃ e ∈ l, c = e.1 ∨ c = e.2) → turnOf l c = headOf h c := by
    intro l
    induction l with
    | nil => intro _ ⟨e, he, _⟩; cases he
    | cons e l ih =>
      intro m ⟨e', he', q⟩
      have me := m e List.mem_cons_self
      show (if c = e.1 then some e.2 else if c = e.2 then some e.1 else turnOf l c) = _
      split
      · rename_i z
        rw [z, me]
      · rename_i z
        split
        · rename_i z2
          rw [z2]
          exact (sym _ _ me).symm
        · rename_i z2
          refine ih (fun x hx => m x (List.mem_cons_of_mem _ hx)) ⟨e', ?_, q⟩
          rcases List.mem_cons.mp he' with rfl | he'
          · exact absurd q (fun q => q.elim z z2)
          · exact he'
  have none' : ∀ l : List (Nat × Nat), (∀ e ∈ l, c ≠ e.1 ∧ c ≠ e.2) → turnOf l c = none := by
    intro l
    induction l with
    | nil => intro _; rfl
    | cons e l ih =>
      intro m
      obtain ⟨m1, m2⟩ := m e List.mem_cons_self
      show (if c = e.1 then some e.2 else if c = e.2 then some e.1 else turnOf l c) = _
      rw [if_neg m1, if_neg m2]
      exact ih fun x hx => m x (List.mem_cons_of_mem _ hx)
  cases hh : headOf h c with
  | none =>
    refine none' _ fun e he => ⟨fun z => ?_, fun z => ?_⟩
    · have := mem e he
      rw [← z, hh] at this
      cases this
    · have := sym _ _ (mem e he)
      rw [← z, hh] at this
      cases this
  | some b =>
    rw [← hh]
    refine find _ mem ?_
    have hb := inS c b hh
    have put : ∀ x y, x ∈ S.cps.toList → headOf h x = some y → S.cps.toList.idxOf x ≤ S.cps.toList.idxOf y → (x, y) ∈ dueOf S h := by
      intro x y hx hxy le
      unfold dueOf
      refine List.mem_filter.mpr ⟨List.mem_map.mpr ⟨x, List.mem_filter.mpr ⟨hx, by rw [hxy]; rfl⟩, by rw [hxy]; rfl⟩, decide_eq_true le⟩
    by_cases le : S.cps.toList.idxOf c ≤ S.cps.toList.idxOf b
    · exact ⟨_, put c b hc hh le, .inl rfl⟩
    · exact ⟨_, put b c hb (sym _ _ hh) (by omega), .inr rfl⟩
end My
end
section
set_option Elab.async false
set_option linter.all false
set_option maxRecDepth 100000
set_option maxHeartbeats 4000000
namespace My
open PySem PySem.Spec PyProof.Rows L2
theorem heads_iff : ∀ (ps : List (Nat × Nat)), (ps.flatMap spread).Nodup → ∀ c b, headOf (headsAll ps) c = some b ↔ (c, b) ∈ ps ∨ (b, c) ∈ ps := by
  intro ps
  induction ps using snoc_ind with
  | h0 => intro _ c b; simp [headsAll, headOf]
  | h1 l e ih =>
    intro nd c b
    rw [List.flatMap_append, List.flatMap_singleton, List.nodup_append] at nd
    obtain ⟨n1, n2, n3⟩ := nd
    obtain ⟨e1, e2⟩ := e
    have off : ∀ x y, (x, y) ∈ l → x ≠ e1 ∧ x ≠ e2 ∧ y ≠ e1 ∧ y ≠ e2 := by
      intro x y h
      have hx : x ∈ l.flatMap spread := List.mem_flatMap.mpr ⟨_, h, mem_spread.mpr (.inl rfl)⟩
      have hy : y ∈ l.flatMap spread := List.mem_flatMap.mpr ⟨_, h, mem_spread.mpr (.inr rfl)⟩
      exact ⟨fun z => n3 x hx e1 (mem_spread.mpr (.inl rfl)) z, fun z => n3 x hx e2 (mem_spread.mpr (.inr rfl)) z, fun z => n3 y hy e1 (mem_spread.mpr (.inl rfl)) z, fun z => n3 y hy e2 (mem_spread.mpr (.inr rfl)) z⟩
    rw [headsAll_at]
    simp only [List.mem_append, List.mem_singleton, Prod.mk.injEq]
    constructor
    · intro h
      split at h
      · rename_i q
        exact .inr (.inr ⟨(Option.some.inj h).symm, q⟩)
      · split at h
        · rename_i q
          exact .inl (.inr ⟨q, (Option.some.inj h).symm⟩)
        · exact ((ih n1 c b).mp h).elim (fun z => .inl (.inl z)) fun z => .inr (.inl z)
    · rintro ((h | ⟨rfl, rfl⟩) | (h | ⟨rfl, rfl⟩))
      · obtain ⟨a1, a2, _, _⟩ := off _ _ h
        rw [if_neg a2, if_neg a1]
        exact (ih n1 c b).mpr (.inl h)
      · by_cases z : c = b
        · rw [if_pos z, z]
        · rw [if_neg z, if_pos rfl]
      · obtain ⟨_, _, a1, a2⟩ := off _ _ h
        rw [if_neg a2, if_neg a1]
        exact (ih n1 c b).mpr (.inr h)
      · rw [if_pos rfl]
/-- turns in another order, some of them the other way round -/
structure SameTurns (ps qs : List (Nat × Nat)) : Prop where
  mem : ∀ c b, (c, b) ∈ ps ∨ (b, c) ∈ ps ↔ (c, b) ∈ qs ∨ (b, c) ∈ qs
  perm : (qs.flatMap spread).Perm (ps.flatMap spread)
theorem same_heads {ps qs : List (Nat × Nat)} (s : SameTurns ps qs) (nd : (ps.flatMap spread).Nodup) (c : Nat) : headOf (headsAll qs) c = headOf (headsAll ps) c := by
  have nq := s.perm.nodup_iff.mpr nd
  have key : ∀ b, headOf (headsAll qs) c = some b ↔ headOf (headsAll ps) c = some b := fun b => (heads_iff qs nq c b).trans ((s.mem c b).symm.trans (heads_iff ps nd c b).symm)
  cases h : headOf (headsAll ps) c with
  | some b => exact (key b).mpr h
  | none =>
    cases h2 : headOf (headsAll qs) c with
    | none => rfl
    | some b =>
      have := (key b).mp h2
      rw [h] at this
      cases this
theorem due_congr {S : Str} {h k : List (Nat × Nat)} (e : ∀ c, headOf h c = headOf k c) : dueOf S h = dueOf S k := by
  unfold dueOf
  have e2 : (fun c => (headOf h c).isSome) = fun c => (headOf k c).isSome := funext fun c => by rw [e]
  have e3 : (fun c => (c, (headOf h c).getD 0)) = fun c => (c, (headOf k c).getD 0) := funext fun c => by rw [e]
  rw [e2, e3]
theorem spread_swap (a b : Nat) : (spread (b, a)).Perm (spread (a, b)) := by
  unfold spread
  by_cases h : a = b
  · subst h
    exact .refl _
  · rw [if_neg (fun z => h z.symm), if_neg h]
    exact List.Perm.swap _ _ _
theorem same_perm {ps qs : List (Nat × Nat)} (p : qs.Perm ps) : SameTurns ps qs := ⟨fun c b => by rw [p.mem_iff, p.mem_iff], p.flatMap_right _⟩
theorem same_trans {ps qs rs : List (Nat × Nat)} (a : SameTurns ps qs) (b : SameTurns qs rs) : SameTurns ps rs := ⟨fun x y => (a.mem x y).trans (b.mem x y), b.perm.trans a.perm⟩
theorem same_flip : ∀ {ps qs : List (Nat × Nat)}, Paired (fun e e' => e' = e ∨ e' = (e.2, e.1)) ps qs → SameTurns ps qs
  | _, _, .nil => ⟨fun _ _ => Iff.rfl, .refl _⟩
  | _, _, .cons (a := e) (b := e') h t => by
    have r := same_flip t
    obtain ⟨a, b⟩ := e
    refine ⟨fun c d => ?_, ?_⟩
    · have rm := r.mem c d
      simp only [List.mem_cons]
      rcases h with rfl | rfl
      · constructor
        · rintro ((z | z) | (z | z))
          · exact .inl (.inl z)
          · exact (rm.mp (.inl z)).elim (fun z => .inl (.inr z)) fun z => .inr (.inr z)
          · exact .inr (.inl z)
          · exact (rm.mp (.inr z)).elim (fun z => .inl (.inr z)) fun z => .inr (.inr z)
        · rintro ((z | z) | (z | z))
          · exact .inl (.inl z)
          · exact (rm.mpr (.inl z)).elim (fun z => .inl (.inr z)) fun z => .inr (.inr z)
          · exact .inr (.inl z)
          · exact (rm.mpr (.inr z)).elim (fun z => .inl (.inr z)) fun z => .inr (.inr z)
      · simp only [Prod.mk.injEq]
        constructor
        · rintro ((⟨rfl, rfl⟩ | z) | (⟨rfl, rfl⟩ | z))
          · exact .inr (.inl ⟨rfl, rfl⟩)
          · exact (rm.mp (.inl z)).elim (fun z => .inl (.inr z)) fun z => .inr (.inr z)
          · exact .inl (.inl ⟨rfl, rfl⟩)
          · exact (rm.mp (.inr z)).elim (fun z => .inl (.inr z)) fun z => .inr (.inr z)
        · rintro ((⟨rfl, rfl⟩ | z) | (⟨rfl, rfl⟩ | z))
          · exact .inr (.inl ⟨rfl, rfl⟩)
          · exact (rm.mpr (.inl z)).elim (fun z => .inl (.inr z)) fun z => .inr (.inr z)
          · exact .inl (.inl ⟨rfl, rfl⟩)
          · exact (rm.mpr (.inr z)).elim (fun z => .inl (.inr z)) fun z => .inr (.inr z)
    · rw [List.flatMap_cons, List.flatMap_cons]
      rcases h with rfl | rfl
      · exact List.Perm.append_left _ r.perm
      · exact (spread_swap a b).append r.perm
/-- what the program keeps of such turns -/
theorem heads_from {S : Str} : ∀ (l l0 : List (Nat × Nat)), ((l0 ++ l).flatMap spread).Nodup → (∀ c ∈ l.flatMap spread, c ∈ S.cps.toList) → headsFrom S (headsAll l0) (l.map fun e => .tuple [.str ⟨#[e.1]⟩, .str ⟨#[e.2]⟩]) = some (headsAll (l0 ++ l)) := by
  intro l
  induction l with
  | nil => intro l0 _ _; rw [List.append_nil]; rfl
  | cons e l ih =>
    intro l0 nd inS
    obtain ⟨a, b⟩ := e
    have ia : a ∈ S.cps.toList := inS a (List.mem_flatMap.mpr ⟨_, List.mem_cons_self, mem_spread.mpr (.inl rfl)⟩)
    have ib : b ∈ S.cps.toList := inS b (List.mem_flatMap.mpr ⟨_, List.mem_cons_self, mem_spread.mpr (.inr rfl)⟩)
    have sD : ∀ x, x ∈ S.cps.toList → signD S (.str ⟨#[x]⟩) = true := by
      intro x hx
      rw [signD_str]
      have e1 : (⟨#[x]⟩ : Str).length = 1 := rfl
      rw [e1]
      simp only [decide_true, Bool.true_and, List.all_cons, List.all_nil, Bool.and_true]
      exact decide_eq_true hx
    have pD : pairOf S (.tuple [.str ⟨#[a]⟩, .str ⟨#[b]⟩]) = some (a, b) := by
      show (if (signD S (.str ⟨#[a]⟩) && signD S (.str ⟨#[b]⟩)) = true then some _ else none) = _
      rw [sD a ia, sD b ib]
      rfl
    rw [List.flatMap_append, List.nodup_append] at nd
    obtain ⟨n1, n2, n3⟩ := nd
    have off : ∀ x, x = a ∨ x = b → headOf (headsAll l0) x = none := by
      intro x hx
      cases h : headOf (headsAll l0) x with
      | none => rfl
      | some y =>
        obtain ⟨d1, _⟩ := heads_dom l0 x y h
        exact absurd rfl (n3 x d1 x (List.mem_flatMap.mpr ⟨(a, b), List.mem_cons_self, mem_spread.mpr hx⟩))
    rw [List.map_cons, headsFrom_cons, pD]
    show (if ((headOf (headsAll l0) a).isSome || (headOf (headsAll l0) b).isSome) = true then none else headsFrom S (putN (putN (headsAll l0) a b) b a) _) = _
    rw [off a (.inl rfl), off b (.inr rfl), if_neg (by decide)]
    have e2 : putN (putN (headsAll l0) a b) b a = headsAll (l0 ++ [(a, b)]) := (headsAll_snoc l0 (a, b)).symm
    rw [e2, ih (l0 ++ [(a, b)]) ?_ ?_, List.append_assoc]
    · rfl
    · rw [List.append_assoc]
      show ((l0 ++ (a, b) :: l).flatMap spread).Nodup
      rw [List.flatMap_append, List.nodup_append]
      exact ⟨n1, n2, n3⟩
    · intro c hc
      refine inS c ?_
      rw [List.flatMap_cons]
      exact List.mem_append_right _ hc
theorem kept_same {S : Str} {ps qs : List (Nat × Nat)} (s : SameTurns ps qs) (nd : (ps.flatMap spread).Nodup) (inS : ∀ c ∈ ps.flatMap spread, c ∈ S.cps.toList) :
    (headsFrom S [] (qs.map fun e => .tuple [.str ⟨#[e.1]⟩, .str ⟨#[e.2]⟩])).map (dueOf S) = some (dueOf S (headsAll ps)) := by
  have := heads_from (S := S) qs [] (by simpa using s.perm.nodup_iff.mpr nd) (fun c hc => inS c (s.perm.mem_iff.mp hc))
  have e : headsFrom S [] (qs.map fun e => .tuple [.str ⟨#[e.1]⟩, .str ⟨#[e.2]⟩]) = some (headsAll qs) := by
    rw [List.nil_append] at this
    exact this
  rw [e, Option.map_some, due_congr (same_heads s nd)]
end My
end
section
set_option Elab.async false
set_option linter.all false
set_option maxRecDepth 100000
set_option maxHeartbeats 4000000
namespace My
open PySem PySem.Spec PyProof.Rows L2
section
variable {X : Cx} {CX : CXT} {k i : Nat} {C f p g : Addr} {mc : Value} {fd : FuncData} {ps : List Str} {sp : Sp} {dvs : List V} {ds : List Value} {E : XK} {x m : Str} {np pos apos : Pos} {o e : Expr} {es : List Expr} {ta : TE} {t : TA}
/-- c(a, ..), the name c a local that holds the class at C -/
def tMakeL (i : Nat) (C : Addr) (sp : Sp) (dvs : List V) (E : XK) (t : TA) : TE := fun σ H Q => σ[i]? = some (some (.ref C)) ∧ tMake C sp dvs E t σ H Q
theorem pe_makeL (M : Mk X.K C f) (F : FnOk X.prog X.w X.K X.mg X.base CX k f fd ps sp) (hr : Room (k + 1) X.A) (hN : X.N[i]? = some x) (hv : Vis X.env.scope x) (hb : Binds X.K fd ps ds) (hd : Vals dvs ds) (hx : Passes CX X E) (ha : PA X (e :: es) t)
    (hdb : (x == ("__debug__" : Str)) = false := by decide) (hcd : (x == ("__classdict__" : Str)) = false := by decide)
    (he : starEach (e :: es) X.env = (false, eval e X.env) :: starEach es X.env := by rfl) (hpl : (backTo pos (starEach es X.env)).any (·.1) = false := by rfl) :
    PE X (.Call (.Name x np) (e :: es) [] pos) (tMakeL i C sp dvs E t) := by
  refine ⟨fun pins s σ H Q I h => ?_⟩
  obtain ⟨hs, ht⟩ := h
  refine wpAny_Call_Name_kw (thn ((pe_var (pos := np) hN hv hdb hcd).run pins s σ H (fun v H1 => v = .ref C ∧ H1 = H) I ⟨.ref C, hs, rfl, rfl⟩) fun u s1 ⟨v, H1, I1, r1, q1⟩ => ?_)
  obtain ⟨rfl, rfl⟩ := q1
  cases r1
  refine PySem.W.callWith_K (h₀ := X.base) I.ok.mod.kin M.kp (thn (ha.run pos pins s1 σ _ _ I1 ht) fun us s2 ⟨vs, H2, I2, r, q⟩ => ⟨I2.kIn, ?_⟩) he hpl
  exact run_make M F hr hb hd hx I2 r q
/-- C.m(), m a classmethod -/
theorem pe_cmeth0 {pl : Sem Bool} (he : PE X o ta) (r : ClX.CRead X.K C mc) (c : ClX.CMet X.K C mc m p g) (F : FnR X.prog X.w X.K X.mg X.base CX k g sp) (hr : Room k X.A) (hx : Passes CX X E)
    (ht : eval (.Call (.Attribute o m apos) [] [] pos) X.env = (do
      let ov ← eval o X.env
      standAt apos.atName
      let (f, first) ← holding [ov] (getMethod ov m pl)
      callWith pos f first (backTo pos (starEach [] X.env)) (backToKw pos (keywordEach [] X.env))) := by rfl) :
    PE X (.Call (.Attribute o m apos) [] [] pos) (ClX.tCMeth C sp E ta tNil) := by
  refine ⟨fun pins s σ H Q I h => ?_⟩
  refine PySem.W.methodCall_KW (pl := pl) (thn (he.run pins s σ H _ I h) fun u s1 ⟨x, H1, I1, rx, ex, q⟩ => ?_) ht
  subst ex
  obtain rfl : u = Value.ref C := rx
  refine ClX.getmethcm_ok I1 r c fun s2 I2 => ?_
  have at_ : PySem.W.MethP X.K s1.heap.objs.size g (.ref C) s2.heap := ⟨ClX.pin_at I2, I2.kIn⟩
  exact PySem.W.callWith_M0 (first := []) at_ c.fi (ClX.run_cm (us := []) (vs := []) F hr hx I2 .nil q)
end
end My
end
section
set_option Elab.async false
set_option linter.all false
set_option maxRecDepth 100000
set_option maxHeartbeats 4000000
namespace My
open PySem PySem.Spec PyProof.Rows L2
theorem made_same {H H' : Hp} {C x dx : Addr} (hx : H x = none) (hdx : H dx = none) (b : But x (upd (upd H dx (.own x)) x (.ins C dx [])) H') : Same H H' := fun q o e =>
  b q o (ne_of_none e hx) (by rw [upd_ne (ne_of_none e hx), upd_ne (ne_of_none e hdx)]; exact e)
theorem made_up {H : Hp} {C x dx : Addr} (hx : H x = none) (hdx : H dx = none) : Same H (upd (upd H dx (.own x)) x (.ins C dx [])) := fun q o e => by
  rw [upd_ne (ne_of_none e hx), upd_ne (ne_of_none e hdx)]
  exact e
abbrev digitsS : Str := "0123456789"
def digitsPs : List (Nat × Nat) := [(48, 48), (49, 49), (54, 57), (56, 56)]
def pairD (e : Nat × Nat) : PyData := .tuple [.str ⟨#[e.1]⟩, .str ⟨#[e.2]⟩]
theorem digits_kept : keptD digitsS (.tuple (digitsPs.map pairD)) = some (dueOf digitsS (headsAll digitsPs)) := by decide +kernel
def sp_digits (C : Addr) : Sp := fun vs H Q _ => vs = [.ref C] ∧ ∀ H' a, Same H H' → H a = none → FontAt H' C a digitsS (dueOf digitsS (headsAll digitsPs)) → Q (.ref a) H'
section
variable {P : Program} {w : World} {K : PySem.W.Frag} {mg : Str → Option Value} {base : Heap}
end
end My
end
section
set_option Elab.async false
set_option linter.all false
set_option maxRecDepth 100000
set_option maxHeartbeats 4000000
namespace My
open PySem PySem.Spec PyProof.Rows L2
theorem due_nil (S : Str) : dueOf S [] = [] := by
  unfold dueOf
  have : S.cps.toList.filter (fun c => (headOf [] c).isSome) = [] := by
    rw [List.filter_eq_nil_iff]
    intro c _
    simp [headOf]
  rw [this]
  rfl
theorem kept_nilT (S : Str) : keptD S (.tuple []) = some [] := by
  show some (dueOf S []) = _
  rw [due_nil]
theorem kept_nilL (S : Str) : keptD S (.list []) = some [] := by
  show some (dueOf S []) = _
  rw [due_nil]
end My
end
section
set_option Elab.async false
set_option linter.all false
set_option maxRecDepth 100000
set_option maxHeartbeats 4000000
namespace My
open PySem PySem.Spec PyProof.Rows L2
/-! ### how long a shown value can be -/
mutual
def wt : PyData → Nat
  | .str z => 10 * z.length + 2
  | .list ds => wtAll ds + 4
  | .tuple ds => wtAll ds + 4
  | d => d.shown.length
def wtAll : List PyData → Nat
  | [] => 0
  | d :: ds => wt d + 2 + wtAll ds
end
mutual
/-- every character of every text is a character -/
def chr : PyData → Bool
  | .str z => z.cps.toList.all fun c => decide (c < 16 ^ 8)
  | .list ds => chrAll ds
  | .tuple ds => chrAll ds
  | _ => true
def chrAll : List PyData → Bool
  | [] => true
  | d :: ds => chr d && chrAll ds
end
theorem sum_shown (ds : List PyData) (h : ∀ d ∈ ds, d.shown.length ≤ wt d) : ((PyData.shownAll ds).map (·.length)).sum + (PyData.shownAll ds).length * 2 ≤ wtAll ds := by
  induction ds with
  | nil => exact Nat.le_refl _
  | cons d ds ih =>
    have h1 := h d List.mem_cons_self
    have h2 := ih fun x hx => h x (List.mem_cons_of_mem _ hx)
    show ((d.shown :: PyData.shownAll ds).map (·.length)).sum + (d.shown :: PyData.shownAll ds).length * 2 ≤ wt d + 2 + wtAll ds
    rw [List.map_cons, List.sum_cons, List.length_cons]
    omega
theorem len_app (x y : Str) : (x ++ y).length = x.length + y.length := by
  show (x.cps ++ y.cps).size = _
  rw [Array.size_append]
  rfl
theorem from_le : ∀ (ts : List Str) (k : Nat) (acc : Str), (textFrom k acc ts).length ≤ acc.length + (ts.map (·.length)).sum + ts.length * 2
  | [], k, acc => Nat.le_refl _
  | t :: r, k, acc => by
    have ih := from_le r (k + 1) (acc ++ (if k > 0 then ", " else "" : String) ++ t)
    have hs : ((if k > 0 then ", " else "" : String) : Str).length ≤ 2 := by
      by_cases h : k > 0
      · rw [if_pos h]; decide
      · rw [if_neg h]; decide
    rw [len_app, len_app] at ih
    show (textFrom (k + 1) (acc ++ (if k > 0 then ", " else "" : String) ++ t) r).length ≤ _
    rw [List.map_cons, List.sum_cons, List.length_cons]
    omega
theorem list_le (ts : List Str) : (listText ts).length ≤ (ts.map (·.length)).sum + ts.length * 2 + 4 := by
  have := from_le ts 0 "["
  show (textFrom 0 "[" ts ++ "]").length ≤ _
  rw [len_app]
  have e1 : ("[" : Str).length = 1 := by decide
  have e2 : ("]" : Str).length = 1 := by decide
  omega
theorem tuple_le (ts : List Str) : (tupleText ts).length ≤ (ts.map (·.length)).sum + ts.length * 2 + 4 := by
  have := StrLaws.join_length_le ", " ts
  have e : (PySem.Str.ofString ", ").length = 2 := by decide
  rw [e] at this
  have hs : ((if ts.length == 1 then ",)" else ")" : String) : Str).length ≤ 2 := by
    by_cases h : (ts.length == 1) = true
    · rw [if_pos h]; decide
    · rw [if_neg h]; decide
  show (("(" : Str) ++ Str.join ", " ts ++ (if ts.length == 1 then ",)" else ")" : String)).length ≤ _
  rw [len_app, len_app]
  have e1 : ("(" : Str).length = 1 := by decide
  omega
mutual
theorem shown_wt : ∀ d : PyData, chr d = true → d.shown.length ≤ wt d
  | .none, _ => Nat.le_refl _
  | .bool _, _ => Nat.le_refl _
  | .int _, _ => Nat.le_refl _
  | .dict _, _ => Nat.le_refl _
  | .str z, h => by
    simp only [chr, List.all_eq_true, decide_eq_true_eq] at h
    exact StrLaws.reprText_len z h
  | .list ds, h => by
    have h1 := sum_shown ds (shown_wtA ds h)
    have h2 := list_le (PyData.shownAll ds)
    show (listText (PyData.shownAll ds)).length ≤ wtAll ds + 4
    omega
  | .tuple ds, h => by
    have h1 := sum_shown ds (shown_wtA ds h)
    have h2 := tuple_le (PyData.shownAll ds)
    show (tupleText (PyData.shownAll ds)).length ≤ wtAll ds + 4
    omega
theorem shown_wtA : ∀ ds : List PyData, chrAll ds = true → ∀ d ∈ ds, d.shown.length ≤ wt d
  | [], _, d, hd => by cases hd
  | e :: ds, h, d, hd => by
    simp only [chrAll, Bool.and_eq_true] at h
    rcases List.mem_cons.mp hd with he | hd
    · rw [he]
      exact shown_wt e h.1
    · exact shown_wtA ds h.2 d hd
end
end My
end
section
set_option Elab.async false
set_option linter.all false
set_option maxRecDepth 100000
set_option maxHeartbeats 4000000
namespace My
open PySem PySem.Spec PyProof.Rows L2
/-! ### data that a law shows -/
theorem alpha_small : ∀ c ∈ alphabet.cps.toList, c < 16 ^ 8 := by decide +kernel
theorem pairs_data : ∀ l : List (Nat × Nat), (∀ e ∈ l, e.1 ∈ alphabet.cps.toList ∧ e.2 ∈ alphabet.cps.toList) →
    chrAll (l.map pairD) = true ∧ PyData.showableAll (l.map pairD) = true ∧ PyData.depthAll (l.map pairD) ≤ 3 ∧ wtAll (l.map pairD) ≤ 40 * l.length ∧ PyData.hasDictAll (l.map pairD) = false := by
  intro l
  induction l with
  | nil => intro _; exact ⟨rfl, rfl, Nat.zero_le _, Nat.zero_le _, rfl⟩
  | cons e l ih =>
    intro h
    obtain ⟨a, b⟩ := e
    obtain ⟨h1, h2⟩ := h (a, b) List.mem_cons_self
    obtain ⟨i1, i2, i3, i4, i5⟩ := ih fun x hx => h x (List.mem_cons_of_mem _ hx)
    have ca : a < 16 ^ 8 := alpha_small a h1
    have cb : b < 16 ^ 8 := alpha_small b h2
    have c1 : chr (pairD (a, b)) = true := by
      simp only [pairD, chr, chrAll, Bool.and_eq_true, List.all_eq_true, decide_eq_true_eq]
      refine ⟨fun x hx => ?_, fun x hx => ?_, trivial⟩
      · have : x = a := by simpa using hx
        rw [this]; exact ca
      · have : x = b := by simpa using hx
        rw [this]; exact cb
    refine ⟨?_, ?_, ?_, ?_, ?_⟩
    · show (chr (pairD (a, b)) && chrAll (l.map pairD)) = true
      rw [c1, i1]
      rfl
    · show (PyData.showable (pairD (a, b)) && PyData.showableAll (l.map pairD)) = true
      rw [i2]
      rfl
    · show max (PyData.depth (pairD (a, b))) (PyData.depthAll (l.map pairD)) ≤ 3
      exact Nat.max_le.mpr ⟨by show 1 ≤ 3; decide, i3⟩
    · show wt (pairD (a, b)) + 2 + wtAll (l.map pairD) ≤ 40 * (l.length + 1)
      have : wt (pairD (a, b)) = 32 := rfl
      omega
    · show (PyData.hasDict (pairD (a, b)) || PyData.hasDictAll (l.map pairD)) = false
      rw [i5]
      rfl
/-- pairs as a font keeps them -/
theorem rp_pairs {K : PySem.W.Frag} {H : Hp} {p : Addr} {o : HO} (hp : H p = some o) (no : ∀ xs, o ≠ .tup xs) {st : Bool} : ∀ {ps : List (Nat × Nat)} {ys : List V}, PairsAt H ps ys → RpAll K p H st ys (ps.map pairD)
  | _, _, .nil => .nil _
  | _, _, .cons ⟨q, e, h⟩ t => by
    subst e
    exact .cons (.tup h (fun z => by rw [z, hp] at h; exact no _ (Option.some.inj h)) (.cons (.str _ _) (.cons (.str _ _) (.nil _)))) (rp_pairs hp no t)
theorem due_le (S : Str) (h : List (Nat × Nat)) : (dueOf S h).length ≤ S.length := by
  unfold dueOf
  refine Nat.le_trans (List.length_filter_le _ _) ?_
  rw [List.length_map]
  refine Nat.le_trans (List.length_filter_le _ _) ?_
  exact Nat.le_of_eq Array.length_toList
theorem due_in {S : Str} {h : List (Nat × Nat)} (inS : ∀ c b, headOf h c = some b → b ∈ S.cps.toList) : ∀ e ∈ dueOf S h, e.1 ∈ S.cps.toList ∧ e.2 ∈ S.cps.toList := by
  intro e he
  unfold dueOf at he
  obtain ⟨h1, _⟩ := List.mem_filter.mp he
  obtain ⟨x, hx, rfl⟩ := List.mem_map.mp h1
  obtain ⟨h2, h3⟩ := List.mem_filter.mp hx
  obtain ⟨b, hb⟩ := Option.isSome_iff_exists.mp h3
  refine ⟨h2, ?_⟩
  show (headOf h x).getD 0 ∈ _
  rw [hb]
  exact inS x b hb
/-- what is shown of a font: its signs, its turns, how many signs -/
def fontData (S : Str) (l : List (Nat × Nat)) : PyData := .tuple [.str S, .tuple (l.map pairD), .int S.length]
theorem small_int : ∀ n : Fin 11, (PyData.int ((n : Nat) : Int)).shown.length ≤ 10 ∧ (PyData.int ((n : Nat) : Int)).showable = true := by decide +kernel
theorem font_data {S : Str} {l : List (Nat × Nat)} (hS : S.length ≤ 10) (ab : ∀ c ∈ S.cps.toList, c ∈ alphabet.cps.toList) (hl : l.length ≤ 10) (inS : ∀ e ∈ l, e.1 ∈ S.cps.toList ∧ e.2 ∈ S.cps.toList) :
    (fontData S l).showable = true ∧ (fontData S l).shown.length ≤ sizeLine ∧ (fontData S l).depth ≤ 60 ∧ (fontData S l).hasDict = false := by
  obtain ⟨h1, h2, h3, h4, h5⟩ := pairs_data l fun e he => ⟨ab _ (inS e he).1, ab _ (inS e he).2⟩
  obtain ⟨n1, n2⟩ := small_int ⟨S.length, by omega⟩
  have cS : chr (.str S) = true := by
    simp only [chr, List.all_eq_true, decide_eq_true_eq]
    exact fun c hc => alpha_small c (ab c hc)
  refine ⟨?_, ?_, ?_, ?_⟩
  · show (true && (PyData.showableAll (l.map pairD) && (PyData.showable (.int S.length) && true))) = true
    rw [h2, n2]
    rfl
  · refine Nat.le_trans (shown_wt _ ?_) ?_
    · show (chr (.str S) && (chrAll (l.map pairD) && (true && true))) = true
      rw [cS, h1]
      rfl
    · show (10 * S.length + 2 + 2 + (wtAll (l.map pairD) + 4 + 2 + ((PyData.int S.length).shown.length + 2 + 0))) + 4 ≤ sizeLine
      have : (1000 : Nat) ≤ sizeLine := by decide
      have n3 : (PyData.int S.length).shown.length ≤ 10 := n1
      omega
  · show max 0 (max (PyData.depthAll (l.map pairD) + 1) (max 0 0)) + 1 ≤ 60
    omega
  · show (false || (PyData.hasDictAll (l.map pairD) || (false || false))) = false
    rw [h5]
    rfl
end My
end
section
set_option Elab.async false
set_option linter.all false
set_option maxRecDepth 100000
set_option maxHeartbeats 4000000
namespace My
open PySem PySem.Spec PyProof.Rows L2 LamX
/-! ### frames that let tables grow -/
section
variable {K : PySem.W.Frag} {p : Addr} {H H1 : Hp}
mutual
theorem Rp.ext (s : ExtN H H1) : ∀ {st : Bool} {d : PyData} {v : V}, Rp K p H st v d → Rp K p H1 st v d
  | _, _, _, .non _ => .non _
  | _, _, _, .bl _ b => .bl _ b
  | _, _, _, .int _ i => .int _ i
  | _, _, _, .str _ z => .str _ z
  | _, _, _, .lst h n m r => .lst (s _ _ h fun _ z => by cases z) n m (RpAll.ext s r)
  | _, _, _, .tup h n r => .tup (s _ _ h fun _ z => by cases z) n (RpAll.ext s r)
  | _, _, _, .dct h n r1 r2 e => .dct (s _ _ h fun _ z => by cases z) n (RpAll.ext s r1) (RpAll.ext s r2) e
  | _, _, _, .emp h => .emp h
theorem RpAll.ext (s : ExtN H H1) : ∀ {st : Bool} {ds : List PyData} {vs : List V}, RpAll K p H st vs ds → RpAll K p H1 st vs ds
  | _, _, _, .nil _ => .nil _
  | _, _, _, .cons a b => .cons (Rp.ext s a) (RpAll.ext s b)
end
theorem PairsAt.ext (s : ExtN H H1) : ∀ {ps : List (Nat × Nat)} {ys : List V}, PairsAt H ps ys → PairsAt H1 ps ys
  | _, _, .nil => .nil
  | _, _, .cons ⟨q, e, h⟩ t => .cons ⟨q, e, s _ _ h fun _ z => by cases z⟩ (PairsAt.ext s t)
theorem FontAt.ext {C a : Addr} {S : Str} {ps : List (Nat × Nat)} (s : ExtN H H1) (h : FontAt H C a S ps) : FontAt H1 C a S ps := by
  obtain ⟨dx, r, ys, h1, h2, h3⟩ := h.at_
  exact ⟨dx, r, ys, s _ _ h1 (fun _ z => by cases z), s _ _ h2 (fun _ z => by cases z), h3.ext s⟩
theorem PenAt.ext {c : Addr} {n : Nat} (s : ExtN H H1) (h : PenAt H p c n) : PenAt H1 p c n := by
  obtain ⟨cs, u, z, h1, h2, h3, h4, h5⟩ := h
  exact ⟨cs, u, z, s _ _ h1 (fun _ z => by cases z), s _ _ h2 (fun _ z => by cases z), h3, h4, h5⟩
/-- tables stay what they are where only the pen changes -/
theorem Tabs.but {c : Addr} {n : Nat} {T : List (Addr × Str)} (h : PenAt H p c n) (b : But p H H1) (t : Tabs T H) : Tabs T H1 := fun e he => by
  obtain ⟨ps, h1, h2, h3⟩ := t e he
  obtain ⟨cs, u, z, hp, _⟩ := h
  refine ⟨ps, b _ _ (ne_of h1 hp (by intro z; cases z)) h1, h2, fun pos cv hc => ?_⟩
  obtain ⟨c', e1, e2⟩ := h3 pos cv hc
  exact ⟨c', e1, b _ _ (fun z => by rw [z, hp] at e2; have := Option.some.inj e2; unfold CodeO at this; cases this) e2⟩
end
/-- data that a law may show: what it is about -/
structure Shown (K : PySem.W.Frag) (p : Addr) (H : Hp) (v : V) (d : PyData) : Prop where
  rp : Rp K p H d.hasDict v d
  fit : fit d = true
  dep : d.depth ≤ 4
  shw : d.showable = true
  len : d.shown.length ≤ 200
section
variable {K : PySem.W.Frag} {p : Addr} {H H1 : Hp} {v : V} {d : PyData}
theorem Shown.but (s : But p H H1) (h : Shown K p H v d) : Shown K p H1 v d := ⟨h.rp.but s, h.fit, h.dep, h.shw, h.len⟩
theorem Shown.same (s : Same H H1) (h : Shown K p H v d) : Shown K p H1 v d := h.but (.of s)
theorem Shown.ext (s : ExtN H H1) (h : Shown K p H v d) : Shown K p H1 v d := ⟨h.rp.ext s, h.fit, h.dep, h.shw, h.len⟩
theorem Shown.text (h : Shown K p H v d) : textFits sizeLine d := (fit.text h.fit).more (by decide)
/-- a list of one: it does not stand at sys.modules' place -/
theorem Shown.one {r : Addr} (h : Shown K p H v d) (hr : H r = some (.lst [v])) (n : r ≠ p) (n2 : r ≠ sysModules) : Rp K p H false (.ref r) (.list [d]) := by
  refine .lst hr n (fun _ => n2) (.cons ?_ (.nil _))
  show Rp K p H (d.hasDict || false) v d
  rw [Bool.or_false]
  exact h.rp
theorem one_data (h1 : d.showable = true) (h2 : d.shown.length ≤ 200) (h3 : d.depth ≤ 4) : (PyData.list [d]).showable = true ∧ (PyData.list [d]).shown.length ≤ sizeLine ∧ (PyData.list [d]).depth ≤ 60 := by
  refine ⟨?_, ?_, ?_⟩
  · show (d.showable && true) = true
    rw [h1]; rfl
  · have e : (PyData.list [d]).shown.length ≤ d.shown.length + 10 := by
      have := list_le [d.shown]
      have e2 : ([d.shown].map (·.length)).sum = d.shown.length := by simp
      rw [e2] at this
      show (listText [d.shown]).length ≤ _
      simp only [List.length_cons, List.length_nil] at this
      omega
    have : (1000 : Nat) ≤ sizeLine := by decide
    omega
  · show max d.depth 0 + 1 ≤ 60
    omega
theorem shown_str {z : Str} (h : z.length ≤ 10) (hc : ∀ c ∈ z.cps.toList, c < 16 ^ 8) : Shown K p H (.str z) (.str z) := by
  refine ⟨.str _ _, ?_, Nat.zero_le _, rfl, ?_⟩
  · show decide (z.length ≤ 4000) = true
    exact decide_eq_true (Nat.le_trans h (by decide))
  · refine Nat.le_trans (shown_wt _ ?_) ?_
    · simp only [chr, List.all_eq_true, decide_eq_true_eq]
      exact hc
    · show 10 * z.length + 2 ≤ 200
      omega
end
end My
end
section
set_option Elab.async false
set_option linter.all false
set_option maxRecDepth 100000
set_option maxHeartbeats 4000000
namespace My
open PySem PySem.Spec PyProof.Rows L2 LamX
/-! ### a statement's reading, weakened -/
theorem PS.weak {X : Cx} {st : Stmt} {t t' : TS} (h : PS X st t) (hw : ∀ D σ H, t' D σ H → t D σ H) : PS X st t' := ⟨fun pins s σ H D I q => h.run pins s σ H D I (hw D σ H q)⟩
/-! ### where no list is changed but one -/
def ExtL (H H' : Hp) : Prop := ∀ b o, H b = some o → (∀ xs, o ≠ .lst xs) → H' b = some o
section
variable {K : PySem.W.Frag} {H H1 : Hp}
theorem ExtL.wr {l : Addr} {xs : List V} {o : HO} (h : H l = some (.lst xs)) (w : Wr H l o H1) : ExtL H H1 := fun b u e n => by
  rw [w.els b (fun z => n xs (by rw [z, h] at e; exact (Option.some.inj e).symm))]
  exact e
theorem PairsAt.extL (s : ExtL H H1) : ∀ {ps : List (Nat × Nat)} {ys : List V}, PairsAt H ps ys → PairsAt H1 ps ys
  | _, _, .nil => .nil
  | _, _, .cons ⟨q, e, h⟩ t => .cons ⟨q, e, s _ _ h fun _ z => by cases z⟩ (PairsAt.extL s t)
theorem FontAt.extL {C a : Addr} {S : Str} {ps : List (Nat × Nat)} (s : ExtL H H1) (h : FontAt H C a S ps) : FontAt H1 C a S ps := by
  obtain ⟨dx, r, ys, h1, h2, h3⟩ := h.at_
  exact ⟨dx, r, ys, s _ _ h1 (fun _ z => by cases z), s _ _ h2 (fun _ z => by cases z), h3.extL s⟩
theorem Tabs.extL {T : List (Addr × Str)} (s : ExtL H H1) (t : Tabs T H) : Tabs T H1 := fun e he => by
  obtain ⟨ps, h1, h2, h3⟩ := t e he
  refine ⟨ps, s _ _ h1 (fun _ z => by cases z), h2, fun pos cv hc => ?_⟩
  obtain ⟨c', e1, e2⟩ := h3 pos cv hc
  exact ⟨c', e1, s _ _ e2 (fun _ z => by unfold CodeO at z; cases z)⟩
theorem PairsAt.but {p : Addr} {o : HO} (hp : H p = some o) (no : ∀ xs, o ≠ .tup xs) (s : But p H H1) : ∀ {ps : List (Nat × Nat)} {ys : List V}, PairsAt H ps ys → PairsAt H1 ps ys
  | _, _, .nil => .nil
  | _, _, .cons ⟨q, e, h⟩ t => .cons ⟨q, e, s _ _ (fun z => by rw [z, hp] at h; exact no _ (Option.some.inj h)) h⟩ (PairsAt.but hp no s t)
theorem PairsAt.pen {p c : Addr} {n : Nat} (hP : PenAt H p c n) (s : But p H H1) {ps : List (Nat × Nat)} {ys : List V} (h : PairsAt H ps ys) : PairsAt H1 ps ys := by
  obtain ⟨cs, u, z, hp, _⟩ := hP
  exact h.but hp (fun xs z => by cases z) s
theorem FontAt.pen {p c : Addr} {n : Nat} (hP : PenAt H p c n) (s : But p H H1) {C a : Addr} {S : Str} {ps : List (Nat × Nat)} (h : FontAt H C a S ps) : FontAt H1 C a S ps := by
  obtain ⟨dx, r, ys, h1, h2, h3⟩ := h.at_
  have h3' := h3.pen hP s
  obtain ⟨cs, u, z, hp, _⟩ := hP
  exact ⟨dx, r, ys, s _ _ (ne_of h1 hp (by intro z; cases z)) h1, s _ _ (ne_of h2 hp (by intro z; cases z)) h2, h3'⟩
/-- turns that are passed: what they are as data -/
theorem fit_pairs : ∀ qs : List (Nat × Nat), fitAll (qs.map pairD) = true
  | [] => rfl
  | e :: qs => by
    show (fit (pairD e) && fitAll (qs.map pairD)) = true
    rw [fit_pairs qs]
    rfl
theorem passed_data {qs : List (Nat × Nat)} (hl : qs.length ≤ 10) (ab : ∀ e ∈ qs, e.1 ∈ alphabet.cps.toList ∧ e.2 ∈ alphabet.cps.toList) {d : PyData} (hd : d = .list (qs.map pairD) ∨ d = .tuple (qs.map pairD)) :
    fit d = true ∧ d.showable = true ∧ d.shown.length ≤ sizeLine ∧ d.depth ≤ 60 := by
  obtain ⟨h1, h2, h3, h4, h5⟩ := pairs_data qs ab
  have f := fit_pairs qs
  have big : (1000 : Nat) ≤ sizeLine := by decide
  have hl2 : (qs.map pairD).length ≤ 4000 := by rw [List.length_map]; omega
  rcases hd with rfl | rfl
  · refine ⟨?_, h2, ?_, ?_⟩
    · show (decide ((qs.map pairD).length ≤ 4000) && fitAll (qs.map pairD)) = true
      rw [f, decide_eq_true hl2]; rfl
    · refine Nat.le_trans (shown_wt _ h1) ?_
      show wtAll (qs.map pairD) + 4 ≤ sizeLine
      omega
    · show PyData.depthAll (qs.map pairD) + 1 ≤ 60
      omega
  · refine ⟨?_, h2, ?_, ?_⟩
    · show (decide ((qs.map pairD).length ≤ 4000) && fitAll (qs.map pairD)) = true
      rw [f, decide_eq_true hl2]; rfl
    · refine Nat.le_trans (shown_wt _ h1) ?_
      show wtAll (qs.map pairD) + 4 ≤ sizeLine
      omega
    · show PyData.depthAll (qs.map pairD) + 1 ≤ 60
      omega
theorem good_fontD {m : Nat} {S : Str} {ps : List (Nat × Nat)} (hm : m ≤ 10) (g : Good m S ps) : fontD (.str S) = true := by
  rw [fontD_str, setD_str, decide_eq_true (p := 2 ≤ S.length ∧ S.length ≤ 10) ⟨g.lo, Nat.le_trans g.hi hm⟩, decide_eq_true g.nd, Bool.true_and, Bool.true_and, List.all_eq_true]
  exact fun c hc => decide_eq_true (g.ab c hc)
theorem good_nil {m : Nat} {S : Str} {ps : List (Nat × Nat)} (g : Good m S ps) : Good m S [] := ⟨g.lo, g.hi, g.nd, g.ab, List.nodup_nil, fun c hc => by cases hc⟩
end
/-! ### Font(..) -/
def qMk (K : PySem.W.Frag) (C : Addr) (dvs : List V) (t : TA) : TE := fun σ H Q => t σ H fun vs H1 => ∃ (S : Str) (v : V) (d : PyData) (ps : List (Nat × Nat)) (p : Addr), vs ++ dvs = [.str S, v] ∧ Rp K p H1 false v d ∧ fit d = true ∧ fontD (.str S) = true ∧ keptD S d = some ps ∧
  ∀ H' a, Same H1 H' → H1 a = none → FontAt H' C a S ps → Q (.ref a) H'
theorem pe_font {X : Cx} {C f : Addr} {fd : FuncData} {ds : List Value} {dvs : List V} {e : Expr} {es : List Expr} {p pos : Pos} {t : TA} (M : Mk X.K C f) (G : FnOk X.prog X.w X.K X.mg X.base CX0 4 f fd ["self", "signs", "turns"] (sp_init X.K C)) (hr : Room 5 X.A) (hg : Gl X "Font") (hm : X.mg "Font" = some (.ref C))
    (hb : Binds X.K fd ["self", "signs", "turns"] ds) (hd : Vals dvs ds) (ha : PA X (e :: es) t) (he : starEach (e :: es) X.env = (false, eval e X.env) :: starEach es X.env := by rfl) (hpl : (backTo pos (starEach es X.env)).any (·.1) = false := by rfl) :
    PE X (.Call (.Name "Font" p) (e :: es) [] pos) (qMk X.K C dvs t) :=
  PE.weak (pe_make M G hr hg hm hb hd pass0 (PA.mc ha) (by decide) he hpl) fun σ H Q q => ⟨_, q, fun vs H1 z => by
    obtain ⟨S, v, d, ps, p, e, hv, hf, hF, hK, k⟩ := z
    intro x dx hx hdx ne
    rw [e]
    exact ⟨x, dx, p, S, v, d, ps, rfl, upd_same, hv.but (.of (made_up hx hdx)), hf, hF, hK, fun H' bt ft => ⟨rfl, k H' x (made_same hx hdx bt) hx ft⟩⟩⟩
end My
end
section
set_option Elab.async false
set_option linter.all false
set_option maxRecDepth 100000
set_option maxHeartbeats 4000000
namespace My
open PySem PySem.Spec PyProof.Rows L2
abbrev s_isKind : Stmt := topS 20
/-- whether a side is a sign or blank -/
def sideB (S : Str) (c : Nat) : Bool := decide (c = 45) || decide (c ∈ S.cps.toList)
/-- whether data is a kind of plates -/
def kindD (S : Str) : PyData → Bool
  | .str z => decide (z.length = 2) && !decide (z = (⟨#[45, 45]⟩ : Str)) && z.cps.toList.all (sideB S)
  | _ => false
def sp_isKind (K : PySem.W.Frag) : Sp := fun vs H Q _ => ∃ (S : Str) (v : V) (d : PyData) (p : Addr), vs = [.str S, v] ∧ Rp K p H false v d ∧ textFits 4000 d ∧ ∀ H', Same H H' → Q (.bl (kindD S d)) H'
section
variable {P : Program} {w : World} {K : PySem.W.Frag} {mg : Str → Option Value} {base : Heap}
theorem sc_isKind : FnScope ["signs", "value", "side"] ["signs", "value"] (defScope s_isKind) := ⟨rfl, rfl, rfl, by decide +kernel, rfl, by decide +kernel, by decide +kernel⟩
theorem ok_isKind {f : Addr} {fd : FuncData} {tB : Tok} (F : Fun K "is_kind" "is_kind" s_isKind f fd) (T : TB mg) (gB : mg "BLANK" = some (.str "-" tB)) : FnOk P w K mg base CX0 1 f fd ["signs", "value"] (sp_isKind K) := by
  refine F.ok sc_isKind (fun vs H Q E h => ?_) (fun cdv A outer s H vs Q E hr h => ?_)
  · obtain ⟨S, v, d, p, rfl, _⟩ := h
    rfl
  · obtain ⟨S, v, d, p, rfl, hd, hz, k⟩ := h
    refine ⟨_, pss_cons (ps_if (PW.pt (pw_or (pt_not (pt_val (pe_callB (id := "isinstance") call_isi (by rfl) T.isi (by decide +kernel) (pa_cons (pv 1) (pa_cons (pe_bltn (v := .ty "str") (by rfl) T.str (by decide +kernel) rfl) pa_nil)))))
        (pw_or (pt_cmpR op_ne (pe_callB call_len_str (by rfl) T.len PySem.boot_len (pa_cons (pv 1) pa_nil)) pe_int (nomark _)) (pw_or1 (pt_cmpR op_eq (pv 1) (pe_op op_add_str (pe_glob (v := .str "-") rfl gB ⟨_, rfl⟩) (pe_glob (v := .str "-") rfl gB ⟨_, rfl⟩)) (nomark _))))))
      (pss_one (ps_ret pe_bl)) pss_nil)
      (pss_one (ps_ret (pe_callB (cr_all rfl) (by rfl) T.all (by decide +kernel) (pa_cons (by exact (pe_lc (own := [("side", 2)]) (g := gName 2) (tt := tYes) rfl sc_isKind.nd (pi_str (pv 1)) (blkOk_by (own := [("side", 2)]) (N := ["signs", "value", "side"]) (sc := defScope s_isKind) (by decide +kernel))
        (fun _ _ _ _ _ => pg_name (i := 2) sc_isKind.nd rfl (Or.inl rfl)) (fun _ _ _ _ _ => pts_nil) (fun _ _ _ _ _ => pe_or (pe_cmpR op_eq (pv 2) (pe_glob (v := .str "-") rfl gB ⟨_, rfl⟩) (nomark _)) (pe_one (pe_cmpR op_in_sign (pv 2) (pv 0) (by rfl)))))) pa_nil)))), ?_⟩
    refine ⟨_, rfl, _, _, _, _, _, rfl, .ty "str", hd.ty, kit_str d, _, rfl, ?_⟩
    cases d with
    | str z =>
      cases hd
      have hz : z.length ≤ 4000 := hz
      have zl : z.cps.toList.length = z.length := Array.length_toList
      refine iteF ⟨_, rfl, z, rfl, Nat.le_trans hz (by decide), rfl, _, rfl, ?_⟩
      refine ite2 (fun h1 => iteT ?_) (fun h1 => ?_)
      · have h2 : z.length ≠ 2 := fun e => by rw [e] at h1; simp at h1
        have e : kindD S (.str z) = false := by
          show (decide (z.length = 2) && !decide (z = (⟨#[45, 45]⟩ : Str)) && z.cps.toList.all (sideB S)) = false
          rw [decide_eq_false h2, Bool.false_and, Bool.false_and]
        rw [e] at k
        exact k H (Same.refl H)
      have h2 : z.length = 2 := by
        by_cases e : z.length = 2
        · exact e
        · refine absurd ?_ h1
          rw [decide_eq_false (fun q => e (by injection q with q; omega))]
          rfl
      refine ⟨_, rfl, _, _, rfl, rfl, by decide, rfl, _, rfl, ?_⟩
      have dash : (PySem.Str.ofString "-" ++ PySem.Str.ofString "-") = (⟨#[45, 45]⟩ : Str) := by decide
      rw [dash]
      refine ite2 (fun h3 => ?_) (fun h3 => ?_)
      · have h3 : z = (⟨#[45, 45]⟩ : Str) := by
          have := of_decide_eq_true h3
          injection this
        have e : kindD S (.str z) = false := by
          show (decide (z.length = 2) && !decide (z = (⟨#[45, 45]⟩ : Str)) && z.cps.toList.all (sideB S)) = false
          rw [decide_eq_true h3, Bool.not_true, Bool.and_false, Bool.false_and]
        rw [e] at k
        exact k H (Same.refl H)
      have h3 : z ≠ (⟨#[45, 45]⟩ : Str) := fun e => h3 (by rw [e]; exact decide_eq_true rfl)
      have eK : kindD S (.str z) = z.cps.toList.all (sideB S) := by
        show (decide (z.length = 2) && !decide (z = (⟨#[45, 45]⟩ : Str)) && z.cps.toList.all (sideB S)) = _
        rw [decide_eq_true h2, decide_eq_false h3]
        rfl
      refine ⟨_, rfl, z, rfl, fun D hD => lc_ff walk_signs (fun _ => true) (fun x => match x with | .str y => .bl (y.cps.toList.all (sideB S)) | _ => .non) hD (fun _ _ => trivial) (by rw [signs_len]; exact Nat.lt_of_le_of_lt hz (by decide)) (fun x => rfl) (fun x H' C _ _ h => h _ (Same.refl _)) ?_ ?_⟩
      · intro x H' C hx _ _ hC
        obtain ⟨c, _, rfl⟩ := mem_signs hx
        have hC := hC H' (Same.refl _)
        have eS : (match V.str ⟨#[c]⟩ with | .str y => V.bl (y.cps.toList.all (sideB S)) | _ => .non) = .bl (sideB S c) := by
          show V.bl ([c].all (sideB S)) = _
          simp
        rw [eS] at hC
        refine ⟨_, rfl, rfl, _, rfl, ?_⟩
        have d45 : (V.str ⟨#[c]⟩ = V.str (PySem.Str.ofString "-")) ↔ c = 45 := by
          have : PySem.Str.ofString "-" = (⟨#[45]⟩ : Str) := by decide
          rw [this]
          exact ⟨fun z => sign_inj.mp (by injection z), fun z => by rw [z]⟩
        refine ite2 (fun h4 => ?_) (fun h4 => ?_)
        · have h4 := d45.mp (of_decide_eq_true h4)
          have e : sideB S c = true := by
            unfold sideB
            rw [decide_eq_true h4]
            rfl
          rw [e] at hC
          exact hC
        · have h4 : c ≠ 45 := fun z => h4 (decide_eq_true (d45.mpr z))
          have e : sideB S c = decide (c ∈ S.cps.toList) := by
            unfold sideB
            rw [decide_eq_false h4]
            rfl
          rw [e] at hC
          exact ⟨_, rfl, _, rfl, c, S, rfl, rfl, hC⟩
      · intro H' sm hl
        refine ⟨D, z.cps.toList.map (sideB S), rfl, SqL.of ?_, ?_⟩
        · rw [hl, pv_filter_true]
          simp [signs]
        · have e : kindD S (.str z) = (z.cps.toList.map (sideB S)).all id := by
            rw [eK, List.all_map]
            rfl
          rw [← e]
          exact k H' sm
    | _ => exact iteT (iteT (k H (Same.refl H)))
end
end My
end
section
set_option Elab.async false
set_option linter.all false
set_option maxRecDepth 100000
set_option maxHeartbeats 4000000
namespace My
open PySem PySem.Spec PyProof.Rows L2
abbrev s_kept : Stmt := topS 21
theorem find_one (z : Str) (c : Nat) (h : c ∈ z.cps.toList) : Txt.find z ⟨#[c]⟩ = ((z.cps.toList.idxOf c : Nat) : Int) := by
  have e := index0_one z c h
  unfold Txt.index0 at e
  unfold Txt.find
  revert e
  generalize Builtin.Str.occurrences z ⟨#[c]⟩ 0 z.length 1 = o
  intro e
  cases o with
  | nil => cases e
  | cons a l => exact congrArg Int.ofNat (Option.some.inj e)
section
variable {P : Program} {w : World} {K : PySem.W.Frag} {mg : Str → Option Value} {base : Heap}
theorem sc_kept : FnScope ["signs", "turns", "heads", "pair", "both", "sign"] ["signs", "turns"] (defScope s_kept) := ⟨rfl, rfl, rfl, by decide +kernel, rfl, by decide +kernel, by decide +kernel⟩
theorem ok_kept {f fL fP : Addr} {fd fdL fdP : FuncData} (F : Fun K "kept_turns" "kept_turns" s_kept f fd) (T : TB mg) (DL : Def K mg "is_listed" fL fdL ["value"]) (GL : FnOk P w K mg base CX0 1 fL fdL ["value"] (sp_isListed K))
    (DP : Def K mg "_is_pair" fP fdP ["signs", "value"]) (GP : FnOk P w K mg base CX0 2 fP fdP ["signs", "value"] (sp_isPair K)) : FnOk P w K mg base CX0 3 f fd ["signs", "turns"] (sp_kept K) := by
  refine F.ok sc_kept (fun vs H Q E h => ?_) (fun cdv A outer s H vs Q E hr h => ?_)
  · obtain ⟨S, v, d, p, rfl, _⟩ := h
    rfl
  · obtain ⟨S, v, d, p, rfl, hd, hf, hS, kN, kS⟩ := h
    have hu := hu_of hr
    have hr1 : Room 1 _ := hr.mono (by decide)
    refine ⟨_, pss_cons (ps_if (pt_not (pt_val (pe_call GL hr1 rfl DL.mgf DL.kp DL.bd .nil pass0 (pa_cons (pv 1) pa_nil)))) (pss_one (ps_ret pe_non)) pss_nil)
      (pss_cons (ps_set (i := 2) sc_kept.nd rfl (Or.inr rfl) pe_dnew')
      (pss_cons (ps_for PassesOwn.never rfl (pi_seq (pv 1)) (pg_name (i := 3) sc_kept.nd rfl (Or.inl rfl))
        (pss_cons (ps_if (PW.pt (pw_or (pt_not (pt_val (pe_call GP hr rfl DP.mgf DP.kp DP.bd .nil pass0 (pa_cons (pv 0) (pa_cons (pv 3) pa_nil)))))
            (pw_or (pt_cmp (pc_din hu (pe_ix ix_tup (pv 3) pe_int (fun _ _ => rfl)) (pv 2))) (pw_or1 (pt_cmp (pc_din hu (pe_ix ix_tup (pv 3) pe_int (fun _ _ => rfl)) (pv 2)))))))
          (pss_one (ps_ret pe_non)) pss_nil)
        (pss_cons (ps_dput hu (pv 2) (pe_ix ix_tup (pv 3) pe_int (fun _ _ => rfl)) (pe_ix ix_tup (pv 3) pe_int (fun _ _ => rfl)) rfl)
        (pss_one (ps_dput hu (pv 2) (pe_ix ix_tup (pv 3) pe_int (fun _ _ => rfl)) (pe_ix ix_tup (pv 3) pe_int (fun _ _ => rfl)) rfl)))))
      (pss_cons (ps_setLc (i := 4) (own := [("sign", 5)]) (g := gName 5) rfl sc_kept.nd rfl rfl (sw_true rfl rfl rfl (by decide +kernel)) (pi_str (pv 0)) (blkOk_by (own := [("sign", 5)]) (N := ["signs", "turns", "heads", "pair", "both", "sign"]) (sc := defScope s_kept) (by decide +kernel))
        (fun _ _ _ _ _ => pg_name (i := 5) sc_kept.nd rfl (Or.inl rfl)) (fun _ _ _ _ _ => pts_one (pt_cmp (pc_din hu (pv 5) (pv 2)))) (fun _ _ _ _ _ => pe_tup' (pa_cons (pv 5) (pa_cons (pe_dget hu (pv 2) (pv 5) (fun _ _ => rfl)) pa_nil))))
      (pss_one (ps_ret (pe_callTy call_tupOfL (by rfl) T.tuple (by decide +kernel) (pa_cons (by exact (pe_lc (own := [("pair", 3)]) (g := gName 3) rfl sc_kept.nd (pi_list (pv 4)) (blkOk_by (own := [("pair", 3)]) (N := ["signs", "turns", "heads", "pair", "both", "sign"]) (sc := defScope s_kept) (by decide +kernel))
        (fun _ _ _ _ _ => pg_name (i := 3) sc_kept.nd rfl (Or.inl rfl))
        (fun _ _ _ _ _ => pts_one (pt_cmpR op_le (pe_m1 PySem.F.slot_str_find PySem.F.type_str_find mt_find (pv 0) (pe_ix (ix_tupK (K := K) (by rfl)) (pv 3) pe_int (fun _ _ => rfl)))
          (pe_m1 PySem.F.slot_str_find PySem.F.type_str_find mt_find (pv 0) (pe_ix (ix_tupK (K := K) (by rfl)) (pv 3) pe_int (fun _ _ => rfl))) (nomark _)))
        (fun _ _ _ _ _ => pv 3))) pa_nil))))))), ?_⟩
    refine ⟨_, rfl, v, d, p, rfl, hd, fun H1 s1 => ⟨_, rfl, ?_⟩⟩
    cases hq : isSeqD d with
    | false =>
      refine iteT (kN ?_ H1 s1)
      cases d <;> first | rfl | exact absurd (show true = false from hq) (by decide)
    | true =>
      obtain ⟨a, xs, ds, st2, rfl, hseq, hall, hds⟩ := rp_seq hd hq
      have hk : keptD S d = (headsFrom S [] ds).map (dueOf S) := by
        rcases hds with rfl | rfl <;> rfl
      have hfa : fitAll ds = true ∧ ds.length ≤ 4000 := by
        rcases hds with rfl | rfl <;> (simp only [fit, Bool.and_eq_true, decide_eq_true_eq] at hf; exact ⟨hf.2, hf.1⟩)
      have hlen := hall.len
      refine iteF (fun hD H2 n2 => ?_)
      have s2 : Same H H2 := s1.trans n2.same
      have fD : H hD = none := by
        cases e : H hD with
        | none => rfl
        | some o => have := s1 _ _ e; rw [n2.free] at this; cases this
      show tFor (iSeq K (tVar 1)) (gName 3) _ _ [some (.str S), some (.ref a), some (.ref hD), none, none, none] H2
      refine tFor_seq (H0 := H) (fun C h => ⟨_, rfl, h⟩) hseq (fun i σ H' => ∃ (h : List (Nat × Nat)) (pr : Option V), σ = [some (.str S), some (.ref a), some (.ref hD), pr, none, none] ∧ Same H H' ∧ H' hD = some (.dK (toK h)) ∧ headsFrom S [] ds = headsFrom S h (ds.drop i) ∧ h.length ≤ 2 * i ∧ ∀ c b, headOf h c = some b → b ∈ S.cps.toList)
        ⟨[], none, rfl, s2, n2.here, rfl, Nat.le_refl _, fun c b e => by cases e⟩ (fun i σ' H' q => by obtain ⟨_, _, _, q, _⟩ := q; exact q) ?_ ?_
      · rintro i x σ H3 hi hx ⟨h, pr, rfl, s3, hH, hfr, hl, hin⟩
        obtain ⟨d', hd'⟩ : ∃ d', ds[i]? = some d' := ⟨ds[i]'(by omega), by simp [show i < ds.length by omega]⟩
        have hdrop : ds.drop i = d' :: ds.drop (i + 1) := by
          have := List.getElem?_eq_some_iff.mp hd'
          obtain ⟨hil, e⟩ := this
          rw [← e, List.getElem_cons_drop]
        rw [hdrop, headsFrom_cons] at hfr
        have hrp := ((hall.but2 s3).at hx hd').loose2
        refine ⟨_, rfl, _, rfl, S, x, d', p, rfl, hrp, fitAll.at hfa.1 hd', fun H4 s4 => ⟨_, rfl, ?_⟩⟩
        cases hp : pairOf S d' with
        | none =>
          rw [hp] at hfr
          refine iteT (iteT (kN (by rw [hk, hfr]; rfl) H4 (s3.trans s4)))
        | some ab =>
          obtain ⟨x1, x2⟩ := ab
          rw [hp] at hfr
          have hfr : headsFrom S [] ds = if ((headOf h x1).isSome || (headOf h x2).isSome) = true then none else headsFrom S (putN (putN h x1 x2) x2 x1) (ds.drop (i + 1)) := hfr
          obtain ⟨rfl, m1, m2⟩ := pairOf_some hp
          obtain ⟨q, rfl, hq4, _⟩ := rp_pair (hrp.but (.of s4))
          have hH4 := s4 _ _ hH
          refine iteF ⟨_, rfl, q, _, _, _, rfl, rfl, SqT.of hq4, at0 _ _, _, rfl, hD, _, rfl, dget_toK x1 hH4, _, rfl, ?_⟩
          cases e1 : headOf h x1 with
          | some y =>
            rw [e1] at hfr
            exact iteT (iteT (kN (by rw [hk, hfr]; rfl) H4 (s3.trans s4)))
          | none =>
            refine iteF ⟨_, rfl, q, _, _, _, rfl, rfl, SqT.of hq4, at1 _ _, _, rfl, hD, _, rfl, dget_toK x2 hH4, _, rfl, ?_⟩
            cases e2 : headOf h x2 with
            | some y =>
              rw [e1, e2] at hfr
              exact iteT (kN (by rw [hk, hfr]; rfl) H4 (s3.trans s4))
            | none =>
              rw [e1, e2] at hfr
              have l1 := putN_length h x1 x2
              have l2 := putN_length (putN h x1 x2) x2 x1
              refine iteF ⟨_, rfl, q, _, _, _, rfl, rfl, SqT.of hq4, at1 _ _, _, rfl, _, rfl, q, _, _, _, rfl, rfl, SqT.of hq4, at0 _ _, hD, _, rfl, dput_toK x1 x2 hH4 (Nat.lt_of_le_of_lt (show h.length ≤ 8000 by omega) (by decide)), ?_⟩
              have w5 : Wr H4 hD (.dK (toK (putN h x1 x2))) (upd H4 hD (.dK (toK (putN h x1 x2)))) := .mk'
              generalize upd H4 hD (HO.dK (toK (putN h x1 x2))) = H5 at w5 ⊢
              have hq5 : H5 q = some (.tup [sg x1, sg x2]) := w5.but q _ (ne_of hq4 hH4 (by intro z; cases z)) hq4
              refine ⟨_, rfl, q, _, _, _, rfl, rfl, SqT.of hq5, at0 _ _, _, rfl, _, rfl, q, _, _, _, rfl, rfl, SqT.of hq5, at1 _ _, hD, _, rfl, dput_toK x2 x1 w5.here (Nat.lt_of_le_of_lt (show (putN h x1 x2).length ≤ 9000 by omega) (by decide)), ?_⟩
              refine ⟨_, _, rfl, Same.wr (Same.wr (s3.trans s4) fD w5) fD .mk', upd_same, hfr, by omega, ?_⟩
              intro c b hcb
              rw [headOf_putN, headOf_putN] at hcb
              split at hcb
              · exact Option.some.inj hcb ▸ m1
              · split at hcb
                · exact Option.some.inj hcb ▸ m2
                · exact hin c b hcb
      · rintro σ' H3 ⟨h, pr, rfl, s3, hH, hfr, hl, hin⟩
        have hkd : keptD S d = some (dueOf S h) := by
          rw [hk, hfr, hlen, List.drop_length]
          rfl
        have hz : S.cps.toList.length = (signs S).length := by rw [signs_len]; exact Array.length_toList
        have hsm : (signs S).length < sizeLine := by rw [signs_len]; exact Nat.lt_of_le_of_lt hS (by decide)
        have tupStay : ∀ (H H' : Hp) (D q : Addr) (e : Nat × Nat), (∃ zs, H D = some (.lst zs)) → But D H H' → H q = some (.tup [sg e.1, sg e.2]) → H' q = some (.tup [sg e.1, sg e.2]) := by
          rintro H H' D q e ⟨zs, hz⟩ b hq
          exact b q _ (ne_of hq hz (by intro z; cases z)) hq
        refine ⟨_, rfl, S, rfl, fun D1 hD1 => lc_pair walk_signs S.cps.toList hz (fun c => (headOf h c).isSome) (fun c y H' => ∃ q, y = V.ref q ∧ H' q = some (.tup [sg c, sg ((headOf h c).getD 0)])) ?_ hD1 (fun _ _ => trivial) hsm (fun x => rfl) ?_ ?_ ?_⟩
        · rintro c y H5 H6 hl5 hb ⟨q, e, hq⟩
          exact ⟨q, e, tupStay H5 H6 D1 q (c, (headOf h c).getD 0) hl5 hb hq⟩
        · intro j x c H5 C hx hc s5 hC
          obtain rfl : x = sg c := by
            unfold signs at hx
            rw [List.getElem?_map, hc] at hx
            exact (Option.some.inj hx).symm
          refine ⟨_, rfl, _, rfl, hD, _, rfl, dget_toK c (s5 _ _ hH), _, rfl, ?_⟩
          have e : ((headOf h c).map sg).isSome = (headOf h c).isSome := by cases headOf h c <;> rfl
          rw [e]
          exact hC H5 (Same.refl _)
        · intro j x c H5 C hx hc hp s5 hC
          obtain rfl : x = sg c := by
            unfold signs at hx
            rw [List.getElem?_map, hc] at hx
            exact (Option.some.inj hx).symm
          obtain ⟨b, hb⟩ := Option.isSome_iff_exists.mp hp
          refine ⟨_, rfl, _, rfl, _, rfl, hD, sg b, rfl, ?_, (by show 2 ≤ sizeLine; decide), fun q H6 n6 => hC H6 _ n6.same ⟨q, rfl, ?_⟩⟩
          · have := dget_toK c (s5 _ _ hH)
            rw [hb] at this
            exact this
          · rw [hb]
            exact n6.here
        · intro H4 ys s4 hD4 hP
          -- the pairs that the dict tells
          have hP2 : PairsAt H4 ((S.cps.toList.filter fun c => (headOf h c).isSome).map fun c => (c, (headOf h c).getD 0)) ys := by
            clear hD4
            generalize S.cps.toList.filter (fun c => (headOf h c).isSome) = l at hP
            induction hP with
            | nil => exact .nil
            | cons a b ih => exact .cons a ih
          have hL : ∀ e ∈ (S.cps.toList.filter fun c => (headOf h c).isSome).map fun c => (c, (headOf h c).getD 0), e.1 ∈ S.cps.toList ∧ e.2 ∈ S.cps.toList := by
            intro e he
            obtain ⟨c, hc, rfl⟩ := List.mem_map.mp he
            obtain ⟨h1, h2⟩ := List.mem_filter.mp hc
            obtain ⟨b, hb⟩ := Option.isSome_iff_exists.mp h2
            exact ⟨h1, by rw [hb]; exact hin c b hb⟩
          have hdue : dueOf S h = ((S.cps.toList.filter fun c => (headOf h c).isSome).map fun c => (c, (headOf h c).getD 0)).filter fun e => decide (S.cps.toList.idxOf e.1 ≤ S.cps.toList.idxOf e.2) := rfl
          have hLl : ((S.cps.toList.filter fun c => (headOf h c).isSome).map fun c => (c, (headOf h c).getD 0)).length ≤ 4000 := by
            rw [List.length_map]
            refine Nat.le_trans (List.length_filter_le _ _) ?_
            rw [Array.length_toList]
            exact hS
          generalize (S.cps.toList.filter fun c => (headOf h c).isSome).map (fun c => (c, (headOf h c).getD 0)) = L at hP2 hL hdue hLl
          have hpl := hP2.length
          refine ⟨_, rfl, D1, rfl, ⟨ys, SqL.of hD4⟩, fun D2 hD2 => lc_pair walk_list L hpl (fun e => decide (S.cps.toList.idxOf e.1 ≤ S.cps.toList.idxOf e.2)) (fun e y H' => ∃ q, y = V.ref q ∧ H' q = some (.tup [sg e.1, sg e.2])) ?_ hD2 (fun H' sm => sm.seq (SqL.of hD4)) (by rw [← hpl]; exact Nat.lt_of_le_of_lt hLl (by decide)) (fun x => rfl) ?_ ?_ ?_⟩
          · rintro e y H5 H6 hl5 hb ⟨q, e1, hq⟩
            exact ⟨q, e1, tupStay H5 H6 D2 q e hl5 hb hq⟩
          · intro j x e H5 C hx he s5 hC
            obtain ⟨e', he', q, rfl, hq⟩ := Paired.at hP2 hx
            rw [he] at he'
            obtain rfl : e = e' := Option.some.inj he'
            obtain ⟨i1, i2⟩ := hL e (List.mem_of_getElem? he)
            have hq5 := s5 _ _ hq
            refine ⟨_, rfl, ⟨_, rfl⟩, _, rfl, q, _, _, _, rfl, rfl, SqT.of hq5, at0 _ _, S, ⟨#[e.1]⟩, rfl, rfl, ?_⟩
            rw [find_one S e.1 i1]
            refine ⟨_, rfl, ⟨_, rfl⟩, _, rfl, q, _, _, _, rfl, rfl, SqT.of hq5, at1 _ _, S, ⟨#[e.2]⟩, rfl, rfl, ?_⟩
            rw [find_one S e.2 i2]
            refine ⟨_, _, rfl, rfl, _, rfl, ?_⟩
            have e3 : decide (((S.cps.toList.idxOf e.1 : Nat) : Int) ≤ ((S.cps.toList.idxOf e.2 : Nat) : Int)) = decide (S.cps.toList.idxOf e.1 ≤ S.cps.toList.idxOf e.2) := by
              rw [decide_eq_decide]
              omega
            rw [e3]
            exact hC H5 (Same.refl _)
          · intro j x e H5 C hx he _ s5 hC
            obtain ⟨e', he', q, rfl, hq⟩ := Paired.at hP2 hx
            rw [he] at he'
            obtain rfl : e = e' := Option.some.inj he'
            exact ⟨_, rfl, hC H5 _ (Same.refl _) ⟨q, rfl, s5 _ _ hq⟩⟩
          · intro H5 zs s5 hD5 hP5
            refine ⟨D2, zs, rfl, SqL.of hD5, fun r H6 n6 => ?_⟩
            have sA : Same H H5 := (s3.trans s4).trans s5
            have fr : H r = none := by
              cases e : H r with
              | none => rfl
              | some o => have := sA _ _ e; rw [n6.free] at this; cases this
            have hP6 : PairsAt H5 (dueOf S h) zs := by
              rw [hdue]
              exact hP5
            exact kS _ hkd H6 r zs (sA.trans n6.same) fr n6.here (hP6.same n6.same)
end
end My
end
section
set_option Elab.async false
set_option linter.all false
set_option maxRecDepth 100000
set_option maxHeartbeats 4000000
namespace My
open PySem PySem.Spec PyProof.Rows L2
abbrev s_keptM : Stmt := inCls s_cls 11
abbrev s_shownM : Stmt := inCls s_cls 10
abbrev VErr (K : PySem.W.Frag) (mg : Str → Option Value) (x qi : Str) (U fI : Addr) : Prop := ErrC K mg x "value" qi "ValueError" "ValueError.__new__" "ValueError.__init__" bmValue bmValue U fI
/-- the text of these signs -/
abbrev mkS (l : List Nat) : Str := ⟨l.toArray⟩
theorem mkS_self (S : Str) : mkS S.cps.toList = S := by
  cases S
  simp [mkS]
theorem mkS_len (l : List Nat) : (mkS l).length = l.length := List.size_toArray
/-- where a side stands in the order -/
def sideAt (S : Str) (c : Nat) : Nat := (S.cps.toList ++ [45]).idxOf c
/-- a kind as it is kept -/
def keptK (S : Str) (x y : Nat) : Str := if sideAt S y < sideAt S x then mkS [y, x] else mkS [x, y]
theorem kind_two {S z : Str} (h : kindD S (.str z) = true) : ∃ x y, z = mkS [x, y] ∧ sideB S x = true ∧ sideB S y = true ∧ ¬ (x = 45 ∧ y = 45) := by
  have h : (decide (z.length = 2) && !decide (z = (⟨#[45, 45]⟩ : Str)) && z.cps.toList.all (sideB S)) = true := h
  rw [Bool.and_eq_true, Bool.and_eq_true] at h
  obtain ⟨⟨h1, h2⟩, h3⟩ := h
  have h1 := of_decide_eq_true h1
  have zl : z.cps.toList.length = 2 := Array.length_toList.trans h1
  obtain ⟨x, y, e⟩ : ∃ x y, z.cps.toList = [x, y] := by
    match z.cps.toList, zl with
    | [x, y], _ => exact ⟨x, y, rfl⟩
  have ez : z = mkS [x, y] := by rw [← e, mkS_self]
  rw [e] at h3
  simp only [List.all_cons, List.all_nil, Bool.and_true, Bool.and_eq_true] at h3
  refine ⟨x, y, ez, h3.1, h3.2, fun q => ?_⟩
  rw [ez, q.1, q.2] at h2
  revert h2
  decide
theorem side_mem {S : Str} {c : Nat} (h : sideB S c = true) : c ∈ S.cps.toList ++ [45] := by
  unfold sideB at h
  rw [Bool.or_eq_true] at h
  rcases h with h | h
  · exact List.mem_append_right _ (by rw [of_decide_eq_true h]; exact List.mem_cons_self)
  · exact List.mem_append_left _ (of_decide_eq_true h)
theorem order_cps (S : Str) : (S ++ PySem.Str.ofString "-").cps.toList = S.cps.toList ++ [45] := by
  show (S.cps ++ (PySem.Str.ofString "-").cps).toList = _
  rw [Array.toList_append]
  have : (PySem.Str.ofString "-").cps.toList = [45] := by decide
  rw [this]
def sp_keptM (K : PySem.W.Frag) (C IK : Addr) : Sp := fun vs H Q E => ∃ (a p : Addr) (S : Str) (ps : List (Nat × Nat)) (v : V) (d : PyData), vs = [.ref a, v] ∧ FontAt H C a S ps ∧ S.length ≤ 4000 ∧ Rp K p H false v d ∧ textFits 4000 d ∧
  (kindD S d = false → ∀ H' dd, Same H H' → H' dd = none → E (.ref IK) (some dd) (upd H' dd (.xd [("value", v)]))) ∧ (∀ x y, d = .str (mkS [x, y]) → kindD S d = true → ∀ H', Same H H' → Q (.str (keptK S x y)) H')
section
variable {P : Program} {w : World} {K : PySem.W.Frag} {mg : Str → Option Value} {base : Heap}
theorem sc_keptM : FnScope ["self", "kind", "order"] ["self", "kind"] (defScope s_keptM) := ⟨rfl, rfl, rfl, by decide +kernel, rfl, by decide +kernel, by decide +kernel⟩
theorem ok_keptM {f C fK IK fI : Addr} {fd fdK : FuncData} {tB : Tok} (F : Fun K "kept" "Font.kept" s_keptM f fd) (c : Cls K C) (n1 : NoAttr K C "_signs") (gB : mg "BLANK" = some (.str "-" tB)) (D : Def K mg "is_kind" fK fdK ["signs", "value"]) (G : FnOk P w K mg base CX0 1 fK fdK ["signs", "value"] (sp_isKind K))
    (T : VErr K mg "InvalidKind" "InvalidKind.__init__" IK fI) : FnOk P w K mg base (L2.CX P w) 2 f fd ["self", "kind"] (sp_keptM K C IK) := by
  refine F.okX sc_keptM (fun vs H Q E h => ?_) (fun cdv A outer s H vs Q E hr h => ?_)
  · obtain ⟨a, p, S, ps, v, d, rfl, _⟩ := h
    rfl
  · obtain ⟨a, p, S, ps, v, d, rfl, hF, hS, hd, hz, kE, kQ⟩ := h
    obtain ⟨dx, r, ys, h1, h2, h3⟩ := hF.at_
    refine ⟨_, pss_cons (ps_if (pt_not (pt_val (pe_call (E := E0) G hr rfl D.mgf D.kp D.bd .nil pass0 (pa_cons (pe_fld (pv 0) rfl) (pa_cons (pv 1) pa_nil))))) (pss_one (ps_raiseErr rfl T fld_value hr (show 1 ≤ 1 by decide) (takes_of rfl rfl rfl rfl) (by exact (pa_cons (pv 1) pa_nil)) rfl)) pss_nil)
      (PSs.nox (pss_cons (ps_set (i := 2) sc_keptM.nd rfl (Or.inl rfl) (pe_op op_add_str (pe_fld (pv 0) rfl) (pe_glob (v := .str "-") rfl gB ⟨_, rfl⟩)))
      (pss_cons (ps_if (pt_cmpR op_gt (pe_m1 PySem.F.slot_str_find PySem.F.type_str_find mt_find (pv 2) (pe_ix ix_str (pv 1) pe_int (fun _ _ => rfl))) (pe_m1 PySem.F.slot_str_find PySem.F.type_str_find mt_find (pv 2) (pe_ix ix_str (pv 1) pe_int (fun _ _ => rfl))) (nomark _))
        (pss_one (ps_ret (pe_op op_add_str (pe_ix ix_str (pv 1) pe_int (fun _ _ => rfl)) (pe_ix ix_str (pv 1) pe_int (fun _ _ => rfl))))) pss_nil)
      (pss_one (ps_ret (pv 1)))))), ?_⟩
    refine ⟨_, rfl, a, _, dx, _, _, rfl, h1, c, n1, fs_signs S r, _, rfl, S, v, d, p, rfl, hd, hz, fun H1 s1 => ⟨_, rfl, ?_⟩⟩
    cases hs : kindD S d with
    | false => exact iteT ⟨_, rfl, _, rfl, fun dd hdd => kE hs H1 dd s1 hdd⟩
    | true =>
      obtain ⟨z, rfl⟩ : ∃ z, d = .str z := by
        cases d with
        | str z => exact ⟨z, rfl⟩
        | _ => cases hs
      obtain ⟨x, y, rfl, bx, by_, _⟩ := kind_two hs
      cases hd
      have fin := kQ x y rfl hs H1 s1
      have h1' := s1 _ _ h1
      have l1 : (PySem.Str.ofString "-").length = 1 := by decide
      have l2 : (mkS [x, y]).length ≤ sizeLine := by rw [mkS_len]; show 2 ≤ sizeLine; decide
      have a0 : atI (mkS [x, y]).cps.toList (0 : Int) = some x := atI_nat (j := 0) rfl
      have a1 : atI (mkS [x, y]).cps.toList (1 : Int) = some y := atI_nat (j := 1) rfl
      have f0 : Txt.find (S ++ PySem.Str.ofString "-") ⟨#[x]⟩ = ((sideAt S x : Nat) : Int) := by
        rw [find_one _ x (by rw [order_cps]; exact side_mem bx), order_cps]
        rfl
      have f1 : Txt.find (S ++ PySem.Str.ofString "-") ⟨#[y]⟩ = ((sideAt S y : Nat) : Int) := by
        rw [find_one _ y (by rw [order_cps]; exact side_mem by_), order_cps]
        rfl
      refine iteF ⟨_, rfl, a, _, dx, _, _, rfl, h1', c, n1, fs_signs S r, S, _, rfl, rfl, ?_, ?_⟩
      · rw [l1]
        exact Nat.le_trans (show S.length + 1 ≤ 4001 by omega) (by decide)
      refine ⟨_, rfl, ⟨_, rfl⟩, _, rfl, _, _, _, rfl, rfl, l2, a0, _, ⟨#[x]⟩, rfl, rfl, ?_⟩
      rw [f0]
      refine ⟨_, rfl, ⟨_, rfl⟩, _, rfl, _, _, _, rfl, rfl, l2, a1, _, ⟨#[y]⟩, rfl, rfl, ?_⟩
      rw [f1]
      refine ⟨_, _, rfl, rfl, _, rfl, ?_⟩
      refine ite2 (fun h => ?_) (fun h => ?_)
      · have h : sideAt S y < sideAt S x := by have := of_decide_eq_true h; omega
        unfold keptK at fin
        rw [if_pos h] at fin
        refine ⟨_, rfl, _, _, _, rfl, rfl, l2, a1, _, rfl, _, _, _, rfl, rfl, l2, a0, _, _, rfl, rfl, by show 1 + 1 ≤ sizeLine; decide, ?_⟩
        exact fin
      · have h : ¬ sideAt S y < sideAt S x := fun z => h (decide_eq_true (by omega))
        unfold keptK at fin
        rw [if_neg h] at fin
        exact ⟨_, rfl, fin⟩
end
end My
end
section
set_option Elab.async false
set_option linter.all false
set_option maxRecDepth 100000
set_option maxHeartbeats 4000000
namespace My
open PySem PySem.Spec PySem.Calls PyProof.Rows L2
open PySem.W (Frag kitOne Looks)
/-! ### isinstance(e, c), c above the class of an error that a suite holds -/
theorem ans_up {K : Frag} {x t c : Value} {H : Heap → Prop} (ty : ∀ (M : Model) (h : Heap), K.In h → H h → Looks M h (typeOf x) t) (ne : (t == c) = false) (e : kitOne K t c = some true) :
    Answers (fun s => K.In s.heap ∧ H s.heap) x c true := by
  intro dep tk prog w A R s hs
  obtain ⟨h0, g, d, tt, os⟩ := s
  obtain ⟨⟨X, p⟩, hq⟩ := hs
  have isT := ty (model prog w) h0 X p
  unfold PySem.W.kitOne at e
  unfold Builtin.«isinstance.nested»
  refine wpAny_bind (isT.at ?_)
  have q : ¬ (t == c) = true := by
    rw [ne]
    exact Bool.false_ne_true
  rw [if_neg q] at e
  rw [if_neg q]
  obtain ⟨cT, cI, up⟩ := PySem.W.kit_cls (M := model prog w) X e
  have inst : Looks (model prog w) h0 (isInstance x c) true := isT.andThen up
  refine wpAny_bind (cT.at ?_)
  rw [if_pos (by decide)]
  k_delta "plainIsInstance"
  refine wpAny_bind (wpAny_bind (cI.at ?_))
  simp only [Bool.not_true, Bool.false_eq_true, if_false]
  refine wpAny_bind (inst.at ?_)
  first
    | exact wpAny_pure (wpAny_pure (hq tt))
    | (simp only [if_true]
       first
         | exact wpAny_pure (wpAny_pure (hq tt))
         | exact wpAny_pure (hq tt)
         | exact wpAny_bind (wpAny_pure (wpAny_pure (hq tt))))
/-- isinstance(e, c), e the error that the suite holds, of the class at cls, c above it -/
def rIsUp (K : Frag) (a : Addr) (cls : Value) : List V → Hp → VK → Prop := fun xs H Q => ∃ (c : V) (cv : Value), xs = [.ref a, c] ∧ (∀ u, RelV c u → u = cv) ∧ kitOne K cls cv = some true ∧ (cls == cv) = false ∧ Q (.bl true) H
theorem call_isUp {X : Cx} {a : Addr} {oe : Obj} {cls : Value} {d : Option Addr} {pn : List (Addr × Obj)} (hz : Zc cls d oe) : CallR (X.suite a ((a, oe) :: pn)) (.builtin "isinstance") (rIsUp X.K a cls) := by
  intro pins s σ H xs us Q I r h
  obtain ⟨c, cv, rfl, hcv, e, ne, q⟩ := h
  obtain ⟨u1, u2, rfl, rx, rt⟩ := vals2 r
  obtain rfl : u1 = Value.ref a := rx
  obtain rfl := hcv _ rt
  obtain ⟨here, _⟩ := I.pin (a, oe) (List.mem_append.mpr (.inl List.mem_cons_self))
  have ty : ∀ (M : Model) (h : Heap), X.K.In h → h.get? a = some oe → Looks M h (typeOf (.ref a)) cls := fun M h _ g => hz.1 ▸ (PySem.W.Looks.ld g).andThen .now
  exact call_isinstance (S := fun _ R s => (X.K.In s.heap ∧ s.heap.get? a = some oe) ∧ ∀ tk, R (.ok (.ret (.bool true))) { s with toks := tk })
    (fun prog w A R s hs => isinstance_outer (ans_up (H := fun h => h.get? a = some oe) ty ne e 0 _ prog w A R s hs) (fun z => nomatch z)) ⟨⟨I.kIn, here⟩, fun tk => ⟨.bl true, H, I.kept (t' := tk) fun _ _ z => z, rfl, q⟩⟩
end My
end
section
set_option Elab.async false
set_option linter.all false
set_option maxRecDepth 100000
set_option maxHeartbeats 4000000
namespace My
open PySem PySem.Spec PyProof.Rows L2 LamX
abbrev s_told : Stmt := topS 36
/-- what a law makes of a call: ("kind", the error's value) -/
def TTkind (U : Addr) : (XK → Hp → VK → Prop) → Hp → VK → Prop := fun tl H Q =>
  tl (fun cls d H' => cls = .ref U ∧ ∃ (dd : Addr) (v : V), d = some dd ∧ H' dd = some (.xd [("value", v)]) ∧ ∀ p H2, New H' p (.tup [.str "kind", v]) H2 → Q (.ref p) H2) H (fun v H' => 2 ≤ sizeLine ∧ ∀ p H2, New H' p (.tup [.str "ok", v]) H2 → Q (.ref p) H2)
theorem takes_len {X : Cx} {W : WX} (t : Takes X W) : Takes X (fun c d σ H => σ.length = X.N.length → W c d σ H) := fun u s' ⟨a, B, sI, pins, σ, H, cls, d, e, I, nb, up, sky, na, os, ag, w⟩ =>
  t u s' ⟨a, B, sI, pins, σ, H, cls, d, e, I, nb, up, sky, na, os, ag, w I.len⟩
theorem set_at1 {σ : L2.St} {x : Option V} (h : σ.length = 2) : (σ.set 1 x)[1]? = some x := by
  rw [List.getElem?_set_self (by omega)]
theorem sc_told : FnScope ["_law_call", "e"] ["_law_call"] (defScope s_told) := ⟨rfl, rfl, rfl, by decide +kernel, rfl, by decide +kernel, by decide +kernel⟩
theorem told_gives {X : Cx} {g U fI U2 U3 U4 U5 U6 : Addr} {cdg : Value} {q : Str} (T : VErr X.K X.mg "InvalidKind" "InvalidKind.__init__" U fI) (hi : X.mg "isinstance" = none) (hk : X.mg "ValueError" = none) (up : PySem.W.kitOne X.K (.ref U) (.type "ValueError") = some true)
    (h2 : X.mg "InvalidNumber" = some (.ref U2)) (h3 : X.mg "TooFew" = some (.ref U3)) (h4 : X.mg "TooMany" = some (.ref U4)) (h5 : X.mg "OtherFont" = some (.ref U5)) (h6 : X.mg "InvalidSigns" = some (.ref U6)) :
    GivesTo X ["_law_call", "e"] "_law_told" (defScope s_told) g cdg (defBody s_told) "_law_call" q (TTkind U) := by
  intro f c' s H Q tl act hc h
  refine ⟨_, pss_one (ps_try_cl (X := (cxOf C8.CX0 X.prog X.w X.K X.mg X.base ["_law_call", "e"] "_law_told" (defScope s_told) g cdg X.A X.stack s H C8.E0).nox) (n := "e") (i := 1) (out := fun _ _ _ _ => False)
      (tb := fun W D σ H => ∃ Ech : XK, (∀ cls d σ' H', Ech cls d H' → σ'.length = 2 → W cls d σ' H') ∧ σ[0]? = some (some (.ref f)) ∧ H c' = some (CodeO c' q) ∧ tl Ech H (fun v H' => 2 ≤ sizeLine ∧ ∀ p H2, New H' p (.tup [.str "ok", v]) H2 → D.rt (.ref p) H2))
      rfl rfl sc_told.nd rfl rfl L2.takes0 (fun W pn xe tk _ => ?B)
      (.more (c := .ref U) ⟨(by rfl), (by decide), .inl T.gC⟩ (fun a oe cls d pn hz hf => pss_one (ps_ret (pe_tup' (pa_cons (pe_ifExp (pt_val (pe_callB (id := "isinstance") (call_isUp hz) (by rfl) hi (by decide +kernel) (pa_cons (pv 1) (pa_cons (pe_bltn (v := .ty "ValueError") (by rfl) hk (by decide +kernel) rfl) pa_nil)))) pe_str pe_str) (pa_cons (pe_errF T hz hf (pv 1)) pa_nil)))))
      (.more (c := .ref U2) ⟨(by rfl), (by decide), .inl h2⟩ (fun _ _ _ _ _ _ _ => pss_one ps_never)
      (.more (c := .ref U3) ⟨(by rfl), (by decide), .inl h3⟩ (fun _ _ _ _ _ _ _ => pss_one ps_never)
      (.more (c := .ref U4) ⟨(by rfl), (by decide), .inl h4⟩ (fun _ _ _ _ _ _ _ => pss_one ps_never)
      (.more (c := .ref U5) ⟨(by rfl), (by decide), .inl h5⟩ (fun _ _ _ _ _ _ _ => pss_one ps_never)
      (.more (c := .ref U6) ⟨(by rfl), (by decide), .inl h6⟩ (fun _ _ _ _ _ _ _ => pss_one ps_never) .done))))))), ?_⟩
  case B =>
    refine ⟨fun pins s' σ H' D I h' => ?_⟩
    obtain ⟨Ech, hW, h1, h2, h3⟩ := h'
    exact (pss_one (ps_ret (pe_tup' (pa_cons pe_str (pa_cons (act _ pn xe Ech _ _ (takes_len tk) hW) pa_nil))))).run pins s' σ H' D I ⟨h1, h2, h3⟩
  · refine ⟨fun cls d H' => cls = .ref U ∧ ∃ (dd : Addr) (v : V), d = some dd ∧ H' dd = some (.xd [("value", v)]) ∧ ∀ p H2, New H' p (.tup [.str "kind", v]) H2 → Q (.ref p) H2, fun cls d σ' H' ⟨ec, dd, v, ed, hv, k⟩ hl => ?_, rfl, hc, h⟩
    subst ec
    subst ed
    refine ⟨true, T.te, fun _ a0 _ => ?_, fun z => Bool.noConfusion z⟩
    refine ⟨.ref a0, set_at1 hl, .ty "ValueError", .type "ValueError", rfl, fun u hu => hu, up, rfl, _, rfl, iteT ?_⟩
    exact ⟨.ref a0, set_at1 hl, rfl, rfl, dd, v, rfl, hv, by show 2 ≤ sizeLine; decide, fun p H2 n2 => k p H2 n2⟩
end My
end
section
set_option Elab.async false
set_option linter.all false
set_option maxRecDepth 100000
set_option maxHeartbeats 4000000
namespace My
open PySem PySem.Spec PyProof.Rows L2
theorem op_in_seqK {X : Cx} {K : PySem.W.Frag} (h : X.K = K) : OpR X (compareOp .In) (rIn K false) := h ▸ op_in_seq
theorem passN {P : Program} {w : World} {X : Cx} : Passes (L2.CX P w) X E0 := fun _ _ _ _ _ _ _ h => by
  obtain ⟨_, _, _, _, _, _, _, _, _, _, _, _, hE⟩ := h
  exact hE.elim
/-- the sides that are signs -/
def sidesK (l : List Nat) : List Nat := l.filter fun c => !decide (c = 45)
/-- what a kind shows -/
def shownK (S : Str) (ps : List (Nat × Nat)) (x y : Nat) : Str := mkS (S.cps.toList.filter fun c => decide (c ∈ sidesK (keptK S x y).cps.toList) || decide (some c ∈ (sidesK (keptK S x y).cps.toList).map (turnOf ps)))
def sp_shownM (K : PySem.W.Frag) (C IK : Addr) : Sp := fun vs H Q E => ∃ (a p : Addr) (S : Str) (ps : List (Nat × Nat)) (v : V) (d : PyData), vs = [.ref a, v] ∧ FontAt H C a S ps ∧ S.length ≤ 4000 ∧ Rp K p H false v d ∧ textFits 4000 d ∧
  (kindD S d = false → ∀ H' dd, Same H H' → H' dd = none → E (.ref IK) (some dd) (upd H' dd (.xd [("value", v)]))) ∧ (∀ x y, d = .str (mkS [x, y]) → kindD S d = true → ∀ H', Same H H' → Q (.str (shownK S ps x y)) H')
theorem eqV_sg (a b : Nat) : eqV (sg a) (sg b) = decide (a = b) := by
  show ((⟨#[a]⟩ : Str) == ⟨#[b]⟩) = _
  by_cases h : a = b
  · rw [h, decide_eq_true rfl]
    exact beq_self_eq_true _
  · rw [decide_eq_false h]
    exact beq_eq_false_iff_ne.mpr fun z => h (sign_inj.mp z)
theorem eqV_sgO (o : Option Nat) (b : Nat) : eqV (sgO o) (sg b) = decide (o = some b) := by
  cases o with
  | none => rfl
  | some a =>
    show eqV (sg a) (sg b) = _
    rw [eqV_sg]
    by_cases h : a = b
    · rw [h]; simp
    · rw [decide_eq_false h, decide_eq_false (fun z => h (Option.some.inj z))]
theorem inV_sg (c : Nat) (l : List Nat) : inV (sg c) (l.map sg) = decide (c ∈ l) := by
  induction l with
  | nil => rfl
  | cons a l ih =>
    show (eqV (sg a) (sg c) || inV (sg c) (l.map sg)) = _
    rw [ih, eqV_sg]
    by_cases h : a = c
    · subst h; simp
    · rw [decide_eq_false h, Bool.false_or, decide_eq_decide, List.mem_cons]
      exact ⟨.inr, fun z => z.elim (fun q => absurd q.symm h) id⟩
theorem inV_sgO (c : Nat) (f : Nat → Option Nat) (l : List Nat) : inV (sg c) (l.map fun x => sgO (f x)) = decide (some c ∈ l.map f) := by
  induction l with
  | nil => rfl
  | cons a l ih =>
    show (eqV (sgO (f a)) (sg c) || inV (sg c) (l.map fun x => sgO (f x))) = _
    rw [ih, eqV_sgO]
    by_cases h : f a = some c
    · rw [List.map_cons, h]; simp
    · rw [decide_eq_false h, Bool.false_or, decide_eq_decide, List.map_cons, List.mem_cons]
      exact ⟨.inr, fun z => z.elim (fun q => absurd q.symm h) id⟩
theorem flat_sg (l : List Nat) : (l.map sg).all flatV = true := by
  rw [List.all_eq_true]
  intro x hx
  obtain ⟨c, _, rfl⟩ := List.mem_map.mp hx
  rfl
theorem flat_sgO (f : Nat → Option Nat) (l : List Nat) : (l.map fun x => sgO (f x)).all flatV = true := by
  rw [List.all_eq_true]
  intro x hx
  obtain ⟨c, _, rfl⟩ := List.mem_map.mp hx
  cases f c <;> rfl
theorem filter_sg (p : V → Bool) (l : List Nat) : (l.map sg).filter p = (l.filter fun c => p (sg c)).map sg := by
  induction l with
  | nil => rfl
  | cons a l ih =>
    rw [List.map_cons, List.filter_cons, List.filter_cons, ih]
    cases p (sg a) <;> rfl
theorem dash_sg (c : Nat) : decide (sg c = V.str (PySem.Str.ofString "-")) = decide (c = 45) := by
  have e : PySem.Str.ofString "-" = (⟨#[45]⟩ : Str) := by decide
  rw [e, decide_eq_decide]
  exact ⟨fun z => sign_inj.mp (by injection z), fun z => by rw [z]⟩
theorem join_sg (l : List Nat) : Txt.join (PySem.Str.ofString "") (l.map fun c => (⟨#[c]⟩ : Str)) = mkS l := by
  rw [TL.join_eq]
  exact join_signs l
section
variable {P : Program} {w : World} {K : PySem.W.Frag} {mg : Str → Option Value} {base : Heap}
abbrev NSh : List Str := ["self", "kind", "sides", "side", "heads", "sign"]
theorem sc_shownM : FnScope NSh ["self", "kind"] (defScope s_shownM) := ⟨rfl, rfl, rfl, by decide +kernel, rfl, by decide +kernel, by decide +kernel⟩
theorem ok_shownM {f C fK fT IK U : Addr} {fd fdK fdT : FuncData} {tB : Tok} (F : Fun K "shown" "Font.shown" s_shownM f fd) (c : Cls K C) (n1 : NoAttr K C "_signs") (gB : mg "BLANK" = some (.str "-" tB))
    (MK : Meth K C "kept" fK) (GK : FnOk P w K mg base (L2.CX P w) 2 fK fdK ["self", "kind"] (sp_keptM K C IK)) (bK : Binds K fdK ["self", "kind"] [])
    (MT : Meth K C "turned" fT) (GT : FnOk P w K mg base (L2.CX P w) 3 fT fdT ["self", "sign"] (sp_turned K C U)) (bT : Binds K fdT ["self", "sign"] []) :
    FnOk P w K mg base (L2.CX P w) 4 f fd ["self", "kind"] (sp_shownM K C IK) := by
  refine F.okX sc_shownM (fun vs H Q E h => ?_) (fun cdv A outer s H vs Q E hr h => ?_)
  · obtain ⟨a, p, S, ps, v, d, rfl, _⟩ := h
    rfl
  · obtain ⟨a, p, S, ps, v, d, rfl, hF, hS, hd, hz, kE, kQ⟩ := h
    obtain ⟨dx, r, ys, h1, h2, h3⟩ := hF.at_
    have r2 : Room 2 _ := hr.mono (by decide)
    have r3 : Room 3 _ := hr
    refine ⟨_, pss_cons (ps_set (i := 2) sc_shownM.nd rfl (Or.inr rfl) (pe_lc (own := [("side", 3)]) (g := gName 3) rfl sc_shownM.nd (pi_str (pe_meth (C := C) (E := E) (pv 0) c MK GK r2 bK .nil (passes_call (takes_of rfl rfl rfl rfl) (fun _ _ _ _ h => h)) (pa_cons (pv 1) pa_nil)))
        (blkOk_by (own := [("side", 3)]) (N := NSh) (sc := defScope s_shownM) (by decide +kernel)) (fun _ _ _ _ _ => pg_name (i := 3) sc_shownM.nd rfl (Or.inl rfl)) (fun _ _ _ _ _ => pts_one (pt_cmpR op_ne (pv 3) (pe_glob (v := .str "-") rfl gB ⟨_, rfl⟩) (nomark _))) (fun _ _ _ _ _ => pv 3)))
      (PSs.nox (pss_cons (ps_set (i := 4) sc_shownM.nd rfl (Or.inr rfl) (pe_lc (own := [("side", 3)]) (g := gName 3) (tt := tYes) rfl sc_shownM.nd (pi_list (pv 2))
        (blkOk_by (own := [("side", 3)]) (N := NSh) (sc := defScope s_shownM) (by decide +kernel)) (fun _ _ _ _ _ => pg_name (i := 3) sc_shownM.nd rfl (Or.inl rfl)) (fun _ _ _ _ _ => pts_nil) (fun _ _ _ _ _ => pe_meth (C := C) (E := E0) (pv 0) c MT GT r3 bT .nil passN (pa_cons (pv 3) pa_nil))))
      (pss_one (ps_ret (pe_join pe_str (pe_lc (own := [("sign", 5)]) (g := gName 5) rfl sc_shownM.nd (pi_str (pe_fld (pv 0) rfl))
        (blkOk_by (own := [("sign", 5)]) (N := NSh) (sc := defScope s_shownM) (by decide +kernel)) (fun _ _ _ _ _ => pg_name (i := 5) sc_shownM.nd rfl (Or.inl rfl)) (fun _ _ _ _ _ => pts_one (PW.pt (pw_or (pt_cmpR (op_in_seqK (K := K) (by rfl)) (pv 5) (pv 2) (by rfl)) (pw_or1 (pt_cmpR (op_in_seqK (K := K) (by rfl)) (pv 5) (pv 4) (by rfl)))))) (fun _ _ _ _ _ => pv 5))))))), ?_⟩
    refine ⟨_, rfl, a, dx, _, rfl, h1, rfl, _, rfl, a, p, S, ps, v, d, rfl, hF, hS, hd, hz, kE, fun x y e hk H1 s1 => ?_⟩
    subst e
    obtain ⟨x0, y0, ez, bx, by_, _⟩ := kind_two hk
    have exy : x0 = x ∧ y0 = y := by
      have : ([x, y] : List Nat) = [x0, y0] := by
        have h := congrArg (fun z : Str => z.cps.toList) ez
        simpa using h
      simp at this
      exact ⟨this.1.symm, this.2.symm⟩
    rw [exy.1] at bx
    rw [exy.2] at by_
    have zz : (keptK S x y).cps.toList = [x, y] ∨ (keptK S x y).cps.toList = [y, x] := by
      unfold keptK
      split
      · exact .inr rfl
      · exact .inl rfl
    have z2 : (keptK S x y).length = 2 := by
      have : (keptK S x y).length = (keptK S x y).cps.toList.length := Array.length_toList.symm
      rw [this]
      rcases zz with h | h <;> rw [h] <;> rfl
    have sideS : ∀ ch ∈ sidesK (keptK S x y).cps.toList, ch ∈ S.cps.toList := by
      intro ch hch
      obtain ⟨m, n45⟩ := List.mem_filter.mp hch
      have n45 : ch ≠ 45 := fun z => by rw [z] at n45; simp at n45
      have m : ch = x ∨ ch = y := by
        rcases zz with h | h <;> rw [h] at m <;> simp at m
        · exact m
        · exact m.symm
      have b : sideB S ch = true := by rcases m with rfl | rfl <;> assumption
      unfold sideB at b
      rw [decide_eq_false n45, Bool.false_or] at b
      exact of_decide_eq_true b
    have fin := kQ x y rfl hk
    unfold shownK at fin
    have lenS : (sidesK (keptK S x y).cps.toList).length ≤ 2 := by
      refine Nat.le_trans (List.length_filter_le _ _) ?_
      rcases zz with h | h <;> rw [h] <;> exact Nat.le_refl 2
    generalize hL : sidesK (keptK S x y).cps.toList = L at sideS fin lenS
    refine ⟨_, rfl, fun D1 hD1 => lc_ff walk_signs (fun x => !decide (x = V.str (PySem.Str.ofString "-"))) (fun x => x) hD1 (fun _ _ => trivial) (by rw [signs_len, z2]; decide) (fun x => rfl) ?_ ?_ ?_⟩
    · intro x H' C' hx _ hC
      obtain ⟨ch, _, rfl⟩ := mem_signs hx
      exact ⟨_, rfl, rfl, _, rfl, hC H' (Same.refl _)⟩
    · intro x H' C' hx _ _ hC
      exact ⟨_, rfl, hC H' (Same.refl _)⟩
    intro H2 s2 hl2
    have e2 : ((signs (keptK S x y)).filter fun x => !decide (x = V.str (PySem.Str.ofString "-"))).map (fun x => x) = L.map sg := by
      rw [List.map_id']
      show ((keptK S x y).cps.toList.map sg).filter _ = _
      rw [filter_sg, ← hL]
      unfold sidesK
      congr 1
      apply List.filter_congr
      intro ch _
      show (!decide (sg ch = _)) = _
      rw [dash_sg]
    rw [e2] at hl2
    have s02 : Same H H2 := s1.trans s2
    refine ⟨_, rfl, D1, rfl, ⟨_, SqL.of hl2⟩, fun D2 hD2 => lc_ff walk_list (fun _ => true) (fun x => sgO (turnOf ps (ofSg x))) hD2 (fun H' sm => sm.seq (SqL.of hl2)) (by rw [List.length_map]; exact Nat.lt_of_le_of_lt lenS (by decide)) (fun x => rfl) (fun x H' C _ _ h => h _ (Same.refl _)) ?_ ?_⟩
    · intro x H' C' hx _ s5 hC
      obtain ⟨ch, hch, rfl⟩ := List.mem_map.mp hx
      have hcS := sideS ch hch
      refine ⟨_, rfl, a, dx, _, rfl, s5 _ _ (s02 _ _ h1), rfl, _, rfl, a, p, S, ps, sg ch, .str ⟨#[ch]⟩, rfl, hF.same (s02.trans s5), Rp.str _ _, by show 1 ≤ sizeLine; decide, fun z => ?_, fun c1 z hc1 => ?_⟩
      · have t : signD S (.str ⟨#[ch]⟩) = true := by
          rw [signD_str]
          have e1 : (⟨#[ch]⟩ : Str).length = 1 := rfl
          rw [e1]
          simp only [decide_true, Bool.true_and, List.all_cons, List.all_nil, Bool.and_true]
          exact decide_eq_true hcS
        rw [t] at z
        cases z
      · have e1 : ch = c1 := sign_inj.mp (by injection z)
        subst e1
        exact hC H' (Same.refl _)
    intro H3 s3 hl3
    have e3 : ((L.map sg).filter fun _ => true).map (fun x => sgO (turnOf ps (ofSg x))) = L.map fun x => sgO (turnOf ps x) := by
      rw [pv_filter_true, List.map_map]
      rfl
    rw [e3] at hl3
    have s03 : Same H H3 := s02.trans s3
    have hl23 := s3 _ _ hl2
    refine ⟨⟨_, rfl⟩, _, rfl, a, C, dx, _, _, rfl, s03 _ _ h1, c, n1, fs_signs S r, S, rfl, fun D3 hD3 => lc_ff walk_signs (fun x => inV x (L.map sg) || inV x (L.map fun x => sgO (turnOf ps x))) (fun x => x) hD3 (fun _ _ => trivial) (by rw [signs_len]; exact Nat.lt_of_le_of_lt hS (by decide)) (fun x => rfl) ?_ ?_ ?_⟩
    · intro x H' C' hx s5 hC
      obtain ⟨ch, _, rfl⟩ := mem_signs hx
      have hC := hC H' (Same.refl _)
      refine ⟨_, rfl, _, rfl, D1, _, rfl, .inl (SqL.of (s5 _ _ hl23)), rfl, flat_sg L, _, rfl, ?_⟩
      rw [if_neg Bool.false_ne_true]
      refine ite2 (fun h => ?_) (fun h => ?_)
      · rw [h, Bool.true_or] at hC
        exact hC
      · have h : inV (V.str ⟨#[ch]⟩) (L.map sg) = false := by simpa using h
        rw [h, Bool.false_or] at hC
        refine ⟨_, rfl, _, rfl, D2, _, rfl, .inl (SqL.of (s5 _ _ hl3)), rfl, flat_sgO _ L, _, rfl, ?_⟩
        rw [if_neg Bool.false_ne_true]
        exact hC
    · intro x H' C' hx _ _ hC
      exact ⟨_, rfl, hC H' (Same.refl _)⟩
    intro H4 s4 hl4
    have e4 : ((signs S).filter fun x => inV x (L.map sg) || inV x (L.map fun x => sgO (turnOf ps x))).map (fun x => x) = ((S.cps.toList.filter fun c => decide (c ∈ L) || decide (some c ∈ L.map (turnOf ps))).map fun c => (⟨#[c]⟩ : Str)).map V.str := by
      rw [List.map_id', List.map_map]
      show (S.cps.toList.map sg).filter _ = _
      rw [filter_sg]
      show List.map sg _ = List.map sg _
      congr 1
      apply List.filter_congr
      intro ch _
      show (inV (sg ch) _ || inV (sg ch) _) = _
      rw [inV_sg, inV_sgO]
    rw [e4] at hl4
    refine ⟨_, D3, _, rfl, rfl, .inl (SqL.of hl4), ?_, ?_⟩
    · rw [sum_ones]
      have : (PySem.Str.ofString "").length = 0 := by decide
      rw [this, Nat.mul_zero, Nat.add_zero]
      refine Nat.le_trans (List.length_filter_le _ _) ?_
      have : S.cps.toList.length = S.length := Array.length_toList
      rw [this]
      exact Nat.le_trans hS (by decide)
    · rw [join_sg]
      exact fin H4 (s03.trans s4)
end
end My
end
section
set_option Elab.async false
set_option linter.all false
set_option maxRecDepth 100000
set_option maxHeartbeats 4000000
namespace My
open PySem PySem.Spec PyProof.Rows L2
/-! ### the turns, some of them the other way round -/
theorem lc_flip {K : PySem.W.Frag} {a D p c : Addr} {xs : List V} {ps : List (Nat × Nat)} {n i : Nat} {te : TE} {vs : List Nat} {σ : L2.St} {H1 : Hp} {Qd : Hp → Prop} (hP : PenAt H1 p c n) (hA : H1 a = some (.lst xs)) (hap : a ≠ p) (hps : PairsAt H1 ps xs) (small : xs.length ≤ 10) (free : H1 D = none)
    (hw : ∀ x, wipe ((wipe σ vs).set i (some x)) vs = wipe σ vs)
    (he : ∀ (j q : Nat) (e : Nat × Nat) (H' : Hp) (C : VK), j < xs.length → PenAt H' p c (n + j) → H' q = some (.tup [sg e.1, sg e.2]) → (∀ H2 r e', DrewP H' p c (n + j + 1) H2 → (e' = e ∨ e' = (e.2, e.1)) → H2 r = some (.tup [sg e'.1, sg e'.2]) → C (.ref r) H2) → te ((wipe σ vs).set i (some (.ref q))) H' C)
    (hd : ∀ H' zs qs, DrewP H1 p c (n + 10) H' → H' D = some (.lst zs) → PairsAt H' qs zs → SameTurns ps qs → qs.length ≤ 10 → Qd H') :
    ∃ W : Nat → Nat → Hp → Prop, (∃ m, W 0 m (upd H1 D (.lst []))) ∧ ∀ j m H, W j m H →
      ((Itl K a).stop j H ∧ Qd H) ∨ ((Itl K a).go j H ∧ ∃ Nx : Hp → Prop, (∀ H', Nx H' → ∃ m', m' < m ∧ W (j + 1) m' H') ∧ ∀ x H', (Itl K a).yld j H x H' → gName i x (wipe σ vs) H' fun σ2 H2 => wipe σ2 vs = wipe σ vs ∧ tYes σ2 H2 fun b H3 =>
        if b = true then te σ2 H3 fun y H4 => ∃ acc, H4 D = some (.lst acc) ∧ acc.length < sizeLine ∧ Nx (upd H4 D (.lst (acc ++ [y]))) else Nx H3) := by
  have pD : p ≠ D := hP.ne free
  have cD : c ≠ D := hP.neC free
  have hl := hps.length
  refine lc_it walk_list (fun j H' => But p H1 H' ∧ PenAt H' p c (n + j) ∧ ∃ zs qs, H' D = some (.lst zs) ∧ PairsAt H' qs zs ∧ Paired (fun e e' => e' = e ∨ e' = (e.2, e.1)) (ps.take j) qs ∧ zs.length = j)
    ⟨But.wr (But.refl H1) free .mk', (hP.mono (by omega)).els .mk' pD cD, [], [], upd_same, .nil, by simp; exact .nil, rfl⟩ (fun j H' _ q => SqL.of (q.1 _ _ hap hA)) ?_ ?_
  · rintro j x H2 H3 hj ⟨hB, hPj, zs, qs, hD, hqs, hpr, hzl⟩ ⟨rfl, hx⟩
    obtain ⟨e, he0, q, rfl, hq⟩ := Paired.at hps hx
    have qp : q ≠ p := hP.neT hq
    refine ⟨hw _, ?_⟩
    unfold tYes
    refine iteT (he j q e _ _ hj hPj (hB _ _ qp hq) fun H4 r e' d4 e'eq hr => ?_)
    have hD4 : H4 D = some (.lst zs) := d4.but _ _ pD.symm hD
    have hqs4 : PairsAt H4 qs zs := hqs.pen hPj d4.but
    have w5 : Wr H4 D (.lst (zs ++ [.ref r])) (upd H4 D (.lst (zs ++ [.ref r]))) := .mk'
    have rD : r ≠ D := ne_of hr hD4 (by intro z; cases z)
    refine ⟨zs, hD4, Nat.lt_of_le_of_lt (show zs.length ≤ 10 by omega) (by decide), But.wr (hB.trans d4.but) free w5, d4.pen.els w5 pD cD, _, qs ++ [e'], upd_same, Paired.snoc (hqs4.extL (ExtL.wr hD4 w5)) ⟨r, rfl, (w5.els r rD).trans hr⟩, ?_, by simp [hzl]⟩
    have nx : ps.take (j + 1) = ps.take j ++ [e] := by
      rw [List.take_add_one, he0]
      rfl
    rw [nx]
    exact Paired.snoc hpr e'eq
  · rintro H' ⟨hB, hPn, zs, qs, hD, hqs, hpr, hzl⟩
    rw [← hl, List.take_length] at hpr
    exact hd H' zs qs ⟨hB, hPn.mono (by omega)⟩ hD hqs (same_flip hpr) (by have := hpr.length; omega)
theorem paired_perm {α β : Type} {R : α → β → Prop} {r r' : List β} (p : r'.Perm r) : ∀ {l : List α}, Paired R l r → ∃ l', Paired R l' r' ∧ l'.Perm l := by
  induction p with
  | nil =>
    intro l h
    cases h
    exact ⟨[], .nil, .nil⟩
  | cons x _ ih =>
    intro l h
    cases h with
    | cons a t =>
      obtain ⟨l', h1, h2⟩ := ih t
      exact ⟨_ :: l', .cons a h1, h2.cons _⟩
  | swap x y l0 =>
    intro l h
    cases h with
    | cons a t =>
      cases t with
      | cons b t =>
        exact ⟨_, .cons b (.cons a t), .swap _ _ _⟩
  | trans _ _ ih1 ih2 =>
    intro l h
    obtain ⟨l1, h1, h2⟩ := ih2 h
    obtain ⟨l2, h3, h4⟩ := ih1 h1
    exact ⟨l2, h3, h4.trans h2⟩
end My
end
section
set_option Elab.async false
set_option linter.all false
set_option maxRecDepth 100000
set_option maxHeartbeats 4000000
namespace My
open PySem PySem.Spec PyProof.Rows L2
abbrev s_fmade : Stmt := topS 34
theorem good_mono {m n : Nat} {S : Str} {ps : List (Nat × Nat)} (h : m ≤ n) (g : Good m S ps) : Good n S ps := ⟨g.lo, Nat.le_trans g.hi h, g.nd, g.ab, g.tnd, g.tin⟩
theorem nodup_len {l m : List Nat} (nd : l.Nodup) (s : ∀ x ∈ l, x ∈ m) : l.length ≤ m.length := by
  induction l generalizing m with
  | nil => exact Nat.zero_le _
  | cons a l ih =>
    have ha := s a List.mem_cons_self
    obtain ⟨n1, n2⟩ := List.nodup_cons.mp nd
    have := ih (m := m.erase a) n2 fun x hx => (List.mem_erase_of_ne (fun z => n1 (by rw [← z]; exact hx))).mpr (s x (List.mem_cons_of_mem _ hx))
    rw [List.length_erase_of_mem ha] at this
    have pos : 0 < m.length := List.length_pos_of_mem ha
    rw [List.length_cons]
    omega
theorem pairs_len {S : Str} {ps : List (Nat × Nat)} (hG : Good 10 S ps) : ps.length ≤ 10 := by
  have h1 : ps.length ≤ (ps.flatMap spread).length := by
    clear hG
    induction ps with
    | nil => exact Nat.le_refl _
    | cons e l ih =>
      rw [List.flatMap_cons, List.length_append, List.length_cons]
      have : 1 ≤ (spread e).length := by unfold spread; split <;> simp
      omega
  have h2 : (ps.flatMap spread).length ≤ S.cps.toList.length := nodup_len hG.tnd fun c hc => hG.tin c hc
  have h3 : S.cps.toList.length = S.length := Array.length_toList
  have := hG.hi
  omega
theorem turns_ab {S : Str} {ps qs : List (Nat × Nat)} (hG : Good 10 S ps) (sm : SameTurns ps qs) : ∀ e ∈ qs, e.1 ∈ alphabet.cps.toList ∧ e.2 ∈ alphabet.cps.toList := fun e he =>
  ⟨hG.ab _ (hG.tin _ (sm.perm.mem_iff.mp (List.mem_flatMap.mpr ⟨e, he, mem_spread.mpr (.inl rfl)⟩))), hG.ab _ (hG.tin _ (sm.perm.mem_iff.mp (List.mem_flatMap.mpr ⟨e, he, mem_spread.mpr (.inr rfl)⟩)))⟩
/-- the font of the package -/
def sp_fmade (K : PySem.W.Frag) (C : Addr) : Sp := fun vs H Q _ => ∃ (p c t b : Addr) (n : Nat) (S : Str) (ys : List V) (ps : List (Nat × Nat)), vs = [.ref p, .ref t] ∧ PenAt H p c n ∧ n < 2 ^ 50 ∧ H t = some (.tup [.str S, .ref b]) ∧ SqL K H b ys ∧ PairsAt H ps ys ∧ Good 10 S ps ∧
  ∀ H' a, But p H H' → PenAt H' p c (n + 20) → FontAt H' C a S (dueOf S (headsAll ps)) → Q (.ref a) H'
section
variable {P : Program} {w : World} {K : PySem.W.Frag} {mg : Str → Option Value} {base : Heap}
abbrev NFm : List Str := ["_law_pen_here", "_law_font_here", "_law_pair"]
theorem sc_fmade : FnScope NFm ["_law_pen_here", "_law_font_here"] (defScope s_fmade) := ⟨rfl, rfl, rfl, by decide +kernel, rfl, by decide +kernel, by decide +kernel⟩
theorem ok_fmade {f C fI fS fF : Addr} {fd fdI fdS fdF : FuncData} (F : Fun K "_law_font_made" "_law_font_made" s_fmade f fd) (M : Mk K C fI) (GI : FnOk P w K mg base CX0 4 fI fdI ["self", "signs", "turns"] (sp_init K C)) (bI : Binds K fdI ["self", "signs", "turns"] []) (gF : mg "Font" = some (.ref C))
    (DS : Def K mg "_law_shuffled" fS fdS ["_law_pen_here", "_law_items"]) (GS : FnOk P w K mg base CX0 2 fS fdS ["_law_pen_here", "_law_items"] (sp_shuf K))
    (DF : Def K mg "_law_flipped" fF fdF ["_law_pen_here", "_law_pair"]) (GF : FnOk P w K mg base CX0 3 fF fdF ["_law_pen_here", "_law_pair"] (sp_flip K)) :
    FnOk P w K mg base CX0 6 f fd ["_law_pen_here", "_law_font_here"] (sp_fmade K C) := by
  refine F.ok sc_fmade (fun vs H Q E h => ?_) (fun cdv A outer s H vs Q E hr h => ?_)
  · obtain ⟨p, c, t, b, n, S, ys, ps, rfl, _⟩ := h
    rfl
  · obtain ⟨p, c, t, b, n, S, ys, ps, rfl, hP, hn, ht, hb, hps, hG, k⟩ := h
    have r2 : Room 2 _ := hr.mono (by decide)
    have r3 : Room 3 _ := hr.mono (by decide)
    have hl := pairs_len hG
    have hyl := hps.length
    refine ⟨_, pss_one (ps_ret (pe_font M GI hr rfl gF bI .nil (pa_cons (pe_ix ix_tup (pv 1) pe_int (fun _ _ => rfl)) (pa_cons (by exact (pe_lc (own := [("_law_pair", 2)]) (g := gName 2) (tt := tYes) rfl sc_fmade.nd (pi_list (pe_call GS r2 rfl DS.mgf DS.kp DS.bd .nil pass0 (pa_cons (pv 0) (pa_cons (pe_ix ix_tup (pv 1) pe_int (fun _ _ => rfl)) pa_nil))))
      (blkOk_by (own := [("_law_pair", 2)]) (N := NFm) (sc := defScope s_fmade) (by decide +kernel)) (fun _ _ _ _ _ => pg_name (i := 2) sc_fmade.nd rfl (Or.inl rfl)) (fun _ _ _ _ _ => pts_nil)
      (fun _ _ _ _ _ => pe_call (E := E0) GF r3 rfl DF.mgf DF.kp DF.bd .nil pass0 (pa_cons (pv 0) (pa_cons (pv 2) pa_nil))))) pa_nil)))), ?_⟩
    refine ⟨_, rfl, t, _, _, _, rfl, rfl, SqT.of ht, at0 _ _, _, rfl, _, rfl, t, _, _, _, rfl, rfl, SqT.of ht, at1 _ _, p, c, _, ys, n, rfl, hP, by omega, .lst hb, by omega, fun H1 r xs d1 f1 h1 perm => ?_⟩
    obtain ⟨ps2, hps2, perm2⟩ := paired_perm perm (hps.pen hP d1.but)
    have lxs := hps2.length
    have lps := perm2.length_eq
    refine ⟨r, rfl, ⟨_, SqL.of h1⟩, fun D1 hD1 => lc_flip (c := c) (n := n + ys.length) d1.pen h1 (fun z => hP.ne f1 z.symm) hps2 (by omega) hD1 (fun x => rfl) ?_ ?_⟩
    · rintro j q e H' C hj hPj hq hC
      refine ⟨_, rfl, _, rfl, p, c, q, _, _, _, rfl, hPj, by omega, hq, fun H2 r' d2 hr' => ?_⟩
      rcases hr' with hr' | hr'
      · exact hC H2 r' e d2 (.inl rfl) hr'
      · exact hC H2 r' (e.2, e.1) d2 (.inr rfl) hr'
    · rintro H' zs qs d2 hD hqs sm hl2
      have sm2 := same_trans (same_perm perm2) sm
      have abq := turns_ab hG sm2
      obtain ⟨_, _, _, _, nd⟩ := pairs_data qs abq
      obtain ⟨dfit, _, _, _⟩ := passed_data hl2 abq (.inl rfl)
      have d12 := d1.trans d2
      have hrp : Rp K p H' false (.ref D1) (.list (qs.map pairD)) := by
        obtain ⟨cs, u, z, hp, _⟩ := d2.pen
        exact .lst hD (fun z => d1.pen.ne hD1 z.symm) (fun z => by rw [nd] at z; cases z) (rp_pairs hp (fun xs z => by cases z) hqs)
      have kept : keptD S (.list (qs.map pairD)) = some (dueOf S (headsAll ps)) := kept_same sm2 hG.tnd hG.tin
      exact ⟨S, .ref D1, _, _, p, rfl, hrp, dfit, good_fontD (Nat.le_refl 10) hG, kept, fun H2 a s2 fa ft => k H2 a (d12.but.trans (.of s2)) ((d12.pen.mono (by omega)).same s2) ft⟩
end
end My
end
section
set_option Elab.async false
set_option linter.all false
set_option maxRecDepth 100000
set_option maxHeartbeats 4000000
namespace My
open PySem PySem.Spec PyProof.Rows L2
abbrev s_lisKind : Stmt := topS 35
/-- xs == [], xs a list of anything -/
def qEqNil (K : PySem.W.Frag) : R2 := fun x y H Q => ∃ a b xs, x = .ref a ∧ y = .ref b ∧ SqL K H a xs ∧ H b = some (.lst []) ∧ Q (.bl xs.isEmpty) H
theorem op_eqNil {X : Cx} (hu : X.A.units < cLine) : OpR X (compareOp .Eq) (qEqNil X.K) := by
  intro pins s σ H x y v u Q I rx ry h
  obtain ⟨a, b, xs, rfl, rfl, ha, hb, q⟩ := h
  cases rx
  cases ry
  obtain ⟨its, r1, p1, _⟩ := I.list ha
  obtain ⟨its2, r2, p2, _⟩ := I.list (SqL.of hb : SqL X.K H b [])
  cases r2
  cases r1 with
  | nil => exact SeqAt.RcAt.lists (e := fun _ => true) p1.isList p2.isList rfl hu (fun j h1 _ => absurd h1 (by simp)) X.prog X.w X.xe _ ⟨.bl _, H, I, rfl, q⟩
  | cons _ _ => exact SeqAt.RcAt.lists_lengths p1.isList p2.isList (by simp) hu X.prog X.w X.xe _ ⟨.bl _, H, I, rfl, q⟩
section
variable {P : Program} {w : World} {K : PySem.W.Frag} {mg : Str → Option Value} {base : Heap}
abbrev NLk : List Str := ["_law_signs", "_law_value", "_law_side"]
theorem sc_lisKind : FnScope NLk ["_law_signs", "_law_value"] (defScope s_lisKind) := ⟨rfl, rfl, rfl, by decide +kernel, rfl, by decide +kernel, by decide +kernel⟩
theorem ok_lisKind {f : Addr} {fd : FuncData} (F : Fun K "_law_is_kind" "_law_is_kind" s_lisKind f fd) (T : TB mg) : FnOk P w K mg base CX0 1 f fd ["_law_signs", "_law_value"] (sp_isKind K) := by
  refine F.ok sc_lisKind (fun vs H Q E h => ?_) (fun cdv A outer s H vs Q E hr h => ?_)
  · obtain ⟨S, v, d, p, rfl, _⟩ := h
    rfl
  · obtain ⟨S, v, d, p, rfl, hd, hz, k⟩ := h
    refine ⟨_, pss_cons (ps_if (PW.pt (pw_or (pt_not (pt_val (pe_callB (id := "isinstance") call_isi (by rfl) T.isi (by decide +kernel) (pa_cons (pv 1) (pa_cons (pe_bltn (v := .ty "str") (by rfl) T.str (by decide +kernel) rfl) pa_nil)))))
        (pw_or (pt_cmpR op_ne (pe_callB call_len_str (by rfl) T.len PySem.boot_len (pa_cons (pv 1) pa_nil)) pe_int (nomark _)) (pw_or1 (pt_cmpR op_eq (pv 1) pe_str (nomark _))))))
      (pss_one (ps_ret pe_bl)) pss_nil)
      (pss_one (ps_ret (pe_cmpR (op_eqNil hr.units0) (pe_lc (own := [("_law_side", 2)]) (g := gName 2) rfl sc_lisKind.nd (pi_str (pv 1)) (blkOk_by (own := [("_law_side", 2)]) (N := NLk) (sc := defScope s_lisKind) (by decide +kernel))
        (fun _ _ _ _ _ => pg_name (i := 2) sc_lisKind.nd rfl (Or.inl rfl)) (fun _ _ _ _ _ => pts_one (PW.pt (pw_and (pt_cmpR op_ne (pv 2) pe_str (nomark _)) (pw_and1 (pt_cmpR op_notIn_sign (pv 2) (pv 0) (by rfl)))))) (fun _ _ _ _ _ => pv 2)) (pe_lst' pa_nil) (nomark _)))), ?_⟩
    refine ⟨_, rfl, _, _, _, _, _, rfl, .ty "str", hd.ty, kit_str d, _, rfl, ?_⟩
    cases d with
    | str z =>
      cases hd
      have hz : z.length ≤ 4000 := hz
      refine iteF ⟨_, rfl, z, rfl, Nat.le_trans hz (by decide), rfl, _, rfl, ?_⟩
      refine ite2 (fun h1 => iteT ?_) (fun h1 => ?_)
      · have h2 : z.length ≠ 2 := fun e => by rw [e] at h1; simp at h1
        have e : kindD S (.str z) = false := by
          show (decide (z.length = 2) && !decide (z = (⟨#[45, 45]⟩ : Str)) && z.cps.toList.all (sideB S)) = false
          rw [decide_eq_false h2, Bool.false_and, Bool.false_and]
        rw [e] at k
        exact k H (Same.refl H)
      have h2 : z.length = 2 := by
        by_cases e : z.length = 2
        · exact e
        · refine absurd ?_ h1
          rw [decide_eq_false (fun q => e (by injection q with q; omega))]
          rfl
      have dash : PySem.Str.ofString "--" = (⟨#[45, 45]⟩ : Str) := by decide
      refine ⟨_, rfl, rfl, _, rfl, ?_⟩
      rw [dash]
      refine ite2 (fun h3 => ?_) (fun h3 => ?_)
      · have h3 : z = (⟨#[45, 45]⟩ : Str) := by
          have := of_decide_eq_true h3
          injection this
        have e : kindD S (.str z) = false := by
          show (decide (z.length = 2) && !decide (z = (⟨#[45, 45]⟩ : Str)) && z.cps.toList.all (sideB S)) = false
          rw [decide_eq_true h3, Bool.not_true, Bool.and_false, Bool.false_and]
        rw [e] at k
        exact k H (Same.refl H)
      have h3 : z ≠ (⟨#[45, 45]⟩ : Str) := fun e => h3 (by rw [e]; exact decide_eq_true rfl)
      have eK : kindD S (.str z) = z.cps.toList.all (sideB S) := by
        show (decide (z.length = 2) && !decide (z = (⟨#[45, 45]⟩ : Str)) && z.cps.toList.all (sideB S)) = _
        rw [decide_eq_true h2, decide_eq_false h3]
        rfl
      refine ⟨_, rfl, z, rfl, fun D hD => lc_ff walk_signs (fun x => match x with | .str y => !(y.cps.toList.all (sideB S)) | _ => false) (fun x => x) hD (fun _ _ => trivial) (by rw [signs_len]; exact Nat.lt_of_le_of_lt hz (by decide)) (fun x => rfl) ?_ ?_ ?_⟩
      · intro x H' C hx _ hC
        obtain ⟨c, _, rfl⟩ := mem_signs hx
        have hC := hC H' (Same.refl _)
        have eS : (match V.str ⟨#[c]⟩ with | .str y => !(y.cps.toList.all (sideB S)) | _ => false) = !sideB S c := by
          show (!([c].all (sideB S))) = _
          simp
        rw [eS] at hC
        refine ⟨_, rfl, rfl, _, rfl, ?_⟩
        have d45 := dash_sg c
        refine ite2 (fun h4 => ?_) (fun h4 => ?_)
        · have h4 : decide (sg c = V.str (PySem.Str.ofString "-")) = false := by simpa using h4
          rw [d45] at h4
          refine ⟨_, rfl, _, rfl, c, S, rfl, rfl, _, rfl, ?_⟩
          have e : sideB S c = decide (c ∈ S.cps.toList) := by
            unfold sideB
            rw [h4]
            rfl
          rw [e] at hC
          exact hC
        · have h4 : decide (sg c = V.str (PySem.Str.ofString "-")) = true := by simpa using h4
          rw [d45] at h4
          have e : sideB S c = true := by
            unfold sideB
            rw [h4]
            rfl
          rw [e] at hC
          exact hC
      · intro x H' C hx _ _ hC
        exact ⟨_, rfl, hC H' (Same.refl _)⟩
      · intro H' sm hl
        refine ⟨by show 0 ≤ sizeLine; decide, fun q H2 n2 => ⟨D, q, _, rfl, rfl, SqL.of (n2.same _ _ hl), n2.here, ?_⟩⟩
        have e : (((signs z).filter fun x => match x with | .str y => !(y.cps.toList.all (sideB S)) | _ => false).map fun x => x).isEmpty = kindD S (.str z) := by
          rw [eK, List.map_id']
          show ((z.cps.toList.map sg).filter _).isEmpty = _
          rw [filter_sg, List.isEmpty_map]
          have : ∀ l : List Nat, (l.filter fun c => !([c].all (sideB S))).isEmpty = l.all (sideB S) := by
            intro l
            induction l with
            | nil => rfl
            | cons a l ih =>
              rw [List.filter_cons, List.all_cons]
              cases h : sideB S a with
              | true => simpa [h] using ih
              | false => simp [h]
          exact this _
        rw [e]
        exact k H2 (sm.trans n2.same)
    | _ => exact iteT (iteT (k H (Same.refl H)))
end
end My
end
section
set_option Elab.async false
set_option linter.all false
set_option maxRecDepth 100000
set_option maxHeartbeats 4000000
namespace My
open PySem PySem.Spec PyProof.Rows L2
/-! ### x[::-1], x a text of two signs; x * 3, x of one sign -/
def tRevS (te : TE) : TE := fun σ H Q => te σ H fun v H1 => ∃ x y, v = .str (mkS [x, y]) ∧ Q (.str (mkS [y, x])) H1
theorem pe_revS {X : Cx} {e : Expr} {te : TE} {k : Nat} {p1 p2 p3 pos : Pos} (he : PE X e te) : PE X (.Subscript e (.Slice none none (some (.UnaryOp .USub (.Constant (.int 1) k p1) p2)) p3) pos) (tRevS te) := by
  constructor
  intro pins s σ H Q I want
  apply Subscript_
  apply thn (he.run pins s σ H _ I want)
  intro v s1 got
  obtain ⟨v', H1, I1, r1, x, y, rfl, q⟩ := got
  obtain ⟨t, rfl⟩ := r1
  have stepP : PO X (some (.UnaryOp .USub (.Constant (.int 1) k p1) p2)) (tPart (tUn (rU fun i => .int (-i)) (tC (.int 1)))) := po_some (pe_un un_neg pe_int)
  apply wpAny_Slice
  apply thn (po_none.run pins s1 σ H1 (fun o G => o = none ∧ G = H1) I1 ⟨rfl, rfl⟩)
  rintro vl s2 ⟨l, H2, I2, pl, rfl, rfl⟩
  apply thn (po_none.run pins s2 σ _ (fun o G => o = none ∧ G = H2) I2 ⟨rfl, rfl⟩)
  rintro vu s3 ⟨u, H3, I3, pu, rfl, rfl⟩
  apply thn (stepP.run pins s3 σ _ (fun o G => o = some (-1) ∧ G = H3) I3 ⟨1, rfl, -1, rfl, rfl, rfl⟩)
  rintro vs s4 ⟨o, H4, I4, ps, rfl, rfl⟩
  have I5 : Inv X pins σ H4 { s4 with heap := s4.heap.push { cls := .type "slice", data := .fields #[vl, vu, vs] } } := I4.kept (t' := s4.toks) fun b ob z => Heap.get?_push_of_some _ z
  obtain ⟨l', rfl, el⟩ := IsPart.raw pl
  obtain ⟨u', rfl, eu⟩ := IsPart.raw pu
  obtain ⟨st, rfl, es⟩ := IsPart.raw ps
  show wpAny (model X.prog X.w) X.A (subscriptTail e (.Slice none none (some (.UnaryOp .USub (.Constant (.int 1) k p1) p2)) p3) (.str (mkS [x, y]) t) (.ref s4.heap.objs.size)) (EP X pins σ Q) X.xe _
  refine tail_any (ops := [.str (mkS [x, y]) t, .ref s4.heap.objs.size]) (typeIs_str _ _ _) slot_str_getitem.lookup ?_ (by with_unfolding_all rfl)
  refine wpAny_getItem_str_slice (l := l') (u := u') (st := st) (Heap.IsSliceOf.new _ _ _ _) (by rw [es]; decide) ?_
  cases l' with
  | some q => cases el
  | none =>
  cases u' with
  | some q => cases eu
  | none =>
  cases st with
  | none => cases es
  | some q1 =>
  obtain ⟨i, tk⟩ := q1
  obtain rfl : i = -1 := Option.some.inj es
  have hp : slicePicked (mkS [x, y]) none none (some (-1, tk)) = [1, 0] := by
    show Builtin.Str.strSliceIndices none none (-1) 2 = [1, 0]
    decide +kernel
  unfold sliceMade
  rw [hp, if_neg (by simp)]
  exact ⟨by show 2 ≤ sizeLine; decide, .str (mkS [y, x]), _, I5.tok _, ⟨_, rfl⟩, q⟩
/-- x * n -/
def rTimes : R2 := fun x y H Q => ∃ c, x = .str (mkS [c]) ∧ y = .int 3 ∧ Q (.str (mkS [c, c, c])) H
theorem op_times {X : Cx} : OpR X (binaryOp .Mult) rTimes := by
  intro pins s σ H x y v u Q I rx ry want
  obtain ⟨c, rfl, rfl, q⟩ := want
  obtain ⟨t, rfl⟩ := rx
  obtain ⟨t2, rfl⟩ := ry
  refine P.mul_str (by decide) (fun _ _ => ?_) (fun _ _ => ?_) ?_
  · show ¬ ((1 : Nat) : Int) > _
    decide
  · first | rfl | decide
  · rw [if_neg (by decide)]
    exact ⟨by show 3 ≤ sizeLine; decide, .str (mkS [c, c, c]), H, I.tok _, ⟨_, rfl⟩, q⟩
end My
end
section
set_option Elab.async false
set_option linter.all false
set_option maxRecDepth 100000
set_option maxHeartbeats 4000000
namespace My
open PySem PySem.Spec PyProof.Rows L2
abbrev s_seen : Stmt := topS 31
/-- what a kind shows, by the law -/
def seenL (S : Str) (ps : List (Nat × Nat)) (x y : Nat) : List Nat := ([x, y].filter fun c => decide (c ∈ S.cps.toList)) ++ ([x, y].filter fun c => decide (c ∈ S.cps.toList)).filterMap (headOf (headsAll ps))
def seenK (S : Str) (ps : List (Nat × Nat)) (x y : Nat) : Str := mkS (S.cps.toList.filter fun c => decide (c ∈ seenL S ps x y))
def sp_seen (K : PySem.W.Frag) : Sp := fun vs H Q _ => ∃ (t b : Addr) (S : Str) (ys : List V) (ps : List (Nat × Nat)) (x y : Nat), vs = [.ref t, .str (mkS [x, y])] ∧ SqT K H t [.str S, .ref b] ∧ SqL K H b ys ∧ PairsAt H ps ys ∧ ps.length ≤ 4000 ∧ S.length ≤ 4000 ∧ ∀ H', Same H H' → Q (.str (seenK S ps x y)) H'
theorem heads_of (h : Nat → Option Nat) (l : List Nat) : ((l.map sg).filter fun x => (h (ofSg x)).isSome).map (fun x => sg ((h (ofSg x)).getD 0)) = (l.filterMap h).map sg := by
  induction l with
  | nil => rfl
  | cons a l ih =>
    rw [List.map_cons, List.filter_cons, List.filterMap_cons]
    show (if (h a).isSome = true then _ else _ : List V).map _ = _
    cases e : h a with
    | none => exact ih
    | some b =>
      show sg ((h a).getD 0) :: _ = sg b :: _
      rw [e]
      exact congrArg _ ih
section
variable {P : Program} {w : World} {K : PySem.W.Frag} {mg : Str → Option Value} {base : Heap}
abbrev NSe : List Str := ["_law_font_here", "_law_kind", "_law_signs", "_law_turns", "_law_heads_here", "_law_some", "_law_side", "_law_sign"]
theorem sc_seen : FnScope NSe ["_law_font_here", "_law_kind"] (defScope s_seen) := ⟨rfl, rfl, rfl, by decide +kernel, rfl, by decide +kernel, by decide +kernel⟩
theorem ok_seen {f fH : Addr} {fd fdH : FuncData} (F : Fun K "_law_seen" "_law_seen" s_seen f fd) (DH : Def K mg "_law_heads" fH fdH ["_law_turns"]) (GH : FnOk P w K mg base CX0 1 fH fdH ["_law_turns"] (sp_heads K)) :
    FnOk P w K mg base CX0 2 f fd ["_law_font_here", "_law_kind"] (sp_seen K) := by
  refine F.ok sc_seen (fun vs H Q E h => ?_) (fun cdv A outer s H vs Q E hr h => ?_)
  · obtain ⟨t, b, S, ys, ps, x, y, rfl, _⟩ := h
    rfl
  · obtain ⟨t, b, S, ys, ps, x, y, rfl, ht, hb, hps, hl, hS, k⟩ := h
    have hu := hu_of hr
    refine ⟨_, pss_cons (ps_asg (pv 0) (pg_tup rfl (pgs_cons (pg_name (i := 2) sc_seen.nd rfl (Or.inr rfl)) (pgs_cons (pg_name (i := 3) sc_seen.nd rfl (Or.inl rfl)) pgs_nil))))
      (pss_cons (ps_set (i := 4) sc_seen.nd rfl (Or.inr rfl) (pe_call GH hr rfl DH.mgf DH.kp DH.bd .nil pass0 (pa_cons (pv 3) pa_nil)))
      (pss_cons (ps_set (i := 5) sc_seen.nd rfl (Or.inr rfl) (pe_lc (own := [("_law_side", 6)]) (g := gName 6) rfl sc_seen.nd (pi_str (pv 1)) (blkOk_by (own := [("_law_side", 6)]) (N := NSe) (sc := defScope s_seen) (by decide +kernel))
        (fun _ _ _ _ _ => pg_name (i := 6) sc_seen.nd rfl (Or.inl rfl)) (fun _ _ _ _ _ => pts_one (pt_cmpR op_in_sign (pv 6) (pv 2) (by rfl))) (fun _ _ _ _ _ => pv 6)))
      (pss_cons (ps_set (i := 5) sc_seen.nd rfl (Or.inr rfl) (pe_op op_cat' (pv 5) (pe_lc (own := [("_law_side", 6)]) (g := gName 6) rfl sc_seen.nd (pi_list (pv 5)) (blkOk_by (own := [("_law_side", 6)]) (N := NSe) (sc := defScope s_seen) (by decide +kernel))
        (fun _ _ _ _ _ => pg_name (i := 6) sc_seen.nd rfl (Or.inl rfl)) (fun _ _ _ _ _ => pts_one (pt_cmp (pc_din hu (pv 6) (pv 4)))) (fun _ _ _ _ _ => pe_dget hu (pv 4) (pv 6) (fun _ _ => rfl)))))
      (pss_one (ps_ret (pe_join pe_str (pe_lc (own := [("_law_sign", 7)]) (g := gName 7) rfl sc_seen.nd (pi_str (pv 2)) (blkOk_by (own := [("_law_sign", 7)]) (N := NSe) (sc := defScope s_seen) (by decide +kernel))
        (fun _ _ _ _ _ => pg_name (i := 7) sc_seen.nd rfl (Or.inl rfl)) (fun _ _ _ _ _ => pts_one (pt_cmpR (op_in_seqK (K := K) (by rfl)) (pv 7) (pv 5) (by rfl))) (fun _ _ _ _ _ => pv 7)))))))), ?_⟩
    refine ⟨_, rfl, t, _, rfl, ht, rfl, _, _, rfl, _, _, rfl, rfl, _, rfl, b, ys, ps, rfl, hb, hps, hl, fun H1 hD s1 f1 h1 => ?_⟩
    refine ⟨_, rfl, mkS [x, y], rfl, fun D1 hD1 => lc_ff walk_signs (fun v => match v with | .str z => z.cps.toList.all fun c => decide (c ∈ S.cps.toList) | _ => false) (fun x => x) hD1 (fun _ _ => trivial) (by rw [signs_len, mkS_len]; show 2 < sizeLine; decide) (fun x => rfl) ?_ ?_ ?_⟩
    · intro v H' C' hx _ hC
      obtain ⟨ch, _, rfl⟩ := mem_signs hx
      have hC := hC H' (Same.refl _)
      refine ⟨_, rfl, _, rfl, ch, S, rfl, rfl, _, rfl, ?_⟩
      have e : (match V.str ⟨#[ch]⟩ with | .str z => z.cps.toList.all fun c => decide (c ∈ S.cps.toList) | _ => false) = decide (ch ∈ S.cps.toList) := by
        show ([ch].all fun c => decide (c ∈ S.cps.toList)) = _
        simp
      rw [e] at hC
      exact hC
    · intro v H' C' hx _ _ hC
      exact ⟨_, rfl, hC H' (Same.refl _)⟩
    intro H2 s2 hl2
    have e2 : ((signs (mkS [x, y])).filter fun v => match v with | .str z => z.cps.toList.all fun c => decide (c ∈ S.cps.toList) | _ => false).map (fun x => x) = ([x, y].filter fun c => decide (c ∈ S.cps.toList)).map sg := by
      rw [List.map_id']
      show ([x, y].map sg).filter _ = _
      rw [filter_sg]
      congr 1
      apply List.filter_congr
      intro ch _
      show ([ch].all fun c => decide (c ∈ S.cps.toList)) = _
      simp
    rw [e2] at hl2
    have fin := k
    unfold seenK seenL at fin
    have lenL : ([x, y].filter fun c => decide (c ∈ S.cps.toList)).length ≤ 2 := List.length_filter_le _ _
    generalize ([x, y].filter fun c => decide (c ∈ S.cps.toList)) = L at hl2 fin lenL
    have s02 : Same H H2 := s1.trans s2
    have h2 := s2 _ _ h1
    refine ⟨_, rfl, _, rfl, D1, rfl, ⟨_, SqL.of hl2⟩, fun D2 hD2 => lc_ff walk_list (fun x => (headOf (headsAll ps) (ofSg x)).isSome) (fun x => sg ((headOf (headsAll ps) (ofSg x)).getD 0)) hD2 (fun H' sm => sm.seq (SqL.of hl2)) (by rw [List.length_map]; exact Nat.lt_of_le_of_lt lenL (by decide)) (fun x => rfl) ?_ ?_ ?_⟩
    · intro v H' C' hx s5 hC
      obtain ⟨ch, _, rfl⟩ := List.mem_map.mp hx
      have hC := hC H' (Same.refl _)
      refine ⟨_, rfl, _, rfl, hD, _, rfl, dget_toK ch (s5 _ _ h2), _, rfl, ?_⟩
      have e : ((headOf (headsAll ps) ch).map sg).isSome = (headOf (headsAll ps) (ofSg (sg ch))).isSome := by
        show _ = (headOf (headsAll ps) ch).isSome
        cases headOf (headsAll ps) ch <;> rfl
      rw [e]
      exact hC
    · intro v H' C' hx hp s5 hC
      obtain ⟨ch, _, rfl⟩ := List.mem_map.mp hx
      have hp : (headOf (headsAll ps) ch).isSome = true := hp
      obtain ⟨b', hb'⟩ := Option.isSome_iff_exists.mp hp
      have dg := dget_toK ch (s5 _ _ h2)
      rw [hb'] at dg
      refine ⟨_, rfl, _, rfl, hD, sg b', rfl, dg, ?_⟩
      have hC := hC H' (Same.refl _)
      have e : (headOf (headsAll ps) (ofSg (sg ch))).getD 0 = b' := by
        show (headOf (headsAll ps) ch).getD 0 = b'
        rw [hb']
        rfl
      rw [e] at hC
      exact hC
    intro H3 s3 hl3
    rw [heads_of (headOf (headsAll ps)) L] at hl3
    have fm : (L.filterMap (headOf (headsAll ps))).length ≤ 2 := Nat.le_trans (List.length_filterMap_le _ _) lenL
    refine ⟨D1, D2, _, _, rfl, rfl, s3 _ _ hl2, hl3, ?_, fun q4 H4 n4 => ?_⟩
    · rw [List.length_map, List.length_map]
      exact Nat.le_trans (show _ ≤ 4 by omega) (by decide)
    have h4 := n4.here
    rw [← List.map_append] at h4
    have s04 := (s02.trans s3).trans n4.same
    generalize L ++ L.filterMap (headOf (headsAll ps)) = L2 at h4 fin
    refine ⟨⟨_, rfl⟩, _, rfl, S, rfl, fun D3 hD3 => lc_ff walk_signs (fun x => inV x (L2.map sg)) (fun x => x) hD3 (fun _ _ => trivial) (by rw [signs_len]; exact Nat.lt_of_le_of_lt hS (by decide)) (fun x => rfl) ?_ ?_ ?_⟩
    · intro v H' C' hx s5 hC
      obtain ⟨ch, _, rfl⟩ := mem_signs hx
      refine ⟨_, rfl, _, rfl, q4, _, rfl, .inl (SqL.of (s5 _ _ h4)), rfl, flat_sg L2, _, rfl, ?_⟩
      rw [if_neg Bool.false_ne_true]
      exact hC H' (Same.refl _)
    · intro v H' C' hx _ _ hC
      exact ⟨_, rfl, hC H' (Same.refl _)⟩
    intro H5 s5 hl5
    have e5 : ((signs S).filter fun x => inV x (L2.map sg)).map (fun x => x) = ((S.cps.toList.filter fun c => decide (c ∈ L2)).map fun c => (⟨#[c]⟩ : Str)).map V.str := by
      rw [List.map_id', List.map_map]
      show (S.cps.toList.map sg).filter _ = _
      rw [filter_sg]
      show List.map sg _ = List.map sg _
      congr 1
      apply List.filter_congr
      intro ch _
      show inV (sg ch) _ = _
      rw [inV_sg]
    rw [e5] at hl5
    refine ⟨_, D3, _, rfl, rfl, .inl (SqL.of hl5), ?_, ?_⟩
    · rw [sum_ones]
      have : (PySem.Str.ofString "").length = 0 := by decide
      rw [this, Nat.mul_zero, Nat.add_zero]
      refine Nat.le_trans (List.length_filter_le _ _) ?_
      have : S.cps.toList.length = S.length := Array.length_toList
      rw [this]
      exact Nat.le_trans hS (by decide)
    · rw [join_sg]
      exact fin H5 (s04.trans s5)
end
end My
end
section
set_option Elab.async false
set_option linter.all false
set_option maxRecDepth 100000
set_option maxHeartbeats 4000000
namespace My
open PySem PySem.Spec PyProof.Rows L2
abbrev s_kinds : Stmt := topS 32
/-- all kinds with this first side -/
def kindsAt (S : Str) (k : Nat) : List (Nat × Nat) := (S.cps.toList.drop k ++ [45]).map fun c => ((S.cps.toList[k]?).getD 0, c)
def kindV (e : Nat × Nat) : V := .str (mkS [e.1, e.2])
/-- all kinds of the first n first sides -/
def kindsTo (S : Str) : Nat → List (Nat × Nat)
  | 0 => []
  | n + 1 => kindsTo S n ++ kindsAt S n
def sp_kinds : Sp := fun vs H Q _ => ∃ S : Str, vs = [.str S] ∧ S.length ≤ 10 ∧ ∀ H' r, Same H H' → H r = none → H' r = some (.lst ((kindsTo S S.length).map kindV)) → Q (.ref r) H'
theorem kindsAt_len (S : Str) (h : S.length ≤ 10) (k : Nat) : (kindsAt S k).length ≤ 11 := by
  unfold kindsAt
  have : S.cps.toList.length = S.length := Array.length_toList
  rw [List.length_map, List.length_append, List.length_drop]
  simp only [List.length_cons, List.length_nil]
  omega
theorem kindsTo_len (S : Str) (h : S.length ≤ 10) : ∀ k, (kindsTo S k).length ≤ 11 * k
  | 0 => Nat.le_refl _
  | k + 1 => by
    have := kindsTo_len S h k
    have := kindsAt_len S h k
    show (kindsTo S k ++ kindsAt S k).length ≤ _
    rw [List.length_append]
    omega
/-- xs.extend(ys) -/
def qExt : V → List V → Hp → VK → Prop := fun x vs H Q => ∃ l b xs zs, x = .ref l ∧ vs = [.ref b] ∧ H l = some (.lst xs) ∧ H b = some (.lst zs) ∧ xs.length + zs.length ≤ sizeLine ∧ ∀ H', Wr H l (.lst (xs ++ zs)) H' → Q .non H'
theorem mt_extend' {X : Cx} : MtM X "list.extend" qExt := MtM.weak mt_extend fun x vs H Q q => by
  obtain ⟨l, b, xs, zs, e1, e2, h1, h2, hl, k⟩ := q
  exact ⟨l, b, xs, zs, e1, e2, h1, h2, hl, k _ .mk'⟩
theorem cut_from (S : Str) (k : Nat) : (cutS S (some ((k : Nat) : Int)) none).cps.toList = S.cps.toList.drop k := by
  have zl : S.cps.toList.length = S.length := Array.length_toList
  show (((S.cps.toList.drop (HT.sIx S.length 0 (some ((k : Nat) : Int)))).take (HT.sIx S.length S.length none - HT.sIx S.length 0 (some ((k : Nat) : Int)))).toArray).toList = _
  rw [HT.sIx_none, HT.sIx_nat]
  show (S.cps.toList.drop (min k S.length)).take (S.length - min k S.length) = _
  rw [← zl, List.take_of_length_le (by rw [List.length_drop]; exact Nat.le_refl _)]
  by_cases h : k ≤ S.cps.toList.length
  · rw [Nat.min_eq_left h]
  · rw [Nat.min_eq_right (by omega), List.drop_length, List.drop_of_length_le (by omega)]
section
variable {P : Program} {w : World} {K : PySem.W.Frag} {mg : Str → Option Value} {base : Heap}
abbrev NKi : List Str := ["_law_signs", "_law_found", "_law_k", "_law_side"]
theorem sc_kinds : FnScope NKi ["_law_signs"] (defScope s_kinds) := ⟨rfl, rfl, rfl, by decide +kernel, rfl, by decide +kernel, by decide +kernel⟩
theorem ok_kinds {f : Addr} {fd : FuncData} (F : Fun K "_law_kinds" "_law_kinds" s_kinds f fd) (T : TB mg) : FnOk P w K mg base CX0 1 f fd ["_law_signs"] sp_kinds := by
  refine F.ok sc_kinds (fun vs H Q E h => ?_) (fun cdv A outer s H vs Q E hr h => ?_)
  · obtain ⟨S, rfl, _⟩ := h
    rfl
  · obtain ⟨S, rfl, hS, k⟩ := h
    refine ⟨_, pss_cons (ps_set (i := 1) sc_kinds.nd rfl (Or.inl rfl) (pe_lst' pa_nil))
      (pss_cons (ps_for PassesOwn.never rfl (pi_range1 rfl T.range (pa_cons (pe_callB (id := "len") call_len_str (by rfl) T.len PySem.boot_len (pa_cons (pv 0) pa_nil)) pa_nil)) (pg_name (i := 2) sc_kinds.nd rfl (Or.inr rfl))
        (pss_one (ps_expr (pe_bm PySem.F.plainAttrs_list PySem.F.slot_list_extend PySem.F.type_list_extend mt_extend' (pv 1) (pa_cons (by exact (pe_lc (own := [("_law_side", 3)]) (g := gName 3) (tt := tYes) rfl sc_kinds.nd (pi_str (pe_op op_add_str (pe_slice sl_str (pv 0) (po_some (pv 2)) po_none) pe_str)) (blkOk_by (own := [("_law_side", 3)]) (N := NKi) (sc := defScope s_kinds) (by decide +kernel))
          (fun _ _ _ _ _ => pg_name (i := 3) sc_kinds.nd rfl (Or.inl rfl)) (fun _ _ _ _ _ => pts_nil) (fun _ _ _ _ _ => pe_op op_add_str (pe_ix ix_str (pv 0) (pv 2) (fun _ _ => rfl)) (pv 3)))) pa_nil)))))
      (pss_one (ps_ret (pv 1)))), ?_⟩
    have zl : S.cps.toList.length = S.length := Array.length_toList
    have hz : S.length ≤ sizeLine := Nat.le_trans hS (by decide)
    refine ⟨by show 0 ≤ sizeLine; decide, fun r H1 n1 => ?_⟩
    refine ⟨_, rfl, S, rfl, hz, (S.length : Int), rfl, by omega, by omega, for_it (walk_range (lo := 0) (n := S.length)) (fun i σ' H' => ∃ o2 o3 : Option V, σ' = [some (.str S), some (.ref r), o2, o3] ∧ Same H H' ∧ H' r = some (.lst ((kindsTo S i).map kindV)))
      ⟨none, none, rfl, n1.same, n1.here⟩ (fun _ _ _ _ _ => trivial) ?_ ?_⟩
    · rintro i x σ' Ha Hb hi ⟨o2, o3, rfl, sH, hr⟩ ⟨rfl, rfl⟩
      have hi : i < S.length := hi
      have e0 : ((0 : Int) + (i : Int)) = ((i : Nat) : Int) := by omega
      show gName 2 (V.int ((0 : Int) + (i : Int))) _ _ _
      rw [e0]
      obtain ⟨a, ha⟩ : ∃ a, S.cps.toList[i]? = some a := ⟨S.cps.toList[i]'(by omega), by simp [show i < S.cps.toList.length by omega]⟩
      have oz : (cutS S (some ((i : Nat) : Int)) none ++ PySem.Str.ofString "-").cps.toList = S.cps.toList.drop i ++ [45] := by rw [order_cps, cut_from]
      have cl : (cutS S (some ((i : Nat) : Int)) none).length ≤ 10 := by
        have : (cutS S (some ((i : Nat) : Int)) none).length = (cutS S (some ((i : Nat) : Int)) none).cps.toList.length := Array.length_toList.symm
        rw [this, cut_from, List.length_drop]
        omega
      have dl : (PySem.Str.ofString "-").length = 1 := by decide
      have kl := kindsAt_len S hS i
      have kt := kindsTo_len S hS i
      have ol : (signs (cutS S (some ((i : Nat) : Int)) none ++ PySem.Str.ofString "-")).length ≤ 11 := by
        unfold signs
        rw [List.length_map, oz, List.length_append, List.length_drop]
        simp only [List.length_cons, List.length_nil]
        omega
      have lsmall : (signs (cutS S (some ((i : Nat) : Int)) none ++ PySem.Str.ofString "-")).length < sizeLine := Nat.lt_of_le_of_lt ol (by decide)
      refine ⟨_, rfl, .inl ⟨rfl, _, SqL.of hr⟩, _, rfl, _, rfl, _, rfl, S, rfl, hz, _, _, rfl, rfl, ?_, _, rfl, fun D1 hD1 => lc_ff walk_signs (fun _ => true) (fun x => kindV (a, ofSg x)) hD1 (fun _ _ => trivial) lsmall (fun x => rfl) (fun x H' C _ _ h => h _ (Same.refl _)) ?_ ?_⟩
      · rw [dl]
        exact Nat.le_trans (show _ ≤ 11 by omega) (by decide)
      · intro v H' C' hx _ _ hC
        obtain ⟨ch, _, rfl⟩ := mem_signs hx
        have hC := hC H' (Same.refl _)
        refine ⟨_, rfl, _, rfl, S, _, a, rfl, rfl, hz, atI_nat ha, _, rfl, _, _, rfl, rfl, by show 1 + 1 ≤ sizeLine; decide, ?_⟩
        exact hC
      intro H2 s2 hl2
      have e2 : ((signs (cutS S (some ((i : Nat) : Int)) none ++ PySem.Str.ofString "-")).filter fun _ => true).map (fun x => kindV (a, ofSg x)) = (kindsAt S i).map kindV := by
        rw [pv_filter_true]
        unfold signs kindsAt
        rw [oz, ha, List.map_map, List.map_map]
        rfl
      rw [e2] at hl2
      have hr2 := s2 _ _ hr
      refine ⟨r, D1, _, _, rfl, rfl, hr2, hl2, ?_, fun H3 w3 => ?_⟩
      · rw [List.length_map, List.length_map]
        exact Nat.le_trans (show _ ≤ 200 by omega) (by decide)
      refine ⟨_, _, rfl, Same.wr (sH.trans s2) n1.free w3, ?_⟩
      rw [w3.here, ← List.map_append]
      rfl
    · rintro σ' H2 ⟨o2, o3, rfl, sH, hr⟩
      exact ⟨_, rfl, k H2 r sH n1.free hr⟩
end
end My
end
section
set_option Elab.async false
set_option linter.all false
set_option maxRecDepth 100000
set_option maxHeartbeats 4000000
namespace My
open PySem PySem.Spec PyProof.Rows L2
theorem idx_nodup {l : List Nat} (nd : l.Nodup) {c k : Nat} (h : l[k]? = some c) : l.idxOf c = k := by
  refine idx_first h fun j hj hjc => ?_
  obtain ⟨hk, ek⟩ := List.getElem?_eq_some_iff.mp h
  obtain ⟨hj2, ej⟩ := List.getElem?_eq_some_iff.mp hjc
  exact List.pairwise_iff_getElem.mp nd j k hj2 hk hj (ej.trans ek.symm)
theorem at_idx {l : List Nat} {c : Nat} (h : c ∈ l) : l[l.idxOf c]? = some c := by
  rw [List.getElem?_eq_getElem (List.idxOf_lt_length_of_mem h)]
  exact congrArg some (List.getElem_idxOf _)
section
variable {S : Str}
theorem order_nodup (nd : S.cps.toList.Nodup) (no : 45 ∉ S.cps.toList) : (S.cps.toList ++ [45]).Nodup := by
  rw [List.nodup_append]
  refine ⟨nd, by simp, fun a ha b hb e => ?_⟩
  have : b = 45 := by simpa using hb
  rw [← e] at this
  exact no (this ▸ ha)
theorem kinds_mem {e : Nat × Nat} : ∀ {n : Nat}, e ∈ kindsTo S n → ∃ i, i < n ∧ e ∈ kindsAt S i
  | 0, h => by cases h
  | n + 1, h => by
    rcases List.mem_append.mp (show e ∈ kindsTo S n ++ kindsAt S n from h) with h | h
    · obtain ⟨i, hi, he⟩ := kinds_mem h
      exact ⟨i, by omega, he⟩
    · exact ⟨n, by omega, h⟩
/-- a kind as it is kept: what is known of its sides -/
structure KindOk (S : Str) (a c : Nat) : Prop where
  am : a ∈ S.cps.toList
  cm : c = 45 ∨ c ∈ S.cps.toList
  le : sideAt S a ≤ sideAt S c
theorem kind_ok (nd : S.cps.toList.Nodup) (no : 45 ∉ S.cps.toList) {e : Nat × Nat} (h : e ∈ kindsTo S S.length) : KindOk S e.1 e.2 := by
  have zl : S.cps.toList.length = S.length := Array.length_toList
  obtain ⟨i, hi, he⟩ := kinds_mem h
  unfold kindsAt at he
  obtain ⟨c, hc, rfl⟩ := List.mem_map.mp he
  obtain ⟨a, ha⟩ : ∃ a, S.cps.toList[i]? = some a := ⟨S.cps.toList[i]'(by omega), by simp [show i < S.cps.toList.length by omega]⟩
  have ea : (S.cps.toList[i]?).getD 0 = a := by rw [ha]; rfl
  have od := order_nodup nd no
  have sa : sideAt S a = i := idx_nodup od (by rw [List.getElem?_append_left (by omega)]; exact ha)
  show KindOk S ((S.cps.toList[i]?).getD 0) c
  rw [ea]
  rcases List.mem_append.mp hc with hc | hc
  · obtain ⟨j, hj⟩ := List.mem_iff_getElem?.mp hc
    rw [List.getElem?_drop] at hj
    have hlt : i + j < S.cps.toList.length := (List.getElem?_eq_some_iff.mp hj).1
    have sc : sideAt S c = i + j := idx_nodup od (by rw [List.getElem?_append_left hlt]; exact hj)
    exact ⟨List.mem_of_getElem? ha, .inr (List.mem_of_mem_drop hc), by rw [sa, sc]; omega⟩
  · have e45 : c = 45 := by simpa using hc
    have sc : sideAt S c = S.cps.toList.length := idx_nodup od (by rw [e45, List.getElem?_append_right (Nat.le_refl _), Nat.sub_self]; rfl)
    exact ⟨List.mem_of_getElem? ha, .inl e45, by rw [sa, sc]; omega⟩
theorem side_of {c : Nat} (h : c = 45 ∨ c ∈ S.cps.toList) : sideB S c = true := by
  unfold sideB
  rcases h with h | h
  · rw [decide_eq_true h]; rfl
  · rw [decide_eq_true h, Bool.or_true]
theorem kind_yes (no : 45 ∉ S.cps.toList) {x y a : Nat} (hx : sideB S x = true) (hy : sideB S y = true) (ha : a ∈ S.cps.toList) (h : x = a ∨ y = a) : kindD S (.str (mkS [x, y])) = true := by
  show (decide ((mkS [x, y]).length = 2) && !decide (mkS [x, y] = (⟨#[45, 45]⟩ : Str)) && [x, y].all (sideB S)) = true
  have ne : mkS [x, y] ≠ (⟨#[45, 45]⟩ : Str) := fun z => by
    have e := congrArg (fun q : Str => q.cps.toList) z
    have e : [x, y] = [45, 45] := by simpa using e
    simp at e
    rcases h with h | h
    · exact no (by rw [← e.1, h]; exact ha)
    · exact no (by rw [← e.2, h]; exact ha)
  rw [show (mkS [x, y]).length = 2 from mkS_len [x, y], decide_eq_false ne]
  simp [hx, hy]
theorem kept_first {a c : Nat} (k : KindOk S a c) : keptK S a c = mkS [a, c] := by
  unfold keptK
  rw [if_neg (Nat.not_lt.mpr k.le)]
theorem kept_turned {a c : Nat} (k : KindOk S a c) : keptK S c a = mkS [a, c] := by
  unfold keptK
  by_cases h : sideAt S a < sideAt S c
  · rw [if_pos h]
  · rw [if_neg h]
    have e : sideAt S a = sideAt S c := by have := k.le; omega
    have m1 : a ∈ S.cps.toList ++ [45] := List.mem_append_left _ k.am
    have m2 : c ∈ S.cps.toList ++ [45] := side_mem (side_of k.cm)
    have g1 : (S.cps.toList ++ [45])[sideAt S a]? = some a := at_idx m1
    have g2 : (S.cps.toList ++ [45])[sideAt S c]? = some c := at_idx m2
    rw [e, g2] at g1
    rw [Option.some.inj g1]
theorem shown_seen {ps : List (Nat × Nat)} {x y a c : Nat} (hG : Good 10 S ps) (no : 45 ∉ S.cps.toList) (k : KindOk S a c) (hk : keptK S x y = mkS [a, c]) : shownK S (dueOf S (headsAll ps)) x y = seenK S ps a c := by
  unfold shownK seenK seenL
  rw [hk]
  have inS : ∀ e ∈ ps, e.1 ∈ S.cps.toList ∧ e.2 ∈ S.cps.toList := fun e he => ⟨hG.tin _ (List.mem_flatMap.mpr ⟨e, he, mem_spread.mpr (.inl rfl)⟩), hG.tin _ (List.mem_flatMap.mpr ⟨e, he, mem_spread.mpr (.inr rfl)⟩)⟩
  have td : ∀ q ∈ S.cps.toList, turnOf (dueOf S (headsAll ps)) q = headOf (headsAll ps) q := fun q hq => turn_due (heads_sym ps hG.tnd) (headsAll_in ps inS) hq
  have e1 : sidesK (mkS [a, c]).cps.toList = [a, c].filter fun q => decide (q ∈ S.cps.toList) := by
    show [a, c].filter _ = _
    apply List.filter_congr
    intro q hq
    have hq : q = 45 ∨ q ∈ S.cps.toList := by
      simp at hq
      rcases hq with rfl | rfl
      · exact .inr k.am
      · exact k.cm
    rcases hq with rfl | hq
    · rw [decide_eq_false no]; rfl
    · rw [decide_eq_true hq, decide_eq_false (fun z : q = 45 => no (by rw [← z]; exact hq))]; rfl
  rw [e1]
  have inL : ∀ q ∈ [a, c].filter (fun q => decide (q ∈ S.cps.toList)), q ∈ S.cps.toList := fun q hq => of_decide_eq_true (List.mem_filter.mp hq).2
  generalize ([a, c].filter fun q => decide (q ∈ S.cps.toList)) = L at inL
  apply congrArg mkS
  apply List.filter_congr
  intro q _
  have iff : (some q ∈ L.map (turnOf (dueOf S (headsAll ps)))) ↔ q ∈ L.filterMap (headOf (headsAll ps)) := by
    rw [List.mem_map, List.mem_filterMap]
    constructor
    · rintro ⟨z, hz, e⟩
      exact ⟨z, hz, (td z (inL z hz)).symm.trans e⟩
    · rintro ⟨z, hz, e⟩
      exact ⟨z, hz, (td z (inL z hz)).trans e⟩
  rw [Bool.eq_iff_iff, Bool.or_eq_true, decide_eq_true_eq, decide_eq_true_eq, decide_eq_true_eq, iff, List.mem_append]
end
theorem no_dash {m : Nat} {S : Str} {ps : List (Nat × Nat)} (g : Good m S ps) : 45 ∉ S.cps.toList := fun h => by
  have := g.ab 45 h
  revert this
  decide +kernel
end My
end
section
set_option Elab.async false
set_option linter.all false
set_option maxRecDepth 100000
set_option maxHeartbeats 4000000
namespace My
open PySem PySem.Spec PyProof.Rows L2 LamX
abbrev s_law : Stmt := topS 37
abbrev LN : List Str := ["_law_script", "_law_pen_here", "_law_turn", "_law_font_here", "_law_made", "_law_signs", "_law_kind", "_law_one", "_law_some", "_law_value"]
def forBody : Stmt → List Stmt
  | .For _ _ b _ _ => b
  | _ => []
def nth (l : List Stmt) (i : Nat) : Stmt := l.getD i (.Pass ⟨0, 0, 0, 0⟩)
abbrev outLoop : Stmt := nth (defBody s_law) 1
abbrev lawSt (i : Nat) : Stmt := nth (forBody outLoop) i
theorem sc_law : FnScope LN ["_law_script"] (defScope s_law) := ⟨rfl, rfl, rfl, by decide +kernel, rfl, by decide +kernel, by decide +kernel⟩
abbrev lamQ : Str := (envOfC "law" (defScope s_law) 0 0 .none).qual ++ "<lambda>"
abbrev LX (P : Program) (w : World) (K : PySem.W.Frag) (mg : Str → Option Value) (base : Heap) (f : Addr) (cdv : Value) (A : Around) (outer : List Env) (s : Shared) (H : Hp) (E : XK) : Cx :=
  (cxOf CX0 P w K mg base LN "law" (defScope s_law) f cdv A outer s H E).nox
abbrev slot0 (o0 : Option V) (p : Addr) (o2 o3 o4 o5 o6 o7 o8 o9 : Option V) : L2.St := [o0, some (.ref p), o2, o3, o4, o5, o6, o7, o8, o9]
theorem upper_ok : ∀ c ∈ alphabet.cps.toList, (Txt.upper (⟨#[c]⟩ : Str)).length ≤ 3 ∧ ∀ ch ∈ (Txt.upper (⟨#[c]⟩ : Str)).cps.toList, ch < 16 ^ 8 := by decide +kernel
section
variable {P : Program} {w : World} {K : PySem.W.Frag} {mg : Str → Option Value} {base : Heap} {f : Addr} {cdv : Value} {A : Around} {outer : List Env} {s : Shared} {H0 : Hp} {E : XK}
/-- _law_font_here = .. -/
def qFont : TS := fun D σ H => ∃ (o0 o2 o3 o4 o5 o6 o7 o8 o9 : Option V) (p c : Addr) (n : Nat), σ = slot0 o0 p o2 o3 o4 o5 o6 o7 o8 o9 ∧ PenAt H p c n ∧ n < 2 ^ 49 ∧
  ∀ H' t b S ys ps, DrewP H p c (n + 41) H' → H' t = some (.tup [.str S, .ref b]) → H' b = some (.lst ys) → PairsAt H' ps ys → Good 10 S ps → D.nx (slot0 o0 p o2 (some (.ref t)) o4 o5 o6 o7 o8 o9) H'
theorem st_font {fB fP : Addr} {fdB fdP : FuncData} (DB : Def K mg "_law_font" fB fdB ["_law_pen_here", "_law_most"]) (GB : FnOk P w K mg base CX0 3 fB fdB ["_law_pen_here", "_law_most"] (sp_font K))
    (DP : Def K mg "_law_pick" fP fdP ["_law_pen_here", "_law_options"]) (GP : FnOk P w K mg base CX0 2 fP fdP ["_law_pen_here", "_law_options"] (sp_pick K))
    (hr : Room 7 (A.deeper (envOfC "law" (defScope s_law) s.heap.objs.size f cdv))) : PS (LX P w K mg base f cdv A outer s H0 E) (lawSt 0) qFont := by
  have r2 : Room 2 _ := hr.mono (by decide)
  have r3 : Room 3 _ := hr.mono (by decide)
  refine PS.weak (ps_set (i := 3) sc_law.nd rfl (Or.inl rfl) (pe_call GB r3 rfl DB.mgf DB.kp DB.bd .nil pass0 (pa_cons (pv 1) (pa_cons (pe_call GP r2 rfl DP.mgf DP.kp DP.bd .nil pass0 (pa_cons (pv 1) (pa_cons (pe_lst' (pa_cons pe_int (pa_cons pe_int (pa_cons pe_int pa_nil)))) pa_nil))) pa_nil)))) ?_
  rintro D σ H ⟨o0, o2, o3, o4, o5, o6, o7, o8, o9, p, c, n, rfl, hP, hn, k⟩
  refine ⟨_, rfl, _, rfl, by show 3 ≤ sizeLine; decide, fun q H1 n1 => ⟨p, c, q, _, n, rfl, hP.same n1.same, by omega, SqL.of n1.here, fun z => hP.ne n1.free z.symm, by show 0 < 3; decide, by show 3 ≤ 1000000; decide, fun H2 v d2 hv => ?_⟩⟩
  have d02 : DrewP H p c (n + 1) H2 := ⟨(But.of n1.same).trans d2.but, d2.pen⟩
  obtain ⟨m, rfl, m2, m10⟩ : ∃ m : Nat, v = .int (m : Int) ∧ 2 ≤ m ∧ m ≤ 10 := by
    rcases List.mem_cons.mp hv with rfl | hv
    · exact ⟨3, rfl, by decide, by decide⟩
    rcases List.mem_cons.mp hv with rfl | hv
    · exact ⟨5, rfl, by decide, by decide⟩
    rcases List.mem_cons.mp hv with rfl | hv
    · exact ⟨10, rfl, by decide, by decide⟩
    cases hv
  exact ⟨p, c, m, n + 1, rfl, d2.pen, by omega, m2, m10, fun H3 t b S ys ps d3 _ _ ht hb hps hG => k H3 t b S ys ps ((d02.trans d3).mono (by omega)) ht hb hps (good_mono m10 hG)⟩
/-- _law_made, _law_signs = .. -/
def qMade (K : PySem.W.Frag) (C : Addr) : TS := fun D σ H => ∃ (o0 o2 o4 o5 o6 o7 o8 o9 : Option V) (p c t b : Addr) (n : Nat) (S : Str) (ys : List V) (ps : List (Nat × Nat)), σ = slot0 o0 p o2 (some (.ref t)) o4 o5 o6 o7 o8 o9 ∧ PenAt H p c n ∧ n < 2 ^ 50 ∧
  H t = some (.tup [.str S, .ref b]) ∧ SqL K H b ys ∧ PairsAt H ps ys ∧ Good 10 S ps ∧ ∀ H' a, DrewP H p c (n + 20) H' → FontAt H' C a S (dueOf S (headsAll ps)) → D.nx (slot0 o0 p o2 (some (.ref t)) (some (.ref a)) (some (.str S)) o6 o7 o8 o9) H'
theorem st_made {C fM : Addr} {fdM : FuncData} (DM : Def K mg "_law_font_made" fM fdM ["_law_pen_here", "_law_font_here"]) (GM : FnOk P w K mg base CX0 6 fM fdM ["_law_pen_here", "_law_font_here"] (sp_fmade K C))
    (hr : Room 7 (A.deeper (envOfC "law" (defScope s_law) s.heap.objs.size f cdv))) : PS (LX P w K mg base f cdv A outer s H0 E) (lawSt 1) (qMade K C) := by
  have r6 : Room 6 _ := hr.mono (by decide)
  refine PS.weak (ps_asg (pe_tup' (pa_cons (pe_call GM r6 rfl DM.mgf DM.kp DM.bd .nil pass0 (pa_cons (pv 1) (pa_cons (pv 3) pa_nil))) (pa_cons (pe_ix ix_tup (pv 3) pe_int (fun _ _ => rfl)) pa_nil)))
    (pg_tup rfl (pgs_cons (pg_name (i := 4) sc_law.nd rfl (Or.inr rfl)) (pgs_cons (pg_name (i := 5) sc_law.nd rfl (Or.inl rfl)) pgs_nil)))) ?_
  rintro D σ H ⟨o0, o2, o4, o5, o6, o7, o8, o9, p, c, t, b, n, S, ys, ps, rfl, hP, hn, ht, hb, hps, hG, k⟩
  refine ⟨_, rfl, _, rfl, p, c, t, b, n, S, ys, ps, rfl, hP, hn, ht, hb, hps, hG, fun H1 a b1 P1 ft => ?_⟩
  have t1 := b1 _ _ (hP.neT ht) ht
  refine ⟨_, rfl, t, _, _, _, rfl, rfl, SqT.of t1, at0 _ _, by show 2 ≤ sizeLine; decide, fun q H2 n2 => ?_⟩
  exact ⟨q, _, rfl, SqT.of n2.here, rfl, _, _, rfl, _, _, rfl, rfl, k H2 a ⟨b1.trans (.of n2.same), P1.same n2.same⟩ (ft.same n2.same)⟩
/-- _law_some = .. -/
def qSome : TS := fun D σ H => ∃ (o0 o2 o3 o4 o6 o7 o8 o9 : Option V) (p : Addr) (S : Str) (ps : List (Nat × Nat)), σ = slot0 o0 p o2 o3 o4 (some (.str S)) o6 o7 o8 o9 ∧ Good 10 S ps ∧
  ∀ H' q xs, Same H H' → H' q = some (.lst xs) → xs.length = 10 → (∀ x ∈ xs, ∃ z : Str, x = .str z ∧ z.length ≤ 10 ∧ ∀ ch ∈ z.cps.toList, ch < 16 ^ 8) → D.nx (slot0 o0 p o2 o3 o4 (some (.str S)) o6 o7 (some (.ref q)) o9) H'
theorem st_some : PS (LX P w K mg base f cdv A outer s H0 E) (lawSt 3) qSome := by
  refine PS.weak (ps_set (i := 8) sc_law.nd rfl (Or.inl rfl) (pe_lst' (pa_cons pe_str (pa_cons pe_str (pa_cons pe_str (pa_cons (pe_ix ix_str (pv 5) pe_int (fun _ _ => rfl)) (pa_cons (pe_op op_times (pe_ix ix_str (pv 5) pe_int (fun _ _ => rfl)) pe_int)
    (pa_cons (pe_op op_add_str (pe_ix ix_str (pv 5) pe_int (fun _ _ => rfl)) pe_str) (pa_cons (pe_op op_add_str pe_str (pe_ix ix_str (pv 5) pe_int (fun _ _ => rfl))) (pa_cons (pe_op op_add_str (pe_ix ix_str (pv 5) pe_int (fun _ _ => rfl)) pe_str)
    (pa_cons pe_str (pa_cons (pe_op op_add_str (pe_upper (pe_ix ix_str (pv 5) pe_int (fun _ _ => rfl))) pe_str) pa_nil)))))))))))) ?_
  rintro D σ H ⟨o0, o2, o3, o4, o6, o7, o8, o9, p, S, ps, rfl, hG, k⟩
  have hz : S.length ≤ sizeLine := Nat.le_trans hG.hi (by decide)
  have zl : S.cps.toList.length = S.length := Array.length_toList
  have lo := hG.lo
  obtain ⟨a, ha⟩ : ∃ a, S.cps.toList[0]? = some a := ⟨S.cps.toList[0]'(by omega), by simp [show 0 < S.cps.toList.length by omega]⟩
  have a0 : atI S.cps.toList (0 : Int) = some a := atI_nat (j := 0) ha
  have am : a ∈ alphabet.cps.toList := hG.ab a (List.mem_of_getElem? ha)
  have sm := alpha_small a am
  obtain ⟨up1, up2⟩ := upper_ok a am
  have one : ∀ z : Str, z.length = 1 → 1 + z.length ≤ sizeLine := fun z h => by rw [h]; decide
  have q1 : (PySem.Str.ofString "?").length = 1 := by decide
  have q2 : (PySem.Str.ofString " ").length = 1 := by decide
  have q3 : (PySem.Str.ofString "A").length = 1 := by decide
  refine ⟨_, rfl, S, _, a, rfl, rfl, hz, a0, _, rfl, S, _, a, rfl, rfl, hz, a0, a, rfl, rfl, _, rfl, S, _, a, rfl, rfl, hz, a0, _, _, rfl, rfl, by rw [q1]; show 1 + 1 ≤ sizeLine; decide, _, rfl, S, _, a, rfl, rfl, hz, a0, _, _, rfl, rfl, by rw [q1]; show 1 + 1 ≤ sizeLine; decide,
    _, rfl, S, _, a, rfl, rfl, hz, a0, _, _, rfl, rfl, by rw [q2]; show 1 + 1 ≤ sizeLine; decide, _, rfl, S, _, a, rfl, rfl, hz, a0, ⟨_, rfl⟩, _, rfl, rfl, by show 1 ≤ 5592405; decide, _, _, rfl, rfl, ?_, by show 10 ≤ sizeLine; decide, fun q H1 n1 => ?_⟩
  · rw [q3]
    exact Nat.le_trans (show _ ≤ 4 by omega) (by decide)
  refine k H1 q _ n1.same n1.here rfl ?_
  have two : ∀ x y : Str, x.length + y.length ≤ 10 → (∀ ch ∈ x.cps.toList, ch < 16 ^ 8) → (∀ ch ∈ y.cps.toList, ch < 16 ^ 8) → ∃ z : Str, V.str (x ++ y) = .str z ∧ z.length ≤ 10 ∧ ∀ ch ∈ z.cps.toList, ch < 16 ^ 8 := by
    intro x y hl hx hy
    refine ⟨_, rfl, by rw [len_app]; exact hl, fun ch hch => ?_⟩
    have : ch ∈ (x.cps ++ y.cps).toList := hch
    rw [Array.toList_append] at this
    exact (List.mem_append.mp this).elim (hx ch) (hy ch)
  have sa : ∀ ch ∈ (⟨#[a]⟩ : Str).cps.toList, ch < 16 ^ 8 := fun ch h => by
    have : ch = a := by simpa using h
    rw [this]; exact sm
  have la : (⟨#[a]⟩ : Str).length = 1 := rfl
  intro x hx
  rcases List.mem_cons.mp hx with rfl | hx
  · exact ⟨_, rfl, by decide, by decide⟩
  rcases List.mem_cons.mp hx with rfl | hx
  · exact ⟨_, rfl, by decide, by decide⟩
  rcases List.mem_cons.mp hx with rfl | hx
  · exact ⟨_, rfl, by decide, by decide⟩
  rcases List.mem_cons.mp hx with rfl | hx
  · exact ⟨_, rfl, by rw [la]; decide, sa⟩
  rcases List.mem_cons.mp hx with rfl | hx
  · refine ⟨_, rfl, by rw [mkS_len]; show 3 ≤ 10; decide, fun ch h => ?_⟩
    have : ch = a := by simpa using h
    rw [this]; exact sm
  rcases List.mem_cons.mp hx with rfl | hx
  · exact two _ _ (by rw [la, q1]; decide) sa (by decide)
  rcases List.mem_cons.mp hx with rfl | hx
  · exact two _ _ (by rw [la, q1]; decide) (by decide) sa
  rcases List.mem_cons.mp hx with rfl | hx
  · exact two _ _ (by rw [la, q2]; decide) sa (by decide)
  rcases List.mem_cons.mp hx with rfl | hx
  · exact ⟨_, rfl, by decide, by decide⟩
  rcases List.mem_cons.mp hx with rfl | hx
  · exact two _ _ (by rw [q3]; omega) up2 (by decide)
  cases hx
end
end My
end
section
set_option Elab.async false
set_option linter.all false
set_option maxRecDepth 100000
set_option maxHeartbeats 4000000
namespace My
open PySem PySem.Spec PyProof.Rows L2 LamX
section
variable {P : Program} {w : World} {K : PySem.W.Frag} {mg : Str → Option Value} {base : Heap} {f : Addr} {cdv : Value} {A : Around} {outer : List Env} {s : Shared} {H0 : Hp} {E : XK}
/-- for _law_kind in _law_kinds(..): .. -/
def qKinds (K : PySem.W.Frag) (C : Addr) : TS := fun D σ H => ∃ (o0 o2 o6 o7 o8 o9 : Option V) (p t b a : Addr) (S : Str) (ys : List V) (ps : List (Nat × Nat)), σ = slot0 o0 p o2 (some (.ref t)) (some (.ref a)) (some (.str S)) o6 o7 o8 o9 ∧
  H t = some (.tup [.str S, .ref b]) ∧ SqL K H b ys ∧ PairsAt H ps ys ∧ Good 10 S ps ∧ FontAt H C a S (dueOf S (headsAll ps)) ∧ ∀ H' u6 u7, Same H H' → D.nx (slot0 o0 p o2 (some (.ref t)) (some (.ref a)) (some (.str S)) u6 u7 o8 o9) H'
theorem st_kinds {C fKi fSn gK gS IK : Addr} {fdKi fdSn fdK fdS : FuncData} (T : TB mg) (DK : Def K mg "_law_kinds" fKi fdKi ["_law_signs"]) (GKi : FnOk P w K mg base CX0 1 fKi fdKi ["_law_signs"] sp_kinds)
    (DN : Def K mg "_law_seen" fSn fdSn ["_law_font_here", "_law_kind"]) (GN : FnOk P w K mg base CX0 2 fSn fdSn ["_law_font_here", "_law_kind"] (sp_seen K))
    (cl : Cls K C) (MK : Meth K C "kept" gK) (GK : FnOk P w K mg base (L2.CX P w) 2 gK fdK ["self", "kind"] (sp_keptM K C IK)) (bK : Binds K fdK ["self", "kind"] [])
    (MS : Meth K C "shown" gS) (GS : FnOk P w K mg base (L2.CX P w) 4 gS fdS ["self", "kind"] (sp_shownM K C IK)) (bS : Binds K fdS ["self", "kind"] [])
    (hr : Room 7 (A.deeper (envOfC "law" (defScope s_law) s.heap.objs.size f cdv))) : PS (LX P w K mg base f cdv A outer s H0 E) (lawSt 2) (qKinds K C) := by
  have r1 : Room 1 _ := hr.mono (by decide)
  have r2 : Room 2 _ := hr.mono (by decide)
  have r4 : Room 4 _ := hr.mono (by decide)
  refine PS.weak (ps_for PassesOwn.never rfl (pi_list (pe_call GKi r1 rfl DK.mgf DK.kp DK.bd .nil pass0 (pa_cons (pv 5) pa_nil))) (pg_name (i := 6) sc_law.nd rfl (Or.inl rfl))
    (pss_one (ps_for PassesOwn.never rfl (pi_tup (pe_tup' (pa_cons (pv 6) (pa_cons (pe_revS (pv 6)) pa_nil)))) (pg_name (i := 7) sc_law.nd rfl (Or.inl rfl))
      (pss_one (ps_if (PW.pt (pw_or (pt_cmpR op_ne (pe_meth (C := C) (E := E0) (pv 4) cl MK GK r2 bK .nil passN (pa_cons (pv 7) pa_nil)) (pv 6) (nomark _))
        (pw_or1 (pt_cmpR op_ne (pe_meth (C := C) (E := E0) (pv 4) cl MS GS r4 bS .nil passN (pa_cons (pv 7) pa_nil)) (pe_call GN r2 rfl DN.mgf DN.kp DN.bd .nil pass0 (pa_cons (pv 3) (pa_cons (pv 6) pa_nil))) (nomark _))))) (pss_one (ps_ret pe_bl)) pss_nil))))) ?_
  rintro D σ H ⟨o0, o2, o6, o7, o8, o9, p, t, b, a, S, ys, ps, rfl, ht, hb, hps, hG, hF, k⟩
  have no := no_dash hG
  have hS4 : S.length ≤ 4000 := Nat.le_trans hG.hi (by decide)
  have pl := pairs_len hG
  refine ⟨_, rfl, S, rfl, hG.hi, fun H1 r s1 f1 hr1 => ⟨r, rfl, ⟨_, SqL.of hr1⟩, ?_⟩⟩
  refine for_it (walk_list (xs := (kindsTo S S.length).map kindV)) (fun i σ' H' => ∃ u6 u7 : Option V, σ' = slot0 o0 p o2 (some (.ref t)) (some (.ref a)) (some (.str S)) u6 u7 o8 o9 ∧ Same H1 H') ⟨o6, o7, rfl, Same.refl _⟩ (fun i σ' H' _ q => ?_) ?_ ?_
  · obtain ⟨_, _, _, sm⟩ := q
    exact SqL.of (sm _ _ hr1)
  · rintro i x σ' Ha Hb hi ⟨u6, u7, rfl, sA⟩ ⟨rfl, hx⟩
    obtain ⟨e, he, rfl⟩ := List.mem_map.mp (List.mem_of_getElem? hx)
    have kk := kind_ok hG.nd no he
    obtain ⟨ka, kc⟩ := e
    have kk : KindOk S ka kc := kk
    have sH := s1.trans sA
    have fine : ∀ (x y : Nat) (H' : Hp) (u7 : Option V), (x = ka ∧ y = kc ∨ x = kc ∧ y = ka) → Same H H' → keptK S x y = mkS [ka, kc] ∧ kindD S (.str (mkS [x, y])) = true := by
      intro x y H' u7 h _
      rcases h with ⟨rfl, rfl⟩ | ⟨rfl, rfl⟩
      · exact ⟨kept_first kk, kind_yes no (side_of (.inr kk.am)) (side_of kk.cm) kk.am (.inl rfl)⟩
      · exact ⟨kept_turned kk, kind_yes no (side_of kk.cm) (side_of (.inr kk.am)) kk.am (.inr rfl)⟩
    refine ⟨_, rfl, _, rfl, ka, kc, rfl, by show 2 ≤ sizeLine; decide, fun q H2 n2 => ⟨q, rfl, ⟨_, SqT.of n2.here⟩, ?_⟩⟩
    refine for_it (walk_tup (xs := [V.str (mkS [ka, kc]), V.str (mkS [kc, ka])])) (fun j σ'' H' => ∃ u7 : Option V, σ'' = slot0 o0 p o2 (some (.ref t)) (some (.ref a)) (some (.str S)) (some (.str (mkS [ka, kc]))) u7 o8 o9 ∧ Same H2 H') ⟨u7, rfl, Same.refl _⟩ (fun j σ'' H' _ q2 => ?_) ?_ ?_
    · obtain ⟨_, _, sm⟩ := q2
      exact SqT.of (sm _ _ n2.here)
    · rintro j v σ'' Hc Hd hj ⟨u7', rfl, sC⟩ ⟨rfl, hv⟩
      have sHd := (sH.trans n2.same).trans sC
      obtain ⟨x, y, rfl, hxy⟩ : ∃ x y, v = V.str (mkS [x, y]) ∧ (x = ka ∧ y = kc ∨ x = kc ∧ y = ka) := by
        rcases List.mem_cons.mp (List.mem_of_getElem? hv) with rfl | hv
        · exact ⟨_, _, rfl, .inl ⟨rfl, rfl⟩⟩
        rcases List.mem_cons.mp hv with rfl | hv
        · exact ⟨_, _, rfl, .inr ⟨rfl, rfl⟩⟩
        cases hv
      obtain ⟨ek, yes⟩ := fine x y _ none hxy sHd
      have same2 : ∀ {x' y' : Nat}, PyData.str (mkS [x, y]) = .str (mkS [x', y']) → x' = x ∧ y' = y := by
        intro x' y' h
        injection h with h
        have h := congrArg (fun q : Str => q.cps.toList) h
        have h : [x, y] = [x', y'] := by simpa using h
        simp at h
        exact ⟨h.1.symm, h.2.symm⟩
      have fits : textFits 4000 (.str (mkS [x, y])) := by show (mkS [x, y]).length ≤ 4000; rw [mkS_len]; show 2 ≤ 4000; decide
      have hFd := hF.same sHd
      obtain ⟨dx, r0, zs, i1, i2, i3⟩ := hFd.at_
      refine ⟨_, rfl, a, dx, _, rfl, i1, rfl, _, rfl, a, p, S, _, _, .str (mkS [x, y]), rfl, hFd, hS4, Rp.str _ _, fits, (fun z => by rw [yes] at z; cases z), fun x' y' e' _ He sE => ?_⟩
      obtain ⟨rfl, rfl⟩ := same2 e'
      rw [ek]
      refine ⟨_, rfl, rfl, _, rfl, ?_⟩
      rw [decide_eq_true rfl]
      refine iteF ?_
      have hFe := hFd.same sE
      obtain ⟨dx2, r2', zs2, i1', i2', i3'⟩ := hFe.at_
      refine ⟨_, rfl, a, dx2, _, rfl, i1', rfl, _, rfl, a, p, S, _, _, .str (mkS [x', y']), rfl, hFe, hS4, Rp.str _ _, fits, (fun z => by rw [yes] at z; cases z), fun x'' y'' e'' _ Hf sF => ?_⟩
      obtain ⟨rfl, rfl⟩ := same2 e''
      rw [shown_seen hG no kk ek]
      have sHf := (sHd.trans sE).trans sF
      refine ⟨_, rfl, _, rfl, t, b, S, ys, ps, ka, kc, rfl, SqT.of (sHf _ _ ht), sHf.seq hb, hps.same sHf, by omega, hS4, fun Hg sG => ⟨rfl, _, rfl, ?_⟩⟩
      rw [decide_eq_true rfl]
      exact iteF ⟨_, rfl, ((sC.trans sE).trans sF).trans sG⟩
    · rintro σ'' H' ⟨u7', rfl, sC⟩
      exact ⟨_, _, rfl, (sA.trans n2.same).trans sC⟩
  · rintro σ' H' ⟨u6, u7, rfl, sA⟩
    exact k H' u6 u7 (s1.trans sA)
end
end My
end
section
set_option Elab.async false
set_option linter.all false
set_option maxRecDepth 100000
set_option maxHeartbeats 4000000
namespace My
open PySem PySem.Spec PyProof.Rows L2 LamX
abbrev valLoop : Stmt := lawSt 4
section
variable {K : PySem.W.Frag} {p : Addr} {H H1 : Hp} {v : V} {d : PyData}
/-- ("kind", v) -/
theorem Shown.kindT {r : Addr} (h : Shown K p H v d) (hr : H r = some (.tup [.str "kind", v])) (n : r ≠ p) : Rp K p H false (.ref r) (.tuple [.str "kind", d]) := by
  refine .tup hr n (.cons (.str _ _) (.cons ?_ (.nil _)))
  show Rp K p H (d.hasDict || false) v d
  rw [Bool.or_false]
  exact h.rp
theorem kind_data (h1 : d.showable = true) (h2 : d.shown.length ≤ 200) (h3 : d.depth ≤ 4) : (PyData.tuple [.str "kind", d]).showable = true ∧ (PyData.tuple [.str "kind", d]).shown.length ≤ sizeLine ∧ (PyData.tuple [.str "kind", d]).depth ≤ 60 := by
  refine ⟨?_, ?_, ?_⟩
  · show (true && (d.showable && true)) = true
    rw [h1]; rfl
  · have e : (PyData.tuple [.str "kind", d]).shown.length ≤ d.shown.length + 100 := by
      have := tuple_le [(PyData.str "kind").shown, d.shown]
      have e1 : (PyData.str "kind").shown.length = 6 := by decide +kernel
      have e2 : ([(PyData.str "kind").shown, d.shown].map (·.length)).sum = 6 + d.shown.length := by simp [e1]
      rw [e2] at this
      show (tupleText [(PyData.str "kind").shown, d.shown]).length ≤ _
      simp only [List.length_cons, List.length_nil] at this
      omega
    have : (1000 : Nat) ≤ sizeLine := by decide
    omega
  · show max 0 (max d.depth 0) + 1 ≤ 60
    omega
end
section
variable {P : Program} {w : World} {K : PySem.W.Frag} {mg : Str → Option Value} {base : Heap}
abbrev slots (o0 : Option V) (p : Addr) (o2 o3 : Option V) (m : Addr) (S : Str) (o6 o7 o8 o9 : Option V) : L2.St := [o0, some (.ref p), o2, o3, some (.ref m), some (.str S), o6, o7, o8, o9]
theorem val_body {f fM fL C IK fIK U2 U3 U4 U5 U6 PL cL gK gS : Addr} {fdM fdL fdK fdS : FuncData} {A : Around} {outer : List Env} {s : Shared} {H0 : Hp} {E : XK}
    (T : TB mg) (hk : mg "ValueError" = none) (VE : VErr K mg "InvalidKind" "InvalidKind.__init__" IK fIK) (up : PySem.W.kitOne K (.ref IK) (.type "ValueError") = some true)
    (h2 : mg "InvalidNumber" = some (.ref U2)) (h3 : mg "TooFew" = some (.ref U3)) (h4 : mg "TooMany" = some (.ref U4)) (h5 : mg "OtherFont" = some (.ref U5)) (h6 : mg "InvalidSigns" = some (.ref U6))
    (FM : Fun K "_law_told" "_law_told" s_told fM fdM) (DM : Def K mg "_law_told" fM fdM ["_law_call"])
    (DL : Def K mg "_law_is_kind" fL fdL ["_law_signs", "_law_value"]) (GL : FnOk P w K mg base CX0 1 fL fdL ["_law_signs", "_law_value"] (sp_isKind K))
    (cl : Cls K C) (MK : Meth K C "kept" gK) (GK : FnOk P w K mg base (L2.CX P w) 2 gK fdK ["self", "kind"] (sp_keptM K C IK)) (bK : Binds K fdK ["self", "kind"] [])
    (MS : Meth K C "shown" gS) (GS : FnOk P w K mg base (L2.CX P w) 4 gS fdS ["self", "kind"] (sp_shownM K C IK)) (bS : Binds K fdS ["self", "kind"] [])
    (tb : TabB base mg cL PL) (g : (A.deeper (envOfC "law" (defScope s_law) s.heap.objs.size f (.ref cL))).guards = some []) (hr : Room 7 (A.deeper (envOfC "law" (defScope s_law) s.heap.objs.size f (.ref cL)))) :
    ∃ t, PSs (LX P w K mg base f (.ref cL) A outer s H0 E) (forBody valLoop) t ∧ ∀ (D : Ends) (H : Hp) (o0 : Option V) (p : Addr) (o2 o3 : Option V) (m : Addr) (S : Str) (o6 o7 o8 : Option V) (v : V) (c : Addr) (n : Nat) (L : List (Nat × Nat)) (d : PyData),
      PenAt H p c n → FontAt H C m S L → S.length ≤ 10 → Tabs [(PL, lamQ)] H → Shown K p H v d →
      (∀ H', ExtN H H' → Tabs [(PL, lamQ)] H' → D.nx (slots o0 p o2 o3 m S o6 o7 o8 (some v)) H' ∧ D.ct (slots o0 p o2 o3 m S o6 o7 o8 (some v)) H') →
      t D (slots o0 p o2 o3 m S o6 o7 o8 (some v)) H := by
  have hu64 : (A.deeper (envOfC "law" (defScope s_law) s.heap.objs.size f (.ref cL))).units + 64 < cLine := by have := hr.un; omega
  have r1 : Room 1 _ := hr.mono (by decide)
  have r4 : Room 4 _ := hr.mono (by decide)
  have r6 : Room 6 _ := hr.mono (by decide)
  obtain ⟨ocM, odM, kVM, docM, pmM, anM, cdM, ctM, oslM, rfl, lkM, hcM⟩ := FM.ex
  refine ⟨_, pss_cons (ps_if (pt_val (pe_call GL r1 rfl DL.mgf DL.kp DL.bd .nil pass0 (pa_cons (pv 5) (pa_cons (pv 9) pa_nil)))) (pss_one ps_continue) pss_nil)
    (pss_cons (ps_if (pt_cmpR op_ne
      (pe_callB (id := "repr") (call_reprD g hu64) (by rfl) T.repr (by decide +kernel) (pa_cons (pe_lamcall (T := [(PL, lamQ)]) (k := 2) (by rfl) DM.mgf DM.kp lkM hcM DM.bd sc_told rfl (Or.inl rfl) (told_gives VE T.isi hk up h2 h3 h4 h5 h6) tb rfl (List.mem_singleton.mpr rfl)
          (fun e he _ => by rw [List.mem_singleton.mp he]; rfl) r4 (lamS_by (by show lamSB (defScope s_law) _ = true; decide +kernel)) rfl (fun _ _ _ _ _ => rfl) (fun A' outer' s' H' E' f' c' hr' => pe_meth (C := C) (E := E') (pv 4) cl MK GK hr' bK .nil (passes_call (takes_of rfl rfl rfl rfl) (fun _ _ _ _ h => h)) (pa_cons (pv 9) pa_nil))) pa_nil))
      (pe_callB (id := "repr") (call_reprD g hu64) (by rfl) T.repr (by decide +kernel) (pa_cons (pe_tup' (pa_cons pe_str (pa_cons (pv 9) pa_nil))) pa_nil)) (nomark _)) (pss_one (ps_ret pe_bl)) pss_nil)
    (pss_one (ps_if (pt_cmpR op_ne
      (pe_callB (id := "repr") (call_reprD g hu64) (by rfl) T.repr (by decide +kernel) (pa_cons (pe_lamcall (T := [(PL, lamQ)]) (k := 4) (by rfl) DM.mgf DM.kp lkM hcM DM.bd sc_told rfl (Or.inl rfl) (told_gives VE T.isi hk up h2 h3 h4 h5 h6) tb rfl (List.mem_singleton.mpr rfl)
          (fun e he _ => by rw [List.mem_singleton.mp he]; rfl) r6 (lamS_by (by show lamSB (defScope s_law) _ = true; decide +kernel)) rfl (fun _ _ _ _ _ => rfl) (fun A' outer' s' H' E' f' c' hr' => pe_meth (C := C) (E := E') (pv 4) cl MS GS hr' bS .nil (passes_call (takes_of rfl rfl rfl rfl) (fun _ _ _ _ h => h)) (pa_cons (pv 9) pa_nil))) pa_nil))
      (pe_callB (id := "repr") (call_reprD g hu64) (by rfl) T.repr (by decide +kernel) (pa_cons (pe_tup' (pa_cons pe_str (pa_cons (pv 9) pa_nil))) pa_nil)) (nomark _)) (pss_one (ps_ret pe_bl)) pss_nil))), ?_⟩
  intro D H o0 p o2 o3 m S o6 o7 o8 v c n L d hP hF hS hT hd k
  have hS4 : S.length ≤ 4000 := Nat.le_trans hS (by decide)
  have t4 : textFits 4000 d := fit.text hd.fit
  obtain ⟨q1, q2, q3⟩ := kind_data hd.shw hd.len hd.dep
  refine ⟨_, rfl, _, rfl, S, v, d, p, rfl, hd.rp.loose2, t4, fun Ha sa => ⟨_, rfl, ?_⟩⟩
  have Ta : Tabs [(PL, lamQ)] Ha := LamX.Tabs.ext hT sa
  cases hs : kindD S d with
  | true => exact iteT (k Ha (.of sa) Ta).2
  | false =>
    refine iteF ?_
    -- kept
    refine ⟨Ta, fun H1 e1 T1 => ?_⟩
    have hd1 := (hd.same sa).ext e1
    have hF1 := (hF.same sa).ext e1
    have hP1 := (hP.same sa).ext e1
    obtain ⟨dx, r, ys, i1, i2, i3⟩ := hF1.at_
    refine ⟨_, rfl, m, dx, _, rfl, i1, rfl, _, rfl, m, p, S, L, v, d, rfl, hF1, hS4, hd1.rp.loose2, t4, fun _ Hb dd sb hdd => ⟨rfl, dd, v, rfl, upd_same, fun r2 H2 n2 => ?_⟩, fun x y _ z => by rw [hs] at z; cases z⟩
    have sU : Same Hb (upd Hb dd (.xd [("value", v)])) := fun b o e => by
      rw [upd_ne (ne_of_none e hdd)]
      exact e
    have s1b := sb.trans sU
    have s12 : Same H1 H2 := s1b.trans n2.same
    have np2 : r2 ≠ p := fun e => (hP1.same s1b).ne n2.free e.symm
    refine ⟨_, _, p, rfl, (hd1.same s12).kindT n2.here np2, q1, q2, q3, ?_⟩
    refine ⟨_, rfl, by show 2 ≤ sizeLine; decide, fun r3 H3 n3 => ?_⟩
    have s13 := s12.trans n3.same
    have np3 : r3 ≠ p := fun e => (hP1.same s12).ne n3.free e.symm
    refine ⟨_, _, p, rfl, (hd1.same s13).kindT n3.here np3, q1, q2, q3, rfl, _, rfl, ?_⟩
    rw [decide_eq_true rfl]
    refine iteF ?_
    -- shown
    have T3 := LamX.Tabs.ext T1 s13
    refine ⟨T3, fun H4 e4 T4 => ?_⟩
    have hd4 := (hd1.same s13).ext e4
    have hF4 := (hF1.same s13).ext e4
    have hP4 := (hP1.same s13).ext e4
    obtain ⟨dx4, r4', ys4, i41, i42, i43⟩ := hF4.at_
    refine ⟨_, rfl, m, dx4, _, rfl, i41, rfl, _, rfl, m, p, S, L, v, d, rfl, hF4, hS4, hd4.rp.loose2, t4, fun _ Hb dd sb hdd => ⟨rfl, dd, v, rfl, upd_same, fun r5 H5 n5 => ?_⟩, fun x y _ z => by rw [hs] at z; cases z⟩
    have sU : Same Hb (upd Hb dd (.xd [("value", v)])) := fun b o e => by
      rw [upd_ne (ne_of_none e hdd)]
      exact e
    have s4b := sb.trans sU
    have s45 : Same H4 H5 := s4b.trans n5.same
    have np5 : r5 ≠ p := fun e => (hP4.same s4b).ne n5.free e.symm
    refine ⟨_, _, p, rfl, (hd4.same s45).kindT n5.here np5, q1, q2, q3, ?_⟩
    refine ⟨_, rfl, by show 2 ≤ sizeLine; decide, fun r6 H6 n6 => ?_⟩
    have s46 := s45.trans n6.same
    have np6 : r6 ≠ p := fun e => (hP4.same s45).ne n6.free e.symm
    refine ⟨_, _, p, rfl, (hd4.same s46).kindT n6.here np6, q1, q2, q3, rfl, _, rfl, ?_⟩
    rw [decide_eq_true rfl]
    exact iteF (k H6 ((((ExtN.of sa).trans e1).trans (.of s13)).trans (e4.trans (.of s46))) (LamX.Tabs.ext T4 s46)).1
end
end My
end
section
set_option Elab.async false
set_option linter.all false
set_option maxRecDepth 100000
set_option maxHeartbeats 4000000
namespace My
open PySem PySem.Spec PyProof.Rows L2 LamX
section
variable {P : Program} {w : World} {K : PySem.W.Frag} {mg : Str → Option Value} {base : Heap}
theorem shown_pair {p : Addr} {H : Hp} {r : Addr} {a b : Nat} (hr : H r = some (.tup [sg a, sg b])) (n : r ≠ p) (sa : a < 16 ^ 8) (sb : b < 16 ^ 8) : Shown K p H (.ref r) (.tuple [.str (mkS [a]), .str (mkS [b])]) := by
  refine ⟨.tup hr n (.cons (.str _ _) (.cons (.str _ _) (.nil _))), rfl, ?_, rfl, ?_⟩
  · show max 0 (max 0 0) + 1 ≤ 4
    omega
  · refine Nat.le_trans (shown_wt _ ?_) ?_
    · simp only [chr, chrAll, List.all_cons, List.all_nil, Bool.and_true, Bool.and_eq_true, decide_eq_true_eq]
      exact ⟨sa, sb⟩
    · show (10 * 1 + 2) + 2 + ((10 * 1 + 2) + 2 + 0) + 4 ≤ 200
      omega
theorem shown_list {p : Addr} {H : Hp} {r : Addr} {z : Str} (hr : H r = some (.lst [.str z])) (n : r ≠ p) (hl : z.length ≤ 10) (hc : ∀ c ∈ z.cps.toList, c < 16 ^ 8) : Shown K p H (.ref r) (.list [.str z]) := by
  refine ⟨.lst hr n (fun z => by cases z) (.cons (.str _ _) (.nil _)), ?_, ?_, rfl, ?_⟩
  · show (decide (1 ≤ 4000) && (decide (z.length ≤ 4000) && true)) = true
    rw [decide_eq_true (show z.length ≤ 4000 by omega)]
    rfl
  · show max 0 0 + 1 ≤ 4
    omega
  · refine Nat.le_trans (shown_wt _ ?_) ?_
    · simp only [chr, chrAll, Bool.and_true, List.all_eq_true, decide_eq_true_eq]
      exact hc
    · show (10 * z.length + 2) + 2 + 0 + 4 ≤ 200
      omega
/-- for _law_value in ..: -/
def qVals (C PL : Addr) : TS := fun D σ H => ∃ (o0 o2 o3 o6 o7 o9 : Option V) (p c m q0 : Addr) (n : Nat) (S : Str) (L ps : List (Nat × Nat)) (xs : List V), σ = slots o0 p o2 o3 m S o6 o7 (some (.ref q0)) o9 ∧ PenAt H p c n ∧ n < 2 ^ 50 ∧ FontAt H C m S L ∧ Good 10 S ps ∧ Tabs [(PL, lamQ)] H ∧
  H q0 = some (.lst xs) ∧ xs.length = 10 ∧ (∀ x ∈ xs, ∃ z : Str, x = .str z ∧ z.length ≤ 10 ∧ ∀ ch ∈ z.cps.toList, ch < 16 ^ 8) ∧ ∀ H' u9, PenAt H' p c (n + 2) → Tabs [(PL, lamQ)] H' → D.nx (slots o0 p o2 o3 m S o6 o7 (some (.ref q0)) u9) H'
theorem st_vals {f fM fO fL C IK fIK U2 U3 U4 U5 U6 PL cL gK gS : Addr} {fdM fdO fdL fdK fdS : FuncData} {A : Around} {outer : List Env} {s : Shared} {H0 : Hp} {E : XK}
    (T : TB mg) (hk : mg "ValueError" = none) (VE : VErr K mg "InvalidKind" "InvalidKind.__init__" IK fIK) (up : PySem.W.kitOne K (.ref IK) (.type "ValueError") = some true)
    (h2 : mg "InvalidNumber" = some (.ref U2)) (h3 : mg "TooFew" = some (.ref U3)) (h4 : mg "TooMany" = some (.ref U4)) (h5 : mg "OtherFont" = some (.ref U5)) (h6 : mg "InvalidSigns" = some (.ref U6))
    (FM : Fun K "_law_told" "_law_told" s_told fM fdM) (DM : Def K mg "_law_told" fM fdM ["_law_call"])
    (DL : Def K mg "_law_is_kind" fL fdL ["_law_signs", "_law_value"]) (GL : FnOk P w K mg base CX0 1 fL fdL ["_law_signs", "_law_value"] (sp_isKind K))
    (DO : Def K mg "_law_odd" fO fdO ["_law_pen_here"]) (GO : FnOk P w K mg base CX0 3 fO fdO ["_law_pen_here"] (sp_odd K))
    (cl : Cls K C) (MK : Meth K C "kept" gK) (GK : FnOk P w K mg base (L2.CX P w) 2 gK fdK ["self", "kind"] (sp_keptM K C IK)) (bK : Binds K fdK ["self", "kind"] [])
    (MS : Meth K C "shown" gS) (GS : FnOk P w K mg base (L2.CX P w) 4 gS fdS ["self", "kind"] (sp_shownM K C IK)) (bS : Binds K fdS ["self", "kind"] [])
    (tb : TabB base mg cL PL) (g : (A.deeper (envOfC "law" (defScope s_law) s.heap.objs.size f (.ref cL))).guards = some []) (hr : Room 7 (A.deeper (envOfC "law" (defScope s_law) s.heap.objs.size f (.ref cL)))) :
    PS (LX P w K mg base f (.ref cL) A outer s H0 E) (lawSt 4) (qVals C PL) := by
  have r3 : Room 3 _ := hr.mono (by decide)
  obtain ⟨t, ht, hR⟩ := val_body (H0 := H0) (E := E) (outer := outer) T hk VE up h2 h3 h4 h5 h6 FM DM DL GL cl MK GK bK MS GS bS tb g hr
  refine PS.weak (ps_for PassesOwn.never rfl (pi_list (pe_op op_cat' (pv 8) (pe_lst' (pa_cons pe_non (pa_cons pe_int (pa_cons (pe_lst' pa_nil) (pa_cons (pe_tup' (pa_cons (pe_ix ix_str (pv 5) pe_int (fun _ _ => rfl)) (pa_cons (pe_ix ix_str (pv 5) pe_int (fun _ _ => rfl)) pa_nil)))
      (pa_cons (pe_lst' (pa_cons (pe_slice sl_str (pv 5) po_none (po_some pe_int)) pa_nil)) (pa_cons (pe_call GO r3 rfl DO.mgf DO.kp DO.bd .nil pass0 (pa_cons (pv 1) pa_nil)) (pa_cons (pe_call GO r3 rfl DO.mgf DO.kp DO.bd .nil pass0 (pa_cons (pv 1) pa_nil)) pa_nil))))))))))
    (pg_name (i := 9) sc_law.nd rfl (Or.inr rfl)) ht) ?_
  rintro D σ H ⟨o0, o2, o3, o6, o7, o9, p, c, m, q0, n, S, L, ps, xs, rfl, hP, hn, hF, hG, hT, hq0, hx10, hall, k⟩
  have hS10 : S.length ≤ 10 := hG.hi
  have hz : S.length ≤ sizeLine := Nat.le_trans hS10 (by decide)
  have zl : S.cps.toList.length = S.length := Array.length_toList
  have lo := hG.lo
  have abS : ∀ c ∈ S.cps.toList, c < 16 ^ 8 := fun c hc => alpha_small c (hG.ab c hc)
  obtain ⟨a, ha⟩ : ∃ a, S.cps.toList[0]? = some a := ⟨S.cps.toList[0]'(by omega), by simp [show 0 < S.cps.toList.length by omega]⟩
  obtain ⟨b, hb⟩ : ∃ b, S.cps.toList[1]? = some b := ⟨S.cps.toList[1]'(by omega), by simp [show 1 < S.cps.toList.length by omega]⟩
  have a0 : atI S.cps.toList (0 : Int) = some a := atI_nat (j := 0) ha
  have b1 : atI S.cps.toList (1 : Int) = some b := atI_nat (j := 1) hb
  have sa := abS a (List.mem_of_getElem? ha)
  have sb := abS b (List.mem_of_getElem? hb)
  refine ⟨_, rfl, by show 0 ≤ sizeLine; decide, fun q1 H1 n1 => ⟨_, rfl, S, _, a, rfl, rfl, hz, a0, _, rfl, S, _, b, rfl, rfl, hz, b1, by show 2 ≤ sizeLine; decide, fun q2 H2 n2 => ⟨_, rfl, 2, rfl, S, rfl, hz, by show 1 ≤ sizeLine; decide, fun q3 H3 n3 => ?_⟩⟩⟩
  have s2 := n1.same.trans n2.same
  have s3 := s2.trans n3.same
  have P3 := hP.same s3
  refine ⟨_, rfl, p, c, n, rfl, P3, by omega, fun H4 v1 d1 dr1 rp1 fit1 dep1 shw1 len1 => ?_⟩
  refine ⟨_, rfl, p, c, n + 1, rfl, dr1.pen, by omega, fun H5 v2 d2 dr2 rp2 fit2 dep2 shw2 len2 => ⟨by show 7 ≤ sizeLine; decide, fun q6 H6 n6 => ?_⟩⟩
  have dr := dr1.trans dr2
  have q0p : q0 ≠ p := hP.neL hq0
  have h06 : H6 q0 = some (.lst xs) := n6.same _ _ (dr.but _ _ q0p (s3 _ _ hq0))
  refine ⟨q0, q6, _, _, rfl, rfl, h06, n6.here, by rw [hx10]; show 10 + 7 ≤ sizeLine; decide, fun q7 H7 n7 => ?_⟩
  have s57 : Same H5 H7 := n6.same.trans n7.same
  have P7 : PenAt H7 p c (n + 2) := dr.pen.same s57
  have F7 : FontAt H7 C m S L := ((hF.same s3).pen P3 dr.but).same s57
  have T7 : Tabs [(PL, lamQ)] H7 := LamX.Tabs.ext (My.Tabs.but P3 dr.but (LamX.Tabs.ext hT s3)) s57
  have q1p : q1 ≠ p := fun z => hP.ne n1.free z.symm
  have q2p : q2 ≠ p := fun z => (hP.same n1.same).ne n2.free z.symm
  have q3p : q3 ≠ p := fun z => (hP.same s2).ne n3.free z.symm
  have no : ∀ {P : Prop}, false = true → P := fun z => by cases z
  have cut2 : (cutS S none (some (2 : Int))).cps.toList = S.cps.toList.take 2 := by
    show (((S.cps.toList.drop (HT.sIx S.length 0 none)).take (HT.sIx S.length S.length (some ((2 : Nat) : Int)) - HT.sIx S.length 0 none)).toArray).toList = _
    rw [HT.sIx_none, HT.sIx_nat, List.drop_zero, Nat.sub_zero, Nat.min_eq_left lo]
  have cutl : (cutS S none (some (2 : Int))).length ≤ 10 := by
    have : (cutS S none (some (2 : Int))).length = (cutS S none (some (2 : Int))).cps.toList.length := Array.length_toList.symm
    rw [this, cut2, List.length_take]
    omega
  have all7 : ∀ x ∈ xs ++ [V.non, .int 0, .ref q1, .ref q2, .ref q3, v1, v2], ∃ d, Shown K p H7 x d := by
    intro x hx
    rcases List.mem_append.mp hx with hx | hx
    · obtain ⟨z, rfl, h1, h2⟩ := hall x hx
      exact ⟨_, shown_str h1 h2⟩
    rcases List.mem_cons.mp hx with rfl | hx
    · exact ⟨.none, .non _, rfl, by decide, rfl, by decide⟩
    rcases List.mem_cons.mp hx with rfl | hx
    · exact ⟨.int 0, .int _ _, rfl, by decide, by decide +kernel, by decide +kernel⟩
    rcases List.mem_cons.mp hx with rfl | hx
    · exact ⟨.list [], .lst (s57 _ _ (dr.but _ _ q1p (n3.same _ _ (n2.same _ _ n1.here)))) q1p no (.nil _), rfl, by decide, by decide +kernel, by decide +kernel⟩
    rcases List.mem_cons.mp hx with rfl | hx
    · exact ⟨_, shown_pair (s57 _ _ (dr.but _ _ q2p (n3.same _ _ n2.here))) q2p sa sb⟩
    rcases List.mem_cons.mp hx with rfl | hx
    · exact ⟨_, shown_list (s57 _ _ (dr.but _ _ q3p n3.here)) q3p cutl fun ch hch => by rw [cut2] at hch; exact abS ch (List.mem_of_mem_take hch)⟩
    rcases List.mem_cons.mp hx with rfl | hx
    · exact ⟨d1, (rp1.but dr2.but).but (.of s57), fit1, dep1, shw1, len1⟩
    rcases List.mem_cons.mp hx with rfl | hx
    · exact ⟨d2, rp2.but (.of s57), fit2, dep2, shw2, len2⟩
    cases hx
  have i7 := n7.here
  generalize xs ++ [V.non, .int 0, .ref q1, .ref q2, .ref q3, v1, v2] = items at all7 i7
  refine ⟨q7, rfl, ⟨_, SqL.of i7⟩, for_it (walk_list (xs := items)) (fun i σ' H' => ∃ u9 : Option V, σ' = slots o0 p o2 o3 m S o6 o7 (some (.ref q0)) u9 ∧ ExtN H7 H' ∧ Tabs [(PL, lamQ)] H') ⟨o9, rfl, ExtN.refl H7, T7⟩ ?_ ?_ ?_⟩
  · rintro i σ' H' _ ⟨u9, rfl, x7, _⟩
    exact SqL.of (x7 _ _ i7 fun _ z => by cases z)
  · rintro i x σ' Ha Hb hi ⟨u9, rfl, x7, tT⟩ ⟨rfl, hx⟩
    obtain ⟨dx, hdx⟩ := all7 x (List.mem_of_getElem? hx)
    exact hR _ _ o0 p o2 o3 m S o6 o7 (some (.ref q0)) x c (n + 2) L dx (P7.ext x7) (F7.ext x7) hS10 tT (hdx.ext x7) fun H' e' t' => ⟨⟨some x, rfl, x7.trans e', t'⟩, ⟨some x, rfl, x7.trans e', t'⟩⟩
  · rintro σ' H' ⟨u9, rfl, x7, tT⟩
    exact k H' u9 (P7.ext x7) tT
end
end My
end
section
set_option Elab.async false
set_option linter.all false
set_option maxRecDepth 100000
set_option maxHeartbeats 4000000
namespace My
open PySem PySem.Spec PyProof.Rows L2 LamX
def sp_law (K : PySem.W.Frag) (PL : Addr) : Sp := fun vs H Q _ => ∃ (a : Addr) (ns : List Int), vs = [.ref a] ∧ SqL K H a (ns.map V.int) ∧ ns.length ≤ 63 ∧ Tabs [(PL, lamQ)] H ∧ ∀ H', Q (.bl true) H'
section
variable {P : Program} {w : World} {K : PySem.W.Frag} {mg : Str → Option Value} {base : Heap}
/-- a def by its body and its code object, where no repr is under way -/
theorem okGc {x qual : Str} {st : Stmt} {f : Addr} {oc kV doc pm cdv ct : Value} {od an : Option Addr} {osl : Array (Option Value)} {N ps : List Str} {k : Nat} {sp : Sp} (lk : K.lookup f = some ⟨oc, od, .func (PySem.W.fnOf x qual (defArgs st) (defBody st) (defScope st) .none kV doc pm an cdv ct), osl⟩) (hcd : PySem.W.codeIn K cdv qual = true)
    (S : FnScope N ps (defScope st)) (size : ∀ vs H Q E, sp vs H Q E → vs.length = ps.length)
    (body : ∀ (A : Around) (o : List Env) (s : Shared) (H : Hp) (vs : List V) (Q : VK) (E : XK), (A.deeper (envOfC qual (defScope st) s.heap.objs.size f cdv)).guards = some [] → Room k (A.deeper (envOfC qual (defScope st) s.heap.objs.size f cdv)) → sp vs H Q E →
      ∃ t, PSs (cxOf CX0 P w K mg base N qual (defScope st) f cdv A o s H E).nox (defBody st) t ∧ t { nx := fun _ H' => Q .non H', rt := Q } (L2.start N vs) H) :
    FnG P w K mg base (k + 1) f (PySem.W.fnOf x qual (defArgs st) (defBody st) (defScope st) .none kV doc pm an cdv ct) ps sp := by
  constructor
  · exact size
  intro A o s H args us vs Q E g room e0 bd rel want
  have hlen := size _ _ _ _ want
  have kin := e0.mod.kin.keeps fun b ob z => (e0.bs b ob z).1
  have nolim := e0.mod.nolimit.keeps fun b ob z => (e0.bs b ob z).1
  have kinds : ∀ y ∈ ps.zip us, (defScope st).names.lookup y.1 = some .local ∨ ((defScope st).names.lookup y.1 = some .cell ∧ ((cellsFrom (s.heap.objs.size + 1) (defScope st).names []).lookup y.1).isSome = true) := by
    intro y hy
    obtain ⟨n, v⟩ := y
    cases S.par n (List.of_mem_zip hy).1 with
    | inl z => exact Or.inl z
    | inr z => exact Or.inr ⟨z, PySem.W.cellsFrom_some _ _ _ (Or.inl z)⟩
  apply codeAny_call_function room.depth (kin _ _ lk) rfl S.co S.gen rfl (PySem.W.codeRec_of kin hcd)
  apply bd
  apply wpAny_newFunctionEnv_cells S.kind kinds
  intro env henv s1 x
  subst henv
  constructor
  · exact nolim.keeps x.toInCall.keep
  apply codeAny_func
  obtain ⟨t, der, rd⟩ := body A o s H vs Q E (guards_deeper g) (room.deeper _) want
  have J : Inv (cxOf CX0 P w K mg base N qual (defScope st) f cdv A o s H E) [] (L2.start N vs) H s1 := inv_start S room.hd e0 hlen rel x
  apply wpAny_mono (der.nox.run [] s1 (L2.start N vs) H _ J rd)
  · intro fl s' hs
    cases fl with
    | ret u =>
      obtain ⟨v, σ', H', J', rv, q⟩ := hs
      exact ⟨v, H', J'.os, J'.bare, J'.base, J'.hok, rv, q⟩
    | next =>
      obtain ⟨σ', H', J', q⟩ := hs
      exact ⟨V.non, H', J'.os, J'.bare, J'.base, J'.hok, rfl, q⟩
    | brk => exact hs.choose_spec.choose_spec.2.elim
    | cont => exact hs.choose_spec.choose_spec.2.elim
  · intro e s' hs
    exact hs
theorem ok_law {f C IK fIK U2 U3 U4 U5 U6 fN fB fP fMd fKi fSn fM fO fL gK gS PL cL : Addr} {fdN fdB fdP fdMd fdKi fdSn fdM fdO fdL fdK fdS : FuncData} {oc kV doc pm ct : Value} {od an : Option Addr} {osl : Array (Option Value)}
    (lk : K.lookup f = some ⟨oc, od, .func (PySem.W.fnOf "law" "law" (defArgs s_law) (defBody s_law) (defScope s_law) .none kV doc pm an (.ref cL) ct), osl⟩) (hcd : PySem.W.codeIn K (.ref cL) "law" = true)
    (T : TB mg) (hk : mg "ValueError" = none) (VE : VErr K mg "InvalidKind" "InvalidKind.__init__" IK fIK) (up : PySem.W.kitOne K (.ref IK) (.type "ValueError") = some true)
    (h2 : mg "InvalidNumber" = some (.ref U2)) (h3 : mg "TooFew" = some (.ref U3)) (h4 : mg "TooMany" = some (.ref U4)) (h5 : mg "OtherFont" = some (.ref U5)) (h6 : mg "InvalidSigns" = some (.ref U6)) (tb : TabB base mg cL PL)
    (DN : Def K mg "_law_pen" fN fdN ["_law_script"]) (GN : FnOk P w K mg base CX0 1 fN fdN ["_law_script"] (sp_pen K))
    (DB : Def K mg "_law_font" fB fdB ["_law_pen_here", "_law_most"]) (GB : FnOk P w K mg base CX0 3 fB fdB ["_law_pen_here", "_law_most"] (sp_font K))
    (DP : Def K mg "_law_pick" fP fdP ["_law_pen_here", "_law_options"]) (GP : FnOk P w K mg base CX0 2 fP fdP ["_law_pen_here", "_law_options"] (sp_pick K))
    (DMd : Def K mg "_law_font_made" fMd fdMd ["_law_pen_here", "_law_font_here"]) (GMd : FnOk P w K mg base CX0 6 fMd fdMd ["_law_pen_here", "_law_font_here"] (sp_fmade K C))
    (DKi : Def K mg "_law_kinds" fKi fdKi ["_law_signs"]) (GKi : FnOk P w K mg base CX0 1 fKi fdKi ["_law_signs"] sp_kinds)
    (DSn : Def K mg "_law_seen" fSn fdSn ["_law_font_here", "_law_kind"]) (GSn : FnOk P w K mg base CX0 2 fSn fdSn ["_law_font_here", "_law_kind"] (sp_seen K))
    (FM : Fun K "_law_told" "_law_told" s_told fM fdM) (DM : Def K mg "_law_told" fM fdM ["_law_call"])
    (DL : Def K mg "_law_is_kind" fL fdL ["_law_signs", "_law_value"]) (GL : FnOk P w K mg base CX0 1 fL fdL ["_law_signs", "_law_value"] (sp_isKind K))
    (DO : Def K mg "_law_odd" fO fdO ["_law_pen_here"]) (GO : FnOk P w K mg base CX0 3 fO fdO ["_law_pen_here"] (sp_odd K))
    (cl : Cls K C) (MK : Meth K C "kept" gK) (GK : FnOk P w K mg base (L2.CX P w) 2 gK fdK ["self", "kind"] (sp_keptM K C IK)) (bK : Binds K fdK ["self", "kind"] [])
    (MS : Meth K C "shown" gS) (GS : FnOk P w K mg base (L2.CX P w) 4 gS fdS ["self", "kind"] (sp_shownM K C IK)) (bS : Binds K fdS ["self", "kind"] []) :
    FnG P w K mg base 8 f (PySem.W.fnOf "law" "law" (defArgs s_law) (defBody s_law) (defScope s_law) .none kV doc pm an (.ref cL) ct) ["_law_script"] (sp_law K PL) := by
  refine okGc lk hcd sc_law (fun vs H Q E h => ?_) (fun A outer s H vs Q E g hr h => ?_)
  · obtain ⟨a, ns, rfl, _⟩ := h
    rfl
  · obtain ⟨a, ns, rfl, hS, hlen, hT, k⟩ := h
    have r1 : Room 1 _ := hr.mono (by decide)
    refine ⟨_, pss_cons (ps_set (i := 1) sc_law.nd rfl (Or.inl rfl) (pe_call GN r1 rfl DN.mgf DN.kp DN.bd .nil pass0 (pa_cons (pv 0) pa_nil)))
      (pss_cons (ps_for PassesOwn.never rfl (pi_range1 rfl T.range (pa_cons pe_int pa_nil)) (pg_name (i := 2) sc_law.nd rfl (Or.inl rfl))
        (pss_cons (st_font DB GB DP GP hr) (pss_cons (st_made DMd GMd hr) (pss_cons (st_kinds T DKi GKi DSn GSn cl MK GK bK MS GS bS hr) (pss_cons st_some (pss_one (st_vals T hk VE up h2 h3 h4 h5 h6 FM DM DL GL DO GO cl MK GK bK MS GS bS tb g hr)))))))
      (pss_one (ps_ret pe_bl))), ?_⟩
    refine ⟨_, rfl, a, ns, rfl, hS, hlen, fun H1 p c s1 fp hP => ?_⟩
    have T1 : Tabs [(PL, lamQ)] H1 := LamX.Tabs.ext hT s1
    refine ⟨6, rfl, by decide, by decide, for_it (walk_range (lo := 0) (n := (6 : Int).toNat)) (fun i σ' H' => ∃ (o0 o2 o3 o4 o5 o6 o7 o8 o9 : Option V) (n : Nat), σ' = slot0 o0 p o2 o3 o4 o5 o6 o7 o8 o9 ∧ PenAt H' p c n ∧ n ≤ 200 * i ∧ Tabs [(PL, lamQ)] H')
      ⟨_, _, _, _, _, _, _, _, _, 0, rfl, hP, Nat.le_refl _, T1⟩ (fun _ _ _ _ _ => trivial) ?_ ?_⟩
    · rintro i x σ' Ha Hb hi ⟨o0, o2, o3, o4, o5, o6, o7, o8, o9, n, rfl, hP, hn, hT⟩ ⟨rfl, rfl⟩
      have hi6 : i < 6 := hi
      have small : ∀ m : Nat, m ≤ 100000 → m < 2 ^ 49 := fun m hm => Nat.lt_of_le_of_lt hm (by decide)
      have small' : ∀ m : Nat, m ≤ 100000 → m < 2 ^ 50 := fun m hm => Nat.lt_of_le_of_lt hm (by decide)
      refine ⟨_, _, _, _, _, _, _, _, _, p, c, n, rfl, hP, small n (by omega), fun H1 t b S ys ps d1 h1 h2' hps hG => ?_⟩
      have T1 := My.Tabs.but hP d1.but hT
      refine ⟨_, _, _, _, _, _, _, _, p, c, t, b, n + 41, S, ys, ps, rfl, d1.pen, small' _ (by omega), h1, SqL.of h2', hps, hG, fun H2 a2 d2 ft => ?_⟩
      have T2 := My.Tabs.but d1.pen d2.but T1
      have t2 := d2.but _ _ (d1.pen.neT h1) h1
      have b2 := d2.but _ _ (d1.pen.neL h2') h2'
      have hps2 := hps.pen d1.pen d2.but
      refine ⟨_, _, _, _, _, _, p, t, b, a2, S, ys, ps, rfl, t2, SqL.of b2, hps2, hG, ft, fun H3 u6 u7 s3 => ?_⟩
      refine ⟨_, _, _, _, _, _, _, _, p, S, ps, rfl, hG, fun H4 q4 xs s4 hq hx hall => ?_⟩
      have s34 := s3.trans s4
      refine ⟨_, _, _, _, _, _, p, c, a2, q4, n + 61, S, _, ps, xs, rfl, d2.pen.same s34, small' _ (by omega), ft.same s34, hG, LamX.Tabs.ext T2 s34, hq, hx, hall, fun H5 u9 P5 T5 => ?_⟩
      exact ⟨_, _, _, _, _, _, _, _, _, _, rfl, P5, by omega, T5⟩
    · rintro σ' H2 ⟨o0, o2, o3, o4, o5, o6, o7, o8, o9, n, rfl, hP, hn, hT⟩
      exact k H2
end
end My
end
section
set_option Elab.async false
set_option linter.all false
set_option maxRecDepth 100000
set_option maxHeartbeats 2000000
namespace My
open PySem PySem.Spec PyProof.Rows L2 LamX
/-- the heap that stands still: all but the tables and the script -/
structure Still (P : Program) (w : World) (K : PySem.W.Frag) (cs : List (Addr × Addr)) (a : Addr) (h : Heap) (H : Hp) : Prop where
  tab : ∀ p ∈ cs, H p.2 = some (.tbl #[])
  only : ∀ b u, H b = some u → (b ∈ cs.map (·.2) ∧ u = .tbl #[]) ∨ (b = a ∧ K.lookup a = none ∧ ∃ o xs, u = .frz o (.lst xs))
  ok : HOk P w H h
section
variable {P : Program} {w : World} {K : PySem.W.Frag} {mg mb : Str → Option Value} {k : Nat} {fa a : Addr} {cs : List (Addr × Addr)} {fd : FuncData} {x : Str} {sp : Sp} {s1 : Shared} {vs : List Value} {ns : List Int} {H : Hp}
abbrev emptyTab : Obj := { cls := .none, data := .fields #[] }
theorem tab_at (hT : ∀ p ∈ cs, s1.heap.get? p.2 = some emptyTab) {b : Addr} (hb : b ∈ cs.map (·.2)) : s1.heap.get? b = some emptyTab := by
  obtain ⟨p, hp, e⟩ := List.mem_map.mp hb
  exact e ▸ hT p hp
/-- what is neither a list nor an empty table stands still -/
theorem Still.free (S : Still P w K cs a s1.heap H) (hT : ∀ p ∈ cs, s1.heap.get? p.2 = some emptyTab) (ha : s1.heap.get? a = some { cls := .type "list", data := .seq vs.toArray }) {b : Addr} {o : Obj} (e : s1.heap.get? b = some o)
    (h1 : o ≠ emptyTab) (h2 : o ≠ { cls := .type "list", data := .seq vs.toArray }) : H b = none := by
  cases q : H b with
  | none => rfl
  | some u =>
    rcases S.only b u q with ⟨m, _⟩ | ⟨m, _⟩
    · rw [tab_at hT m] at e
      exact absurd (Option.some.inj e).symm h1
    · rw [m, ha] at e
      exact absurd (Option.some.inj e).symm h2
theorem still_call (S : Still P w K cs a s1.heap H) (KX : K.In s1.heap) (hns : s1.heap.Ns mainGlobals mg) (hb : s1.heap.Ns builtinsNs mb) (hbb : ∀ x : Str, x ≠ "__name__" → mb x = bootBuiltins x) (hlim : s1.heap.NoLimit) (hg : s1.gens = #[])
    (hT : ∀ p ∈ cs, s1.heap.get? p.2 = some emptyTab) (nT : ∀ p ∈ cs, K.lookup p.2 = none) (C : ∀ p ∈ cs, PySem.W.CodeHd s1.heap p.1 p.2)
    (hbm : ∃ (bm : Addr) (ob : Obj), mg "__builtins__" = some (.ref bm) ∧ bm ≠ builtinsNs ∧ s1.heap.get? bm = some ob ∧ ob.cls = .type "module" ∧ ob.dict = some builtinsNs ∧ ob.data = .plain)
    (ha : s1.heap.get? a = some { cls := .type "list", data := .seq vs.toArray }) (hr : Room k callerA) (hS : SqL K H a (ns.map V.int))
    (F : ∀ base : Heap, K.In base → base.Ns mainGlobals mg → (∀ p ∈ cs, TabB base mg p.1 p.2) → FnG P w K mg base k fa fd [x] sp) (bind1 : ∀ (s : Shared) (u : Value), BindsTo s fd ⟨[u], []⟩ [(x, u)])
    (hsp : sp [.ref a] H (fun v _ => v = .bl true) fun _ _ _ => False) :
    codeAny (model P w) callerA (.call (.ref fa) ⟨[.ref a], []⟩) (fun r s' => r = .ok (.ret (.bool true)) ∧ OldK s1.heap s'.heap ∧ s'.os = s1.os ∧ AllBare s'.gens) s1 := by
  have inB : ∀ {b : Addr} {o : Obj}, s1.heap.get? b = some o → H b = none → (hidT s1.heap H).get? b = some o := fun e n => hidT_get e n
  have dictB : ∀ {b : Addr} {m : Str → Option Value}, s1.heap.Ns b m → (hidT s1.heap H).Ns b m := by
    rintro b m ⟨o, es, ep, e, d, r⟩
    exact ⟨o, es, ep, inB e (S.free hT ha e (fun z => by rw [z] at d; cases d) fun z => by rw [z] at d; cases d), d, r⟩
  have kinB : K.In (hidT s1.heap H) := by
    intro b o e
    refine inB (KX b o e) ?_
    cases q : H b with
    | none => rfl
    | some u =>
      rcases S.only b u q with ⟨m, _⟩ | ⟨m, m2, _⟩
      · obtain ⟨p, hp, ep⟩ := List.mem_map.mp m
        have := nT p hp
        rw [ep, e] at this
        cases this
      · rw [← m, e] at m2
        cases m2
  have modB : L2.Mod K mg (hidT s1.heap H) := by
    refine ⟨kinB, dictB hns, ⟨mb, dictB hb, hbb⟩, ?_⟩
    obtain ⟨mc, h1, h2⟩ := hlim
    exact ⟨mc, dictB h1, h2⟩
  have tabB : ∀ p ∈ cs, TabB (hidT s1.heap H) mg p.1 p.2 := by
    intro p hp
    have tp := hT p hp
    constructor
    · obtain ⟨o, us, file, tf, flags, tg, inF, text, tt, e1, r1, r2, r3, r4, r5, r6, r7, r8, hne⟩ := C p hp
      refine ⟨o, us, file, tf, flags, tg, inF, text, tt, inB e1 (S.free hT ha e1 (fun z => ?_) fun z => ?_), r1, r2, r3, r4, r5, r6, r7, r8, hne⟩
      · rw [z] at r2
        cases r2
        simp at r3
      · rw [z] at r2
        cases r2
    · obtain ⟨bm, ob, b1, b2, b3, b4, b5, b6⟩ := hbm
      refine ⟨bm, ob, b1, b2, fun q => ?_, fun q => ?_, inB b3 (S.free hT ha b3 (fun z => ?_) fun z => ?_), b4, b5, b6⟩
      · obtain ⟨o, es, ep, e, hd, _⟩ := hns
        rw [q, e] at b3
        rw [Option.some.inj b3, b6] at hd
        cases hd
      · rw [q, tp] at b3
        rw [← Option.some.inj b3] at b6
        cases b6
      · rw [z] at b6
        cases b6
      · rw [z] at b6
        cases b6
    · intro z
      obtain ⟨o, es, ep, e, hd, _⟩ := hns
      rw [z, tp] at e
      rw [← Option.some.inj e] at hd
      cases hd
  have e0 : Env0 P w K mg (hidT s1.heap H) callerA [] s1 H := ⟨rfl, modB, fun b o e => of_hidT e, Nat.le_of_eq (hidT_size _ _), trivial, fun b m => absurd (show b ∈ ([] : List Addr) from m) (by simp), S.ok, .of_eq hg⟩
  refine codeAny_mono ((F _ kinB (dictB hns) tabB).goes callerA [] s1 H ⟨[.ref a], []⟩ [.ref a] [.ref a] _ _ rfl hr e0 (bind1 s1 (.ref a)) (.cons rfl .nil) hsp) ?_
  intro r s' hq
  match r, hq with
  | .error e, hq => exact hq.elim
  | .ok .next, hq => exact hq.elim
  | .ok .brk, hq => exact hq.elim
  | .ok .cont, hq => exact hq.elim
  | .ok (.ret u), hq =>
    obtain ⟨v, H', os, bare, un, ok', rv, q⟩ := hq
    have q : v = .bl true := q
    subst q
    obtain rfl : u = Value.bool true := rv
    have nof : ∀ b : Addr, b ∉ frs [] := fun b m => absurd (show b ∈ ([] : List Addr) from m) (by simp)
    have stay : ∀ b o, b ∉ cs.map (·.2) → s1.heap.get? b = some o → s'.heap.get? b = some o := by
      intro b o nb e
      cases z : H b with
      | none => exact un.keep b o e z (nof b) (by simp)
      | some u =>
        rcases S.only b u z with ⟨m, _⟩ | ⟨_, _, ob, xs, rfl⟩
        · exact absurd m nb
        · have z2 := un.frzs b ob _ z
          have e1 := (S.ok b _ z).1
          have e2 := (ok' b _ z2).1
          rw [e1] at e
          exact Option.some.inj e ▸ e2
    have grow : ∀ p ∈ cs, ∃ more : Array Value, s'.heap.get? p.2 = some { cls := .none, data := .fields more } := by
      intro p hp
      obtain ⟨more, z⟩ := un.tbls p.2 #[] (S.tab p hp)
      exact ⟨_, ok' p.2 _ z⟩
    refine ⟨rfl, ⟨fun b o e => ?_, fun b o e => ?_⟩, os, bare⟩
    · by_cases hb : b ∈ cs.map (·.2)
      · obtain ⟨p, hp, ep⟩ := List.mem_map.mp hb
        obtain ⟨more, hm⟩ := grow p hp
        subst ep
        have eo : o = emptyTab := by
          rw [hT p hp] at e
          exact (Option.some.inj e).symm
        subst eo
        exact .inr (.inl ⟨((C p hp).tab (hT p hp)).isCodeTable, rfl, #[], more, rfl, by rw [Array.empty_append]; exact hm⟩)
      · exact .inl (stay b o hb e)
    · by_cases hb : b ∈ cs.map (·.2)
      · obtain ⟨p, hp, ep⟩ := List.mem_map.mp hb
        obtain ⟨more, hm⟩ := grow p hp
        exact ⟨_, ep ▸ hm⟩
      · exact ⟨o, stay b o hb e⟩
theorem law_callG (KX : K.In s1.heap) (hns : s1.heap.Ns mainGlobals mg) (hb : s1.heap.Ns builtinsNs mb) (hbb : ∀ x : Str, x ≠ "__name__" → mb x = bootBuiltins x) (hlim : s1.heap.NoLimit) (hg : s1.gens = #[])
    (hT : ∀ p ∈ cs, s1.heap.get? p.2 = some emptyTab) (nT : ∀ p ∈ cs, K.lookup p.2 = none) (C : ∀ p ∈ cs, PySem.W.CodeHd s1.heap p.1 p.2)
    (hbm : ∃ (bm : Addr) (ob : Obj), mg "__builtins__" = some (.ref bm) ∧ bm ≠ builtinsNs ∧ s1.heap.get? bm = some ob ∧ ob.cls = .type "module" ∧ ob.dict = some builtinsNs ∧ ob.data = .plain)
    (ha : s1.heap.get? a = some { cls := .type "list", data := .seq vs.toArray }) (hi : IntsAre vs ns) (hl : ns.length ≤ sizeLine) (hr : Room k callerA)
    (F : ∀ base : Heap, K.In base → base.Ns mainGlobals mg → (∀ p ∈ cs, TabB base mg p.1 p.2) → FnG P w K mg base k fa fd [x] sp) (bind1 : ∀ (s : Shared) (u : Value), BindsTo s fd ⟨[u], []⟩ [(x, u)])
    (hsp : ∀ H : Hp, (∀ p ∈ cs, H p.2 = some (.tbl #[])) → SqL K H a (ns.map V.int) → sp [.ref a] H (fun v _ => v = .bl true) fun _ _ _ => False) :
    codeAny (model P w) callerA (.call (.ref fa) ⟨[.ref a], []⟩) (fun r s' => r = .ok (.ret (.bool true)) ∧ OldK s1.heap s'.heap ∧ s'.os = s1.os ∧ AllBare s'.gens) s1 := by
  have rel := vals_ints hi
  have lenV := hi.length
  have aT : a ∉ cs.map (·.2) := by
    intro m
    have z := tab_at hT m
    rw [ha] at z
    cases z
  have mem : ∀ p ∈ cs, p.2 ∈ cs.map (·.2) := fun p hp => List.mem_map.mpr ⟨p, hp, rfl⟩
  by_cases hk : K.lookup a = none
  · let H0 : Hp := fun b => if b = a then some (.frz { cls := .type "list", data := .seq vs.toArray } (.lst (ns.map V.int))) else if b ∈ cs.map (·.2) then some (.tbl #[]) else none
    have atA : H0 a = some (.frz { cls := .type "list", data := .seq vs.toArray } (.lst (ns.map V.int))) := if_pos rfl
    have atT : ∀ p ∈ cs, H0 p.2 = some (.tbl #[]) := fun p hp => (if_neg (show ¬ p.2 = a from fun e => aT (e ▸ mem p hp))).trans (if_pos (mem p hp))
    have S : Still P w K cs a s1.heap H0 := by
      refine ⟨atT, fun b u e => ?_, fun b u e => ?_⟩
      · by_cases q : b = a
        · subst q
          rw [atA] at e
          exact .inr ⟨rfl, hk, _, _, (Option.some.inj e).symm⟩
        · have e2 : H0 b = if b ∈ cs.map (·.2) then some (.tbl #[]) else none := if_neg q
          rw [e2] at e
          by_cases m : b ∈ cs.map (·.2)
          · rw [if_pos m] at e
            exact .inl ⟨m, (Option.some.inj e).symm⟩
          · rw [if_neg m] at e
            cases e
      · by_cases q : b = a
        · subst q
          rw [atA] at e
          obtain rfl := Option.some.inj e
          exact ⟨ha, by rw [List.length_map]; exact hl, vs, _, rel, ha⟩
        · have e2 : H0 b = if b ∈ cs.map (·.2) then some (.tbl #[]) else none := if_neg q
          rw [e2] at e
          by_cases m : b ∈ cs.map (·.2)
          · rw [if_pos m] at e
            obtain rfl := Option.some.inj e
            exact tab_at hT m
          · rw [if_neg m] at e
            cases e
    have hS : SqL K H0 a (ns.map V.int) := .inl (.inr ⟨_, atA⟩)
    exact still_call S KX hns hb hbb hlim hg hT nT C hbm ha hr hS F bind1 (hsp H0 atT hS)
  · obtain ⟨o, ho⟩ := Option.ne_none_iff_exists'.mp hk
    have eo := KX a o ho
    rw [ha] at eo
    obtain rfl := Option.some.inj eo
    let H0 : Hp := fun b => if b ∈ cs.map (·.2) then some (.tbl #[]) else none
    have atT : ∀ p ∈ cs, H0 p.2 = some (.tbl #[]) := fun p hp => if_pos (mem p hp)
    have S : Still P w K cs a s1.heap H0 := by
      refine ⟨atT, fun b u e => ?_, fun b u e => ?_⟩
      · by_cases m : b ∈ cs.map (·.2)
        · rw [show H0 b = some (.tbl #[]) from if_pos m] at e
          exact .inl ⟨m, (Option.some.inj e).symm⟩
        · rw [show H0 b = none from if_neg m] at e
          cases e
      · by_cases m : b ∈ cs.map (·.2)
        · rw [show H0 b = some (.tbl #[]) from if_pos m] at e
          obtain rfl := Option.some.inj e
          exact tab_at hT m
        · rw [show H0 b = none from if_neg m] at e
          cases e
    have hS : SqL K H0 a (ns.map V.int) := .inr ⟨_, vs.toArray, _, ho, rfl, rfl, rfl, by rw [List.size_toArray, lenV]; exact hl, by simpa using rel⟩
    exact still_call S KX hns hb hbb hlim hg hT nT C hbm ha hr hS F bind1 (hsp H0 atT hS)
end
/-- what the head's heap tells of the law -/
def LawG (l : PySem.W.OpenLaw) (w : World) (K : PySem.W.Frag) (k n : Nat) (x : Str) (mg : Str → Option Value) (fa : Addr) (h : Heap) : Prop :=
  ∃ (fd : FuncData) (cs : List (Addr × Addr)) (sp : Sp), (∀ p ∈ cs, h.get? p.2 = some emptyTab) ∧ (∀ p ∈ cs, K.lookup p.2 = none) ∧ (∀ p ∈ cs, PySem.W.CodeHd h p.1 p.2) ∧ (∀ (s : Shared) (u : Value), BindsTo s fd ⟨[u], []⟩ [(x, u)]) ∧
    (∀ (H : Hp) (a : Addr) (ns : List Int), ns.length ≤ n → (∀ z ∈ ns, Builtin.Int.intBits z ≤ 1048576) → (∀ p ∈ cs, H p.2 = some (.tbl #[])) → SqL K H a (ns.map V.int) → sp [.ref a] H (fun v _ => v = .bl true) fun _ _ _ => False) ∧
    ∀ base : Heap, K.In base → base.Ns mainGlobals mg → (∀ p ∈ cs, TabB base mg p.1 p.2) → FnG l.prog w K mg base k fa fd [x] sp
theorem walkG {l : PySem.W.OpenLaw} {n k : Nat} {q : Program} {loose : List Str} {XP : (Str → Option Value) → Heap → Prop} {YP : World → Heap → Prop} {d : DefRec} {K : Params → PySem.W.Frag} {x : Str}
    (hn : l.most = some n) (hn2 : n ≤ sizeLine) (hdf : d.params.defaults = []) (hr : Room k callerA) (hY : ∀ (w : World) (h : Heap), YP w h → (K w.params).In h)
    (F : ∀ (w : World) (mg : Str → Option Value) (fa : Addr) (h : Heap), YP w h → (K w.params).In h → h.Ns mainGlobals mg → mg d.name = some (.ref fa) → LawG l w (K w.params) k n x mg fa h) :
    PySem.W.WalkO q loose XP YP l.row.toRowW d [] (fun f vs => PySem.call f vs) := by
  apply Att.attach_callB hn hdf
  intro w s0 s1 mg mb fa o pm cd doc a vs ns G Y ho hd hcd hmg hobj hints hlen hbits hg
  have KX := hY w _ Y
  obtain ⟨fd, cs, sp, hT, nT, C, hb, hsp, hF⟩ := F w mg fa _ Y KX G.T.g hmg
  exact law_callG KX G.T.g G.T.b G.T.builtins G.T.nolimit hg hT nT C G.T.bmain hobj hints (Nat.le_trans hlen hn2) hr hF hb fun H hH hS => hsp H a ns hlen hbits hH hS
end My
end
section
set_option Elab.async false
set_option linter.all false
set_option maxRecDepth 100000
set_option maxHeartbeats 4000000
namespace My
open PySem PySem.Spec PyProof.Rows L2 LamX
/-- a class below a built-in one is told so -/
theorem kit_sub {K : PySem.W.Frag} {U : Addr} {T : String} (h : PySem.W.subIn K (.ref U) (.type T) = some true) (m : PySem.W.kitMeta T = true) : PySem.W.kitOne K (.ref U) (.type T) = some true := by
  show (if (Value.ref U == Value.type T) = true then some true else (if PySem.W.kitMeta T = true then PySem.W.subIn K (.ref U) (.type T) else none)) = some true
  rw [if_pos m, h]
  split <;> rfl
/-- an error of a class is caught by the class's name -/
theorem caught_self {K : PySem.W.Frag} {S : Addr} (h1 : PySem.W.subIn K (.ref S) (.type "BaseException") = some true) (h2 : PySem.W.isClsIn K S = true) (h3 : PySem.W.typeIn K (.ref S) = some (.type "type")) (h4 : PySem.W.subIn K (.ref S) (.ref S) = some true) : PySem.W.exmOne K (.ref S) (.ref S) = some true := by
  have h2 : (PySem.W.clsIn K S).isSome = true := h2
  show (if (PySem.W.subIn K (.ref S) (.type "BaseException") == some true) = true then (if ((PySem.W.clsIn K S).isSome && (PySem.W.typeIn K (.ref S) == some (.type "type"))) = true then PySem.W.subIn K (.ref S) (.ref S) else none) else none) = some true
  rw [h1, h2, h3, h4]
  rfl
theorem all_mk {l : PySem.W.OpenLaw} {w : World} {K : PySem.W.Frag} {h : Heap} {mg : Str → Option Value} {fa : Addr}
    {ocLi kVLi dcLi pmLi cdLi ctLi : Value} {odLi anLi : Option Addr} {slLi : Array (Option Value)} {fLi : Addr}
    {ocFs kVFs dcFs pmFs cdFs ctFs : Value} {odFs anFs : Option Addr} {slFs : Array (Option Value)} {fFs : Addr}
    {ocSi kVSi dcSi pmSi cdSi ctSi : Value} {odSi anSi : Option Addr} {slSi : Array (Option Value)} {fSi : Addr}
    {ocSe kVSe dcSe pmSe cdSe ctSe : Value} {odSe anSe : Option Addr} {slSe : Array (Option Value)} {fSe : Addr}
    {ocIk kVIk dcIk pmIk cdIk ctIk : Value} {odIk anIk : Option Addr} {slIk : Array (Option Value)} {fIk : Addr}
    {ocKt kVKt dcKt pmKt cdKt ctKt : Value} {odKt anKt : Option Addr} {slKt : Array (Option Value)} {fKt : Addr}
    {ocPa kVPa dcPa pmPa cdPa ctPa : Value} {odPa anPa : Option Addr} {slPa : Array (Option Value)} {fPa : Addr}
    {ocPe kVPe dcPe pmPe cdPe ctPe : Value} {odPe anPe : Option Addr} {slPe : Array (Option Value)} {fPe : Addr}
    {ocDr kVDr dcDr pmDr cdDr ctDr : Value} {odDr anDr : Option Addr} {slDr : Array (Option Value)} {fDr : Addr}
    {ocPi kVPi dcPi pmPi cdPi ctPi : Value} {odPi anPi : Option Addr} {slPi : Array (Option Value)} {fPi : Addr}
    {ocSh kVSh dcSh pmSh cdSh ctSh : Value} {odSh anSh : Option Addr} {slSh : Array (Option Value)} {fSh : Addr}
    {ocOd kVOd dcOd pmOd cdOd ctOd : Value} {odOd anOd : Option Addr} {slOd : Array (Option Value)} {fOd : Addr}
    {ocFo kVFo dcFo pmFo cdFo ctFo : Value} {odFo anFo : Option Addr} {slFo : Array (Option Value)} {fFo : Addr}
    {ocHe kVHe dcHe pmHe cdHe ctHe : Value} {odHe anHe : Option Addr} {slHe : Array (Option Value)} {fHe : Addr}
    {ocSn kVSn dcSn pmSn cdSn ctSn : Value} {odSn anSn : Option Addr} {slSn : Array (Option Value)} {fSn : Addr}
    {ocKi kVKi dcKi pmKi cdKi ctKi : Value} {odKi anKi : Option Addr} {slKi : Array (Option Value)} {fKi : Addr}
    {ocFl kVFl dcFl pmFl cdFl ctFl : Value} {odFl anFl : Option Addr} {slFl : Array (Option Value)} {fFl : Addr}
    {ocFm kVFm dcFm pmFm cdFm ctFm : Value} {odFm anFm : Option Addr} {slFm : Array (Option Value)} {fFm : Addr}
    {ocLk kVLk dcLk pmLk cdLk ctLk : Value} {odLk anLk : Option Addr} {slLk : Array (Option Value)} {fLk : Addr}
    {ocTo kVTo dcTo pmTo cdTo ctTo : Value} {odTo anTo : Option Addr} {slTo : Array (Option Value)} {fTo : Addr}
    {ocIn kVIn dcIn pmIn cdIn ctIn : Value} {odIn anIn : Option Addr} {slIn : Array (Option Value)} {fIn : Addr}
    {ocCo kVCo dcCo pmCo cdCo ctCo : Value} {odCo anCo : Option Addr} {slCo : Array (Option Value)} {fCo : Addr}
    {ocTu kVTu dcTu pmTu cdTu ctTu : Value} {odTu anTu : Option Addr} {slTu : Array (Option Value)} {fTu : Addr}
    {ocSw kVSw dcSw pmSw cdSw ctSw : Value} {odSw anSw : Option Addr} {slSw : Array (Option Value)} {fSw : Addr}
    {ocKe kVKe dcKe pmKe cdKe ctKe : Value} {odKe anKe : Option Addr} {slKe : Array (Option Value)} {fKe : Addr}
    {U fU : Addr} {nmU qU : Str} {NU : Addr} {bsU : List Value} {snU : List Str} {subU : List Value} {abU : Bool} {colU : Option Bool} {ddU : Option Addr} {m0U m1U m2U m3U m5U : Option Value} {ocU dcU pmU cdU ctU : Value} {odU anU : Option Addr} {slU : Array (Option Value)}
    {IK fIK : Addr} {nmIK qIK : Str} {NIK : Addr} {bsIK : List Value} {snIK : List Str} {subIK : List Value} {abIK : Bool} {colIK : Option Bool} {ddIK : Option Addr} {m0IK m1IK m2IK m3IK m5IK : Option Value} {ocIK dcIK pmIK cdIK ctIK : Value} {odIK anIK : Option Addr} {slIK : Array (Option Value)}
    {U2 : Addr}
    {U3 : Addr}
    {U4 : Addr}
    {U5 : Addr}
    {U6 : Addr}
    {ocLa kVLa dcLa pmLa ctLa : Value} {odLa anLa : Option Addr} {slLa : Array (Option Value)} {fLa : Addr}
    {C tD t0 cL PL : Addr} {ocD : Value} {odD odE : Option Addr} {nD nE : Nat} {slD slE : Array (Option Value)} {tm tA tB : Tok}
    (X : K.In h) (G : h.Ns mainGlobals mg) (hfa : mg "law" = some (.ref fa))
    (aLi : PySem.W.nsIn K mainGlobals "is_listed" = some (some (.ref fLi)))
    (lLi : K.lookup fLi = some ⟨ocLi, odLi, .func (PySem.W.fnOf "is_listed" "is_listed" (defArgs s_isListed) (defBody s_isListed) (defScope s_isListed) .none kVLi dcLi pmLi anLi cdLi ctLi), slLi⟩)
    (cLi : PySem.W.codeIn K cdLi "is_listed" = true)
    (kLi : PySem.W.keepIn K (.ref fLi) = true)
    (aFs : PySem.W.nsIn K mainGlobals "is_font_signs" = some (some (.ref fFs)))
    (lFs : K.lookup fFs = some ⟨ocFs, odFs, .func (PySem.W.fnOf "is_font_signs" "is_font_signs" (defArgs s_isFont) (defBody s_isFont) (defScope s_isFont) .none kVFs dcFs pmFs anFs cdFs ctFs), slFs⟩)
    (cFs : PySem.W.codeIn K cdFs "is_font_signs" = true)
    (kFs : PySem.W.keepIn K (.ref fFs) = true)
    (aSi : PySem.W.nsIn K mainGlobals "is_sign" = some (some (.ref fSi)))
    (lSi : K.lookup fSi = some ⟨ocSi, odSi, .func (PySem.W.fnOf "is_sign" "is_sign" (defArgs s_isSign) (defBody s_isSign) (defScope s_isSign) .none kVSi dcSi pmSi anSi cdSi ctSi), slSi⟩)
    (cSi : PySem.W.codeIn K cdSi "is_sign" = true)
    (kSi : PySem.W.keepIn K (.ref fSi) = true)
    (aSe : PySem.W.nsIn K mainGlobals "is_set" = some (some (.ref fSe)))
    (lSe : K.lookup fSe = some ⟨ocSe, odSe, .func (PySem.W.fnOf "is_set" "is_set" (defArgs s_isSet) (defBody s_isSet) (defScope s_isSet) .none kVSe dcSe pmSe anSe cdSe ctSe), slSe⟩)
    (cSe : PySem.W.codeIn K cdSe "is_set" = true)
    (kSe : PySem.W.keepIn K (.ref fSe) = true)
    (aIk : PySem.W.nsIn K mainGlobals "is_kind" = some (some (.ref fIk)))
    (lIk : K.lookup fIk = some ⟨ocIk, odIk, .func (PySem.W.fnOf "is_kind" "is_kind" (defArgs s_isKind) (defBody s_isKind) (defScope s_isKind) .none kVIk dcIk pmIk anIk cdIk ctIk), slIk⟩)
    (cIk : PySem.W.codeIn K cdIk "is_kind" = true)
    (kIk : PySem.W.keepIn K (.ref fIk) = true)
    (aKt : PySem.W.nsIn K mainGlobals "kept_turns" = some (some (.ref fKt)))
    (lKt : K.lookup fKt = some ⟨ocKt, odKt, .func (PySem.W.fnOf "kept_turns" "kept_turns" (defArgs s_kept) (defBody s_kept) (defScope s_kept) .none kVKt dcKt pmKt anKt cdKt ctKt), slKt⟩)
    (cKt : PySem.W.codeIn K cdKt "kept_turns" = true)
    (kKt : PySem.W.keepIn K (.ref fKt) = true)
    (aPa : PySem.W.nsIn K mainGlobals "_is_pair" = some (some (.ref fPa)))
    (lPa : K.lookup fPa = some ⟨ocPa, odPa, .func (PySem.W.fnOf "_is_pair" "_is_pair" (defArgs s_isPair) (defBody s_isPair) (defScope s_isPair) .none kVPa dcPa pmPa anPa cdPa ctPa), slPa⟩)
    (cPa : PySem.W.codeIn K cdPa "_is_pair" = true)
    (kPa : PySem.W.keepIn K (.ref fPa) = true)
    (aPe : PySem.W.nsIn K mainGlobals "_law_pen" = some (some (.ref fPe)))
    (lPe : K.lookup fPe = some ⟨ocPe, odPe, .func (PySem.W.fnOf "_law_pen" "_law_pen" (defArgs s_pen) (defBody s_pen) (defScope s_pen) .none kVPe dcPe pmPe anPe cdPe ctPe), slPe⟩)
    (cPe : PySem.W.codeIn K cdPe "_law_pen" = true)
    (kPe : PySem.W.keepIn K (.ref fPe) = true)
    (aDr : PySem.W.nsIn K mainGlobals "_law_draw" = some (some (.ref fDr)))
    (lDr : K.lookup fDr = some ⟨ocDr, odDr, .func (PySem.W.fnOf "_law_draw" "_law_draw" (defArgs s_draw) (defBody s_draw) (defScope s_draw) .none kVDr dcDr pmDr anDr cdDr ctDr), slDr⟩)
    (cDr : PySem.W.codeIn K cdDr "_law_draw" = true)
    (kDr : PySem.W.keepIn K (.ref fDr) = true)
    (aPi : PySem.W.nsIn K mainGlobals "_law_pick" = some (some (.ref fPi)))
    (lPi : K.lookup fPi = some ⟨ocPi, odPi, .func (PySem.W.fnOf "_law_pick" "_law_pick" (defArgs s_pick) (defBody s_pick) (defScope s_pick) .none kVPi dcPi pmPi anPi cdPi ctPi), slPi⟩)
    (cPi : PySem.W.codeIn K cdPi "_law_pick" = true)
    (kPi : PySem.W.keepIn K (.ref fPi) = true)
    (aSh : PySem.W.nsIn K mainGlobals "_law_shuffled" = some (some (.ref fSh)))
    (lSh : K.lookup fSh = some ⟨ocSh, odSh, .func (PySem.W.fnOf "_law_shuffled" "_law_shuffled" (defArgs s_shuf) (defBody s_shuf) (defScope s_shuf) .none kVSh dcSh pmSh anSh cdSh ctSh), slSh⟩)
    (cSh : PySem.W.codeIn K cdSh "_law_shuffled" = true)
    (kSh : PySem.W.keepIn K (.ref fSh) = true)
    (aOd : PySem.W.nsIn K mainGlobals "_law_odd" = some (some (.ref fOd)))
    (lOd : K.lookup fOd = some ⟨ocOd, odOd, .func (PySem.W.fnOf "_law_odd" "_law_odd" (defArgs s_odd) (defBody s_odd) (defScope s_odd) .none kVOd dcOd pmOd anOd cdOd ctOd), slOd⟩)
    (cOd : PySem.W.codeIn K cdOd "_law_odd" = true)
    (kOd : PySem.W.keepIn K (.ref fOd) = true)
    (aFo : PySem.W.nsIn K mainGlobals "_law_font" = some (some (.ref fFo)))
    (lFo : K.lookup fFo = some ⟨ocFo, odFo, .func (PySem.W.fnOf "_law_font" "_law_font" (defArgs s_font) (defBody s_font) (defScope s_font) .none kVFo dcFo pmFo anFo cdFo ctFo), slFo⟩)
    (cFo : PySem.W.codeIn K cdFo "_law_font" = true)
    (kFo : PySem.W.keepIn K (.ref fFo) = true)
    (aHe : PySem.W.nsIn K mainGlobals "_law_heads" = some (some (.ref fHe)))
    (lHe : K.lookup fHe = some ⟨ocHe, odHe, .func (PySem.W.fnOf "_law_heads" "_law_heads" (defArgs s_heads) (defBody s_heads) (defScope s_heads) .none kVHe dcHe pmHe anHe cdHe ctHe), slHe⟩)
    (cHe : PySem.W.codeIn K cdHe "_law_heads" = true)
    (kHe : PySem.W.keepIn K (.ref fHe) = true)
    (aSn : PySem.W.nsIn K mainGlobals "_law_seen" = some (some (.ref fSn)))
    (lSn : K.lookup fSn = some ⟨ocSn, odSn, .func (PySem.W.fnOf "_law_seen" "_law_seen" (defArgs s_seen) (defBody s_seen) (defScope s_seen) .none kVSn dcSn pmSn anSn cdSn ctSn), slSn⟩)
    (cSn : PySem.W.codeIn K cdSn "_law_seen" = true)
    (kSn : PySem.W.keepIn K (.ref fSn) = true)
    (aKi : PySem.W.nsIn K mainGlobals "_law_kinds" = some (some (.ref fKi)))
    (lKi : K.lookup fKi = some ⟨ocKi, odKi, .func (PySem.W.fnOf "_law_kinds" "_law_kinds" (defArgs s_kinds) (defBody s_kinds) (defScope s_kinds) .none kVKi dcKi pmKi anKi cdKi ctKi), slKi⟩)
    (cKi : PySem.W.codeIn K cdKi "_law_kinds" = true)
    (kKi : PySem.W.keepIn K (.ref fKi) = true)
    (aFl : PySem.W.nsIn K mainGlobals "_law_flipped" = some (some (.ref fFl)))
    (lFl : K.lookup fFl = some ⟨ocFl, odFl, .func (PySem.W.fnOf "_law_flipped" "_law_flipped" (defArgs s_flip) (defBody s_flip) (defScope s_flip) .none kVFl dcFl pmFl anFl cdFl ctFl), slFl⟩)
    (cFl : PySem.W.codeIn K cdFl "_law_flipped" = true)
    (kFl : PySem.W.keepIn K (.ref fFl) = true)
    (aFm : PySem.W.nsIn K mainGlobals "_law_font_made" = some (some (.ref fFm)))
    (lFm : K.lookup fFm = some ⟨ocFm, odFm, .func (PySem.W.fnOf "_law_font_made" "_law_font_made" (defArgs s_fmade) (defBody s_fmade) (defScope s_fmade) .none kVFm dcFm pmFm anFm cdFm ctFm), slFm⟩)
    (cFm : PySem.W.codeIn K cdFm "_law_font_made" = true)
    (kFm : PySem.W.keepIn K (.ref fFm) = true)
    (aLk : PySem.W.nsIn K mainGlobals "_law_is_kind" = some (some (.ref fLk)))
    (lLk : K.lookup fLk = some ⟨ocLk, odLk, .func (PySem.W.fnOf "_law_is_kind" "_law_is_kind" (defArgs s_lisKind) (defBody s_lisKind) (defScope s_lisKind) .none kVLk dcLk pmLk anLk cdLk ctLk), slLk⟩)
    (cLk : PySem.W.codeIn K cdLk "_law_is_kind" = true)
    (kLk : PySem.W.keepIn K (.ref fLk) = true)
    (aTo : PySem.W.nsIn K mainGlobals "_law_told" = some (some (.ref fTo)))
    (lTo : K.lookup fTo = some ⟨ocTo, odTo, .func (PySem.W.fnOf "_law_told" "_law_told" (defArgs s_told) (defBody s_told) (defScope s_told) .none kVTo dcTo pmTo anTo cdTo ctTo), slTo⟩)
    (cTo : PySem.W.codeIn K cdTo "_law_told" = true)
    (kTo : PySem.W.keepIn K (.ref fTo) = true)
    (aC : PySem.W.nsIn K mainGlobals "Font" = some (some (.ref C)))
    (aIn : PySem.W.findIn K (.ref C) "__init__" = some (some (.ref fIn)))
    (iIn : PySem.W.isFn K (.ref fIn) = true)
    (lIn : K.lookup fIn = some ⟨ocIn, odIn, .func (PySem.W.fnOf "__init__" "Font.__init__" (defArgs s_init) (defBody s_init) (defScope s_init) (.ref tD) kVIn dcIn pmIn anIn cdIn ctIn), slIn⟩)
    (cIn : PySem.W.codeIn K cdIn "Font.__init__" = true)
    (kIn : PySem.W.keepIn K (.ref fIn) = true)
    (aCo : PySem.W.findIn K (.ref C) "__contains__" = some (some (.ref fCo)))
    (iCo : PySem.W.isFn K (.ref fCo) = true)
    (lCo : K.lookup fCo = some ⟨ocCo, odCo, .func (PySem.W.fnOf "__contains__" "Font.__contains__" (defArgs s_fcont) (defBody s_fcont) (defScope s_fcont) .none kVCo dcCo pmCo anCo cdCo ctCo), slCo⟩)
    (cCo : PySem.W.codeIn K cdCo "Font.__contains__" = true)
    (kCo : PySem.W.keepIn K (.ref fCo) = true)
    (aTu : PySem.W.findIn K (.ref C) "turned" = some (some (.ref fTu)))
    (iTu : PySem.W.isFn K (.ref fTu) = true)
    (lTu : K.lookup fTu = some ⟨ocTu, odTu, .func (PySem.W.fnOf "turned" "Font.turned" (defArgs s_turned) (defBody s_turned) (defScope s_turned) .none kVTu dcTu pmTu anTu cdTu ctTu), slTu⟩)
    (cTu : PySem.W.codeIn K cdTu "Font.turned" = true)
    (kTu : PySem.W.keepIn K (.ref fTu) = true)
    (aSw : PySem.W.findIn K (.ref C) "shown" = some (some (.ref fSw)))
    (iSw : PySem.W.isFn K (.ref fSw) = true)
    (lSw : K.lookup fSw = some ⟨ocSw, odSw, .func (PySem.W.fnOf "shown" "Font.shown" (defArgs s_shownM) (defBody s_shownM) (defScope s_shownM) .none kVSw dcSw pmSw anSw cdSw ctSw), slSw⟩)
    (cSw : PySem.W.codeIn K cdSw "Font.shown" = true)
    (kSw : PySem.W.keepIn K (.ref fSw) = true)
    (aKe : PySem.W.findIn K (.ref C) "kept" = some (some (.ref fKe)))
    (iKe : PySem.W.isFn K (.ref fKe) = true)
    (lKe : K.lookup fKe = some ⟨ocKe, odKe, .func (PySem.W.fnOf "kept" "Font.kept" (defArgs s_keptM) (defBody s_keptM) (defScope s_keptM) .none kVKe dcKe pmKe anKe cdKe ctKe), slKe⟩)
    (cKe : PySem.W.codeIn K cdKe "Font.kept" = true)
    (kKe : PySem.W.keepIn K (.ref fKe) = true)
    (lD : K.lookup tD = some ⟨ocD, odD, .seq #[Value.ref t0] nD, slD⟩)
    (lE : K.lookup t0 = some ⟨.type "tuple", odE, .seq #[] nE, slE⟩)
    (rd : PySem.W.readsIn K C (.type "type") = true)
    (ga : PySem.W.specialIn K (.ref C) "__getattribute__" = some (some (.builtin "type.__getattribute__")))
    (mv : PySem.W.findCls K (.ref C) (.type "type") "MAX_SIGNS" = some (.val (.int 10 tm)))
    (pg : PySem.W.plainGet K C Str.empty = true)
    (hd : PySem.W.hasDictIn K C = true)
    (po : PySem.W.plainOver K C = true)
    (sa : PySem.W.findIn K (.ref C) "__setattr__" = some (some (.builtin "object.__setattr__")))
    (mk : PySem.W.makesIn K C = true)
    (kC : PySem.W.keepIn K (.ref C) = true)
    (nS : PySem.W.findIn K (.ref C) "_signs" = some none)
    (nT : PySem.W.findIn K (.ref C) "_turns" = some none)
    (aA : PySem.W.nsIn K mainGlobals "ALPHABET" = some (some (.str alphabet tA)))
    (aB : PySem.W.nsIn K mainGlobals "BLANK" = some (some (.str "-" tB)))
    (aU : PySem.W.nsIn K mainGlobals "UnknownSign" = some (some (.ref U)))
    (xU : K.lookup U = some (excClassObj nmU qU U NU bsU bmKey true snU subU abU colU ddU m0U m1U m2U m3U m5U "LookupError.__new__"))
    (sU : PySem.W.findIn K (.ref U) "__setattr__" = some (some (.builtin "object.__setattr__")))
    (gU : PySem.W.findIn K (.ref U) "__getattribute__" = some (some (.builtin "BaseException.__getattribute__")))
    (hU : PySem.W.findIn K (.ref U) "__getattr__" = some none)
    (nU : PySem.W.findIn K (.ref U) "value" = some none)
    (iU : PySem.W.findIn K (.ref U) "__init__" = some (some (.ref fU)))
    (tU : PySem.W.typeIn K (.ref fU) = some (.type "function"))
    (lU : K.lookup fU = some ⟨ocU, odU, .func (PySem.W.fnOf "__init__" "UnknownSign.__init__" (eArgs "value" ⟨32, 17, 32, 21⟩ ⟨32, 23, 32, 28⟩) (eBody "value" ⟨33, 8, 33, 12⟩ ⟨33, 8, 33, 18⟩ ⟨33, 21, 33, 26⟩ ⟨33, 8, 33, 26⟩) (eScope "value") .none .none dcU pmU anU cdU ctU), slU⟩)
    (cU : PySem.W.codeIn K cdU "UnknownSign.__init__" = true)
    (kU : PySem.W.keepIn K (.ref U) = true)
    (eU : PySem.W.subIn K (.ref U) (.type "BaseException") = some true)
    (yU : PySem.W.typeIn K (.ref U) = some (.type "type"))
    (dU : PySem.W.hasDictIn K U = true)
    (bU : PySem.W.isClsIn K U = true)
    (zU : PySem.W.subIn K (.ref U) (.ref U) = some true)
    (aIK : PySem.W.nsIn K mainGlobals "InvalidKind" = some (some (.ref IK)))
    (xIK : K.lookup IK = some (excClassObj nmIK qIK IK NIK bsIK bmValue true snIK subIK abIK colIK ddIK m0IK m1IK m2IK m3IK m5IK "ValueError.__new__"))
    (sIK : PySem.W.findIn K (.ref IK) "__setattr__" = some (some (.builtin "object.__setattr__")))
    (gIK : PySem.W.findIn K (.ref IK) "__getattribute__" = some (some (.builtin "BaseException.__getattribute__")))
    (hIK : PySem.W.findIn K (.ref IK) "__getattr__" = some none)
    (nIK : PySem.W.findIn K (.ref IK) "value" = some none)
    (iIK : PySem.W.findIn K (.ref IK) "__init__" = some (some (.ref fIK)))
    (tIK : PySem.W.typeIn K (.ref fIK) = some (.type "function"))
    (lIK : K.lookup fIK = some ⟨ocIK, odIK, .func (PySem.W.fnOf "__init__" "InvalidKind.__init__" (eArgs "value" ⟨18, 17, 18, 21⟩ ⟨18, 23, 18, 28⟩) (eBody "value" ⟨19, 8, 19, 12⟩ ⟨19, 8, 19, 18⟩ ⟨19, 21, 19, 26⟩ ⟨19, 8, 19, 26⟩) (eScope "value") .none .none dcIK pmIK anIK cdIK ctIK), slIK⟩)
    (cIK : PySem.W.codeIn K cdIK "InvalidKind.__init__" = true)
    (kIK : PySem.W.keepIn K (.ref IK) = true)
    (eIK : PySem.W.subIn K (.ref IK) (.type "BaseException") = some true)
    (yIK : PySem.W.typeIn K (.ref IK) = some (.type "type"))
    (dIK : PySem.W.hasDictIn K IK = true)
    (bIK : PySem.W.isClsIn K IK = true)
    (zIK : PySem.W.subIn K (.ref IK) (.ref IK) = some true)
    (vIK : PySem.W.subIn K (.ref IK) (.type "ValueError") = some true)
    (aU2 : PySem.W.nsIn K mainGlobals "InvalidNumber" = some (some (.ref U2)))
    (aU3 : PySem.W.nsIn K mainGlobals "TooFew" = some (some (.ref U3)))
    (aU4 : PySem.W.nsIn K mainGlobals "TooMany" = some (some (.ref U4)))
    (aU5 : PySem.W.nsIn K mainGlobals "OtherFont" = some (some (.ref U5)))
    (aU6 : PySem.W.nsIn K mainGlobals "InvalidSigns" = some (some (.ref U6)))
    (zint : PySem.W.nsIn K mainGlobals "int" = some none)
    (zlen : PySem.W.nsIn K mainGlobals "len" = some none)
    (zabs : PySem.W.nsIn K mainGlobals "abs" = some none)
    (zlist : PySem.W.nsIn K mainGlobals "list" = some none)
    (ztuple : PySem.W.nsIn K mainGlobals "tuple" = some none)
    (zstr : PySem.W.nsIn K mainGlobals "str" = some none)
    (zset : PySem.W.nsIn K mainGlobals "set" = some none)
    (zall : PySem.W.nsIn K mainGlobals "all" = some none)
    (zisinstance : PySem.W.nsIn K mainGlobals "isinstance" = some none)
    (zrepr : PySem.W.nsIn K mainGlobals "repr" = some none)
    (zrange : PySem.W.nsIn K mainGlobals "range" = some none)
    (zValueError : PySem.W.nsIn K mainGlobals "ValueError" = some none)
    (aLa : PySem.W.nsIn K mainGlobals "law" = some (some (.ref fLa)))
    (lLa : K.lookup fLa = some ⟨ocLa, odLa, .func (PySem.W.fnOf "law" "law" (defArgs s_law) (defBody s_law) (defScope s_law) .none kVLa dcLa pmLa anLa (.ref cL) ctLa), slLa⟩)
    (cLa : PySem.W.codeIn K (.ref cL) "law" = true)
    (tb : h.get? PL = some emptyTab)
    (ch : PySem.W.codeHdIn K cL PL = true)
    (nP : K.lookup PL = none) :
    LawG l w K 8 63 "_law_script" mg fa h := by
  have e := hfa.symm.trans (PySem.W.mg_of X G aLa)
  cases e
  have T : TB mg := ⟨PySem.W.mg_none_of X G zint, PySem.W.mg_none_of X G zlen, PySem.W.mg_none_of X G zabs, PySem.W.mg_none_of X G zlist, PySem.W.mg_none_of X G ztuple, PySem.W.mg_none_of X G zstr, PySem.W.mg_none_of X G zset, PySem.W.mg_none_of X G zall, PySem.W.mg_none_of X G zisinstance, PySem.W.mg_none_of X G zrepr, PySem.W.mg_none_of X G zrange⟩
  have TD : TDraw mg := ⟨T.int, T.len, T.abs⟩
  have gF := PySem.W.mg_of X G aC
  have gA := PySem.W.mg_of X G aA
  have gB := PySem.W.mg_of X G aB
  have FLi := fun_mk (st := s_isListed) lLi cLi kLi
  have DLi : Def K mg "is_listed" fLi _ ["value"] := ⟨PySem.W.mg_of X G aLi, kLi, FLi.binds (ps := ["value"]) fun _ _ _ _ _ _ us hl => match us, hl with | [_], _ => rfl⟩
  have FFs := fun_mk (st := s_isFont) lFs cFs kFs
  have DFs : Def K mg "is_font_signs" fFs _ ["value"] := ⟨PySem.W.mg_of X G aFs, kFs, FFs.binds (ps := ["value"]) fun _ _ _ _ _ _ us hl => match us, hl with | [_], _ => rfl⟩
  have FSi := fun_mk (st := s_isSign) lSi cSi kSi
  have DSi : Def K mg "is_sign" fSi _ ["signs", "value"] := ⟨PySem.W.mg_of X G aSi, kSi, FSi.binds (ps := ["signs", "value"]) fun _ _ _ _ _ _ us hl => match us, hl with | [_, _], _ => rfl⟩
  have FSe := fun_mk (st := s_isSet) lSe cSe kSe
  have DSe : Def K mg "is_set" fSe _ ["signs", "value"] := ⟨PySem.W.mg_of X G aSe, kSe, FSe.binds (ps := ["signs", "value"]) fun _ _ _ _ _ _ us hl => match us, hl with | [_, _], _ => rfl⟩
  have FIk := fun_mk (st := s_isKind) lIk cIk kIk
  have DIk : Def K mg "is_kind" fIk _ ["signs", "value"] := ⟨PySem.W.mg_of X G aIk, kIk, FIk.binds (ps := ["signs", "value"]) fun _ _ _ _ _ _ us hl => match us, hl with | [_, _], _ => rfl⟩
  have FKt := fun_mk (st := s_kept) lKt cKt kKt
  have DKt : Def K mg "kept_turns" fKt _ ["signs", "turns"] := ⟨PySem.W.mg_of X G aKt, kKt, FKt.binds (ps := ["signs", "turns"]) fun _ _ _ _ _ _ us hl => match us, hl with | [_, _], _ => rfl⟩
  have FPa := fun_mk (st := s_isPair) lPa cPa kPa
  have DPa : Def K mg "_is_pair" fPa _ ["signs", "value"] := ⟨PySem.W.mg_of X G aPa, kPa, FPa.binds (ps := ["signs", "value"]) fun _ _ _ _ _ _ us hl => match us, hl with | [_, _], _ => rfl⟩
  have FPe := fun_mk (st := s_pen) lPe cPe kPe
  have DPe : Def K mg "_law_pen" fPe _ ["_law_script"] := ⟨PySem.W.mg_of X G aPe, kPe, FPe.binds (ps := ["_law_script"]) fun _ _ _ _ _ _ us hl => match us, hl with | [_], _ => rfl⟩
  have FDr := fun_mk (st := s_draw) lDr cDr kDr
  have DDr : Def K mg "_law_draw" fDr _ ["_law_pen_here", "_law_many"] := ⟨PySem.W.mg_of X G aDr, kDr, FDr.binds (ps := ["_law_pen_here", "_law_many"]) fun _ _ _ _ _ _ us hl => match us, hl with | [_, _], _ => rfl⟩
  have FPi := fun_mk (st := s_pick) lPi cPi kPi
  have DPi : Def K mg "_law_pick" fPi _ ["_law_pen_here", "_law_options"] := ⟨PySem.W.mg_of X G aPi, kPi, FPi.binds (ps := ["_law_pen_here", "_law_options"]) fun _ _ _ _ _ _ us hl => match us, hl with | [_, _], _ => rfl⟩
  have FSh := fun_mk (st := s_shuf) lSh cSh kSh
  have DSh : Def K mg "_law_shuffled" fSh _ ["_law_pen_here", "_law_items"] := ⟨PySem.W.mg_of X G aSh, kSh, FSh.binds (ps := ["_law_pen_here", "_law_items"]) fun _ _ _ _ _ _ us hl => match us, hl with | [_, _], _ => rfl⟩
  have FOd := fun_mk (st := s_odd) lOd cOd kOd
  have DOd : Def K mg "_law_odd" fOd _ ["_law_pen_here"] := ⟨PySem.W.mg_of X G aOd, kOd, FOd.binds (ps := ["_law_pen_here"]) fun _ _ _ _ _ _ us hl => match us, hl with | [_], _ => rfl⟩
  have FFo := fun_mk (st := s_font) lFo cFo kFo
  have DFo : Def K mg "_law_font" fFo _ ["_law_pen_here", "_law_most"] := ⟨PySem.W.mg_of X G aFo, kFo, FFo.binds (ps := ["_law_pen_here", "_law_most"]) fun _ _ _ _ _ _ us hl => match us, hl with | [_, _], _ => rfl⟩
  have FHe := fun_mk (st := s_heads) lHe cHe kHe
  have DHe : Def K mg "_law_heads" fHe _ ["_law_turns"] := ⟨PySem.W.mg_of X G aHe, kHe, FHe.binds (ps := ["_law_turns"]) fun _ _ _ _ _ _ us hl => match us, hl with | [_], _ => rfl⟩
  have FSn := fun_mk (st := s_seen) lSn cSn kSn
  have DSn : Def K mg "_law_seen" fSn _ ["_law_font_here", "_law_kind"] := ⟨PySem.W.mg_of X G aSn, kSn, FSn.binds (ps := ["_law_font_here", "_law_kind"]) fun _ _ _ _ _ _ us hl => match us, hl with | [_, _], _ => rfl⟩
  have FKi := fun_mk (st := s_kinds) lKi cKi kKi
  have DKi : Def K mg "_law_kinds" fKi _ ["_law_signs"] := ⟨PySem.W.mg_of X G aKi, kKi, FKi.binds (ps := ["_law_signs"]) fun _ _ _ _ _ _ us hl => match us, hl with | [_], _ => rfl⟩
  have FFl := fun_mk (st := s_flip) lFl cFl kFl
  have DFl : Def K mg "_law_flipped" fFl _ ["_law_pen_here", "_law_pair"] := ⟨PySem.W.mg_of X G aFl, kFl, FFl.binds (ps := ["_law_pen_here", "_law_pair"]) fun _ _ _ _ _ _ us hl => match us, hl with | [_, _], _ => rfl⟩
  have FFm := fun_mk (st := s_fmade) lFm cFm kFm
  have DFm : Def K mg "_law_font_made" fFm _ ["_law_pen_here", "_law_font_here"] := ⟨PySem.W.mg_of X G aFm, kFm, FFm.binds (ps := ["_law_pen_here", "_law_font_here"]) fun _ _ _ _ _ _ us hl => match us, hl with | [_, _], _ => rfl⟩
  have FLk := fun_mk (st := s_lisKind) lLk cLk kLk
  have DLk : Def K mg "_law_is_kind" fLk _ ["_law_signs", "_law_value"] := ⟨PySem.W.mg_of X G aLk, kLk, FLk.binds (ps := ["_law_signs", "_law_value"]) fun _ _ _ _ _ _ us hl => match us, hl with | [_, _], _ => rfl⟩
  have FTo := fun_mk (st := s_told) lTo cTo kTo
  have DTo : Def K mg "_law_told" fTo _ ["_law_call"] := ⟨PySem.W.mg_of X G aTo, kTo, FTo.binds (ps := ["_law_call"]) fun _ _ _ _ _ _ us hl => match us, hl with | [_], _ => rfl⟩
  have FCo := fun_mk (st := s_fcont) lCo cCo kCo
  have bCo : Binds K _ ["self", "x"] [] := FCo.binds (ps := ["self", "x"]) fun _ _ _ _ _ _ us hl => match us, hl with | [_, _], _ => rfl
  have FTu := fun_mk (st := s_turned) lTu cTu kTu
  have bTu : Binds K _ ["self", "sign"] [] := FTu.binds (ps := ["self", "sign"]) fun _ _ _ _ _ _ us hl => match us, hl with | [_, _], _ => rfl
  have FSw := fun_mk (st := s_shownM) lSw cSw kSw
  have bSw : Binds K _ ["self", "kind"] [] := FSw.binds (ps := ["self", "kind"]) fun _ _ _ _ _ _ us hl => match us, hl with | [_, _], _ => rfl
  have FKe := fun_mk (st := s_keptM) lKe cKe kKe
  have bKe : Binds K _ ["self", "kind"] [] := FKe.binds (ps := ["self", "kind"]) fun _ _ _ _ _ _ us hl => match us, hl with | [_, _], _ => rfl
  have FIn : FunD K "__init__" "Font.__init__" (defArgs s_init) (defBody s_init) (defScope s_init) [V.ref t0] [] fIn (PySem.W.fnOf "__init__" "Font.__init__" (defArgs s_init) (defBody s_init) (defScope s_init) (.ref tD) kVIn dcIn pmIn anIn cdIn ctIn) := ⟨⟨_, _, .ref tD, _, _, _, _, _, _, _, rfl, lIn, cIn, .inr ⟨(fun z => by cases z), tD, _, [.ref t0], nD, rfl, lD, rfl, .cons rfl .nil⟩, .inl rfl⟩, kIn⟩
  have bI : Binds K (PySem.W.fnOf "__init__" "Font.__init__" (defArgs s_init) (defBody s_init) (defScope s_init) (.ref tD) kVIn dcIn pmIn anIn cdIn ctIn) ["self", "signs", "turns"] [] := by
    obtain ⟨ds, hds, b⟩ := FIn.binds1 (ps := ["self", "signs", "turns"]) 3 1 (fun z => by cases z) rfl (fun _ _ _ _ _ _ _ us its hl hi => match us, its, hl, hi with | [_, _, _], [_], _, _ => ⟨_, rfl, rfl⟩)
    cases hds
    exact b
  have cl : Cls K C := ⟨pg, hd, po, sa⟩
  have M : Mk K C fIn := ⟨mk, aIn, iIn, kC⟩
  have rC : ClX.CRead K C (.type "type") := ⟨rd, ga⟩
  have cM : ClX.CVal K C (.type "type") "MAX_SIGNS" (.int 10) (.int 10 tm) := ⟨mv, ⟨_, rfl⟩⟩
  have UE : ErrC K mg "UnknownSign" "value" "UnknownSign.__init__" "LookupError" "LookupError.__new__" "LookupError.__init__" bmLookup bmKey U fU :=
    { facts := PySem.F.excBase_LookupError, chain := chain_Key, gC := PySem.W.mg_of X G aU, cls := ⟨nmU, qU, NU, bsU, snU, subU, abU, colU, ddU, m0U, m1U, m2U, m3U, m5U, xU⟩, sa := sU, ga := gU, gg := hU, noN := nU, iC := iU, tC := tU, kC := kU, exC := eU, tyC := yU, hdC := dU, te := caught_self eU bU yU zU,
      fn := ⟨_, _, _, _, _, _, _, _, _, _, _, _, _, _, lU, cU⟩ }
  have VE : VErr K mg "InvalidKind" "InvalidKind.__init__" IK fIK :=
    { facts := PySem.F.excBase_ValueError, chain := chain_Value, gC := PySem.W.mg_of X G aIK, cls := ⟨nmIK, qIK, NIK, bsIK, snIK, subIK, abIK, colIK, ddIK, m0IK, m1IK, m2IK, m3IK, m5IK, xIK⟩, sa := sIK, ga := gIK, gg := hIK, noN := nIK, iC := iIK, tC := tIK, kC := kIK, exC := eIK, tyC := yIK, hdC := dIK, te := caught_self eIK bIK yIK zIK,
      fn := ⟨_, _, _, _, _, _, _, _, _, _, _, _, _, _, lIK, cIK⟩ }
  refine ⟨PySem.W.fnOf "law" "law" (defArgs s_law) (defBody s_law) (defScope s_law) .none kVLa dcLa pmLa anLa (.ref cL) ctLa, [(cL, PL)], sp_law K PL, fun p hp => ?_, fun p hp => ?_, fun p hp => ?_, fun s u => .of_eq rfl, fun H a ns hl _ hH hS => ?_, fun base KB GB TBs => ?_⟩
  · rw [List.mem_singleton.mp hp]
    exact tb
  · rw [List.mem_singleton.mp hp]
    exact nP
  · rw [List.mem_singleton.mp hp]
    exact PySem.W.codeHd_of_K X ch
  · refine ⟨a, ns, rfl, hS, hl, fun p hp => ?_, fun H' => rfl⟩
    rw [List.mem_singleton.mp hp]
    exact LamX.TabS.nil (hH _ (List.mem_singleton.mpr rfl))
  · have GLi := ok_isListed (P := l.prog) (w := w) (base := base) FLi T
    have GSi := ok_isSign (P := l.prog) (w := w) (base := base) FSi T
    have GSe := ok_isSet (P := l.prog) (w := w) (base := base) FSe T
    have GFs := ok_isFont (P := l.prog) (w := w) (base := base) FFs T DSe GSe gF ⟨⟨_, _, rC, cM⟩⟩ gA
    have GPa := ok_isPair (P := l.prog) (w := w) (base := base) FPa T DSi GSi
    have GKt := ok_kept (P := l.prog) (w := w) (base := base) FKt T DLi GLi DPa GPa
    have GPe := ok_pen (P := l.prog) (w := w) (base := base) FPe T.list
    have GDr := ok_draw (P := l.prog) (w := w) (base := base) FDr TD
    have GPi := ok_pick (P := l.prog) (w := w) (base := base) FPi TD DDr GDr
    have GSh := ok_shuf (P := l.prog) (w := w) (base := base) FSh TD T.list DDr GDr
    have GOd := ok_odd (P := l.prog) (w := w) (base := base) FOd DPi GPi
    have GFo := ok_font (P := l.prog) (w := w) (base := base) FFo DDr GDr DPi GPi DSh GSh
    have GHe := ok_heads (P := l.prog) (w := w) (mg := mg) (base := base) FHe
    have GFl := ok_flip (P := l.prog) (w := w) (base := base) FFl DPi GPi
    have GIk := ok_isKind (P := l.prog) (w := w) (base := base) FIk T gB
    have GSn := ok_seen (P := l.prog) (w := w) (base := base) FSn DHe GHe
    have GKi := ok_kinds (P := l.prog) (w := w) (base := base) FKi T
    have GIn := ok_init (P := l.prog) (w := w) (base := base) FIn cl nS nT DFs GFs DKt GKt
    have GFm := ok_fmade (P := l.prog) (w := w) (base := base) FFm M GIn bI gF DSh GSh DFl GFl
    have GLk := ok_lisKind (P := l.prog) (w := w) (base := base) FLk T
    have GCo := ok_fcont (P := l.prog) (w := w) (base := base) FCo cl nS DSi GSi
    have GTu := ok_turned (P := l.prog) (w := w) (base := base) FTu cl nT ⟨aCo, iCo⟩ GCo bCo UE
    have GKe := ok_keptM (P := l.prog) (w := w) (base := base) FKe cl nS gB DIk GIk VE
    have GSw := ok_shownM (P := l.prog) (w := w) (base := base) FSw cl nS gB ⟨aKe, iKe, kKe⟩ GKe bKe ⟨aTu, iTu, kTu⟩ GTu bTu
    exact ok_law lLa cLa T (PySem.W.mg_none_of X G zValueError) VE (kit_sub vIK (by decide +kernel)) (PySem.W.mg_of X G aU2) (PySem.W.mg_of X G aU3) (PySem.W.mg_of X G aU4) (PySem.W.mg_of X G aU5) (PySem.W.mg_of X G aU6) (TBs _ (List.mem_singleton.mpr rfl)) DPe GPe DFo GFo DPi GPi DFm GFm DKi GKi DSn GSn FTo DTo DLk GLk DOd GOd cl ⟨aKe, iKe, kKe⟩ GKe bKe ⟨aSw, iSw, kSw⟩ GSw bSw
end My
end
open PySem PySem.W PyProof.Rows
set_option maxRecDepth 100000 in
set_option maxHeartbeats 0 in
theorem PySem.Challenge.cw_hymnplates_k03_kinds_holds : PySem.Challenge.rw_hymnplates_k03_kinds.Holds := by
  w_on; o_law; k_head; (case hw => w_witness2)
  k_fill
  refine My.walkG (l := PySem.Challenge.rw_hymnplates_k03_kinds) (n := 63) (k := 8) (x := "_law_script") rfl (by decide) rfl ⟨rfl, by decide, by decide⟩ (fun w h Y => PySem.W.km_in_of Y) ?F
  case F =>
    intro w mg fa h Y KX G hmg
    refine' My.all_mk KX G hmg ?aLi ?lLi ?cLi ?kLi ?aFs ?lFs ?cFs ?kFs ?aSi ?lSi ?cSi ?kSi ?aSe ?lSe ?cSe ?kSe ?aIk ?lIk ?cIk ?kIk ?aKt ?lKt ?cKt ?kKt ?aPa ?lPa ?cPa ?kPa ?aPe ?lPe ?cPe ?kPe ?aDr ?lDr ?cDr ?kDr ?aPi ?lPi ?cPi ?kPi ?aSh ?lSh ?cSh ?kSh ?aOd ?lOd ?cOd ?kOd ?aFo ?lFo ?cFo ?kFo ?aHe ?lHe ?cHe ?kHe ?aSn ?lSn ?cSn ?kSn ?aKi ?lKi ?cKi ?kKi ?aFl ?lFl ?cFl ?kFl ?aFm ?lFm ?cFm ?kFm ?aLk ?lLk ?cLk ?kLk ?aTo ?lTo ?cTo ?kTo ?aC ?aIn ?iIn ?lIn ?cIn ?kIn ?aCo ?iCo ?lCo ?cCo ?kCo ?aTu ?iTu ?lTu ?cTu ?kTu ?aSw ?iSw ?lSw ?cSw ?kSw ?aKe ?iKe ?lKe ?cKe ?kKe ?lD ?lE ?rd ?ga ?mv ?pg ?hd ?po ?sa ?mk ?kC ?nS ?nT ?aA ?aB ?aU ?xU ?sU ?gU ?hU ?nU ?iU ?tU ?lU ?cU ?kU ?eU ?yU ?dU ?bU ?zU ?aIK ?xIK ?sIK ?gIK ?hIK ?nIK ?iIK ?tIK ?lIK ?cIK ?kIK ?eIK ?yIK ?dIK ?bIK ?zIK ?vIK ?aU2 ?aU3 ?aU4 ?aU5 ?aU6 ?zint ?zlen ?zabs ?zlist ?ztuple ?zstr ?zset ?zall ?zisinstance ?zrepr ?zrange ?zValueError ?aLa ?lLa ?cLa ?tb ?ch ?nP
    (case tb => exact PySem.W.km_tabs_of Y _ (List.Mem.head _))
    (case aLi => k_is)
    (case lLi => k_is)
    (case cLi => k_is)
    (case kLi => k_is)
    (case aFs => k_is)
    (case lFs => k_is)
    (case cFs => k_is)
    (case kFs => k_is)
    (case aSi => k_is)
    (case lSi => k_is)
    (case cSi => k_is)
    (case kSi => k_is)
    (case aSe => k_is)
    (case lSe => k_is)
    (case cSe => k_is)
    (case kSe => k_is)
    (case aIk => k_is)
    (case lIk => k_is)
    (case cIk => k_is)
    (case kIk => k_is)
    (case aKt => k_is)
    (case lKt => k_is)
    (case cKt => k_is)
    (case kKt => k_is)
    (case aPa => k_is)
    (case lPa => k_is)
    (case cPa => k_is)
    (case kPa => k_is)
    (case aPe => k_is)
    (case lPe => k_is)
    (case cPe => k_is)
    (case kPe => k_is)
    (case aDr => k_is)
    (case lDr => k_is)
    (case cDr => k_is)
    (case kDr => k_is)
    (case aPi => k_is)
    (case lPi => k_is)
    (case cPi => k_is)
    (case kPi => k_is)
    (case aSh => k_is)
    (case lSh => k_is)
    (case cSh => k_is)
    (case kSh => k_is)
    (case aOd => k_is)
    (case lOd => k_is)
    (case cOd => k_is)
    (case kOd => k_is)
    (case aFo => k_is)
    (case lFo => k_is)
    (case cFo => k_is)
    (case kFo => k_is)
    (case aHe => k_is)
    (case lHe => k_is)
    (case cHe => k_is)
    (case kHe => k_is)
    (case aSn => k_is)
    (case lSn => k_is)
    (case cSn => k_is)
    (case kSn => k_is)
    (case aKi => k_is)
    (case lKi => k_is)
    (case cKi => k_is)
    (case kKi => k_is)
    (case aFl => k_is)
    (case lFl => k_is)
    (case cFl => k_is)
    (case kFl => k_is)
    (case aFm => k_is)
    (case lFm => k_is)
    (case cFm => k_is)
    (case kFm => k_is)
    (case aLk => k_is)
    (case lLk => k_is)
    (case cLk => k_is)
    (case kLk => k_is)
    (case aTo => k_is)
    (case lTo => k_is)
    (case cTo => k_is)
    (case kTo => k_is)
    (case aC => k_is)
    (case aIn => k_is)
    (case iIn => k_is)
    (case lIn => k_is)
    (case cIn => k_is)
    (case kIn => k_is)
    (case aCo => k_is)
    (case iCo => k_is)
    (case lCo => k_is)
    (case cCo => k_is)
    (case kCo => k_is)
    (case aTu => k_is)
    (case iTu => k_is)
    (case lTu => k_is)
    (case cTu => k_is)
    (case kTu => k_is)
    (case aSw => k_is)
    (case iSw => k_is)
    (case lSw => k_is)
    (case cSw => k_is)
    (case kSw => k_is)
    (case aKe => k_is)
    (case iKe => k_is)
    (case lKe => k_is)
    (case cKe => k_is)
    (case kKe => k_is)
    (case lD => k_is)
    (case lE => k_is)
    (case rd => k_is)
    (case ga => k_is)
    (case mv => k_is)
    (case pg => k_is)
    (case hd => k_is)
    (case po => k_is)
    (case sa => k_is)
    (case mk => k_is)
    (case kC => k_is)
    (case nS => k_is)
    (case nT => k_is)
    (case aA => k_is)
    (case aB => k_is)
    (case aU => k_is)
    (case xU => k_is)
    (case sU => k_is)
    (case gU => k_is)
    (case hU => k_is)
    (case nU => k_is)
    (case iU => k_is)
    (case tU => k_is)
    (case lU => k_is)
    (case cU => k_is)
    (case kU => k_is)
    (case eU => k_is)
    (case yU => k_is)
    (case dU => k_is)
    (case bU => k_is)
    (case zU => k_is)
    (case aIK => k_is)
    (case xIK => k_is)
    (case sIK => k_is)
    (case gIK => k_is)
    (case hIK => k_is)
    (case nIK => k_is)
    (case iIK => k_is)
    (case tIK => k_is)
    (case lIK => k_is)
    (case cIK => k_is)
    (case kIK => k_is)
    (case eIK => k_is)
    (case yIK => k_is)
    (case dIK => k_is)
    (case bIK => k_is)
    (case zIK => k_is)
    (case vIK => k_is)
    (case aU2 => k_is)
    (case aU3 => k_is)
    (case aU4 => k_is)
    (case aU5 => k_is)
    (case aU6 => k_is)
    (case zint => k_is)
    (case zlen => k_is)
    (case zabs => k_is)
    (case zlist => k_is)
    (case ztuple => k_is)
    (case zstr => k_is)
    (case zset => k_is)
    (case zall => k_is)
    (case zisinstance => k_is)
    (case zrepr => k_is)
    (case zrange => k_is)
    (case zValueError => k_is)
    (case aLa => k_is)
    (case lLa => k_is)
    (case cLa => k_is)
    (case ch => rfl)
    (case nP => rfl)
